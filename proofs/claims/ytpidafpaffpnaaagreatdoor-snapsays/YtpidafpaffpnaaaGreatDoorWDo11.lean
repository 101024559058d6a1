/- What the landed tree's Do does. -/
import Derived.Test.YtpidafpaffpnaaaGreatDoorWChg11
namespace Go.Proofs.YtpidafpaffpnaaaGreatDoor.Tq
open Kq
theorem doo_ok {t : Tr} {o : O} {s z : Int} {x : X} {t' : Tr} (hd : doo t o s z = (x, t')) : (x.err ≠ 0 ∧ t' = t) ∨ (x.err = 0 ∧ Oq.good o = 0 ∧ Pl.goodB x.path.data.toList = true ∧
    ((o.kind = 1 ∧ find t.l x.path = none ∧ (t.l.length : Int) < t.room ∧ t' = { t with l := ins (named t.l (up x.path) x.path) x.path (new z x.owner o.data) }) ∨
     (o.kind = 2 ∧ (∃ n, find t.l x.path = some n) ∧ t' = { t with l := orphan (del t.l x.path) x.path }) ∨
     (o.kind = 3 ∧ ∃ n, find t.l x.path = some n ∧ t' = { t with l := set t.l x.path (write n z o.data) }) ∨ (4 ≤ o.kind ∧ t' = t))) := by
  unfold doo at hd
  by_cases hg : Oq.good o = 0
  · have hp := good_path hg
    rw [if_neg (by simp [hg])] at hd
    by_cases hs : s < 1 ∨ z < 0
    · rw [if_pos hs] at hd
      obtain ⟨rfl, rfl⟩ := Prod.mk.inj hd
      exact Or.inl ⟨by simp [fail], rfl⟩
    rw [if_neg hs] at hd
    by_cases hk : o.kind = 1
    · rw [if_pos hk] at hd
      by_cases h1 : (placeT t o).2 = 0
      · obtain ⟨h2, h3⟩ := create_may (t := t) (s := s) (z := z) hp h1
        rw [h2, make_may] at hd
        by_cases h4 : mayT t (placeT t o).1 ≠ 0
        · rw [if_pos h4] at hd
          obtain ⟨rfl, rfl⟩ := Prod.mk.inj hd
          exact Or.inl ⟨h4, rfl⟩
        · rw [if_neg h4] at hd
          obtain ⟨rfl, rfl⟩ := Prod.mk.inj hd
          have h5 : mayT t (placeT t o).1 = 0 := Classical.not_not.1 h4
          unfold mayT at h5
          cases hf : find t.l (placeT t o).1 with
          | some n => rw [hf] at h5; cases h5
          | none =>
            rw [hf] at h5
            simp only [] at h5
            refine Or.inr ⟨rfl, hg, h3, Or.inl ⟨hk, hf, ?_, rfl⟩⟩
            by_cases h6 : t.room ≤ (t.l.length : Int)
            · rw [if_pos h6] at h5; cases h5
            · omega
      · rw [create_no h1] at hd
        obtain ⟨rfl, rfl⟩ := Prod.mk.inj hd
        exact Or.inl ⟨h1, rfl⟩
    · rw [if_neg hk] at hd
      have hk7 := Oq.head_no (good_zero hg).1
      cases hf : find t.l o.path with
      | none =>
        rw [hf] at hd
        obtain ⟨rfl, rfl⟩ := Prod.mk.inj hd
        exact Or.inl ⟨by simp [fail], rfl⟩
      | some n =>
        rw [hf] at hd
        simp only [] at hd
        unfold atNode at hd
        split at hd
        · obtain ⟨rfl, rfl⟩ := Prod.mk.inj hd
          exact Or.inl ⟨by simp [fail], rfl⟩
        split at hd
        · rename_i h2
          split at hd
          · obtain ⟨rfl, rfl⟩ := Prod.mk.inj hd
            exact Or.inl ⟨by simp [fail], rfl⟩
          · obtain ⟨rfl, rfl⟩ := Prod.mk.inj hd
            exact Or.inr ⟨rfl, hg, hp, Or.inr (Or.inl ⟨h2, ⟨n, hf⟩, rfl⟩)⟩
        split at hd
        · rename_i h3
          obtain ⟨rfl, rfl⟩ := Prod.mk.inj hd
          exact Or.inr ⟨rfl, hg, hp, Or.inr (Or.inr (Or.inl ⟨h3, n, hf, rfl⟩))⟩
        have h4 : 4 ≤ o.kind := by omega
        split at hd
        · obtain ⟨rfl, rfl⟩ := Prod.mk.inj hd
          exact Or.inr ⟨rfl, hg, hp, Or.inr (Or.inr (Or.inr ⟨h4, rfl⟩))⟩
        split at hd
        · obtain ⟨rfl, rfl⟩ := Prod.mk.inj hd
          exact Or.inr ⟨rfl, hg, hp, Or.inr (Or.inr (Or.inr ⟨h4, rfl⟩))⟩
        split at hd
        · obtain ⟨rfl, rfl⟩ := Prod.mk.inj hd
          exact Or.inr ⟨rfl, hg, hp, Or.inr (Or.inr (Or.inr ⟨h4, rfl⟩))⟩
        · obtain ⟨rfl, rfl⟩ := Prod.mk.inj hd
          exact Or.inr ⟨rfl, hg, hp, Or.inr (Or.inr (Or.inr ⟨h4, rfl⟩))⟩
  · rw [if_pos hg] at hd
    obtain ⟨rfl, rfl⟩ := Prod.mk.inj hd
    exact Or.inl ⟨hg, rfl⟩
end Go.Proofs.YtpidafpaffpnaaaGreatDoor.Tq
namespace Go.Proofs.YtpidafpaffpnaaaGreatDoor
open Go.RowKit
/-- Texts that are there lie in a block that is there. -/
theorem sq_lt {w : World} {v : Value} {l : List ByteArray} (h : Sq w v l) (hl : l ≠ []) {k : Nat} (hk : v.ownBlock = some k) : k < w.heap.size := by
  obtain ⟨av, j, c, rfl, _, _, _, hs⟩ := h
  cases l with
  | nil => exact absurd rfl hl
  | cons s l =>
    obtain ⟨g, o, e, hc⟩ := hs 0 s rfl
    subst e
    simp only [Value.ownBlock, Option.some.injEq] at hk
    subst hk
    exact World.block_lt_of_cell? w _ hc
theorem sq_moved {w w' : World} {F F' : Nat → Prop} {v : Value} {l : List ByteArray} (h : Sq w v l) (hm : Moved w w' F F') (hv : ∀ k, v.ownBlock = some k → ¬ F k) : Sq w' v l := by
  obtain ⟨av, k, c, rfl, hk, hkc, hn, hs⟩ := h
  refine ⟨av, k, c, rfl, hk, hkc, hn, fun j s hj => ?_⟩
  obtain ⟨g, o, e, hc⟩ := hs j s hj
  exact ⟨g, o, e, (World.cell?_of_block (hm.block g (World.block_lt_of_cell? w _ hc) (hv g (by rw [e]; rfl)))).trans hc⟩
theorem ltk_keep {w w' : World} {q : Nat} {t : Tq.Tr} {G : Nat → Prop} (h : LTk w q t G) (hk : ∀ k, G k → w'.heap[k]? = w.heap[k]?) : LTk w' q t G := by
  obtain ⟨m, D, P, V, h⟩ := h
  exact ⟨m, D, P, V, h.keep hk⟩
theorem ltk_lt {w : World} {q : Nat} {t : Tq.Tr} {G : Nat → Prop} {k : Nat} (h : LTk w q t G) (hk : G k) : k < w.heap.size := by
  obtain ⟨m, D, P, V, h⟩ := h
  exact h.glt k hk
/-- The result is handed out. -/
theorem do_fin {W w2 w3 : World} {q b r : Nat} {o : O} {t' : Tq.Tr} {G G' : Nat → Prop} {v : Value} {l : List ByteArray} (hfr : Fr11 W w2 b r o) (hL : LTk w3 q t' G') (hm : Moved w2 w3 G G') (hG : ∀ k, G k → k < W.heap.size) (hsq : Sq w2 v l) (hv : ∀ k, v.ownBlock = some k → r < k) (ds : Array Value) :
    Sq (w3.setRow r ds) v l ∧ (l ≠ [] → Off11 G' v) ∧ LTk (w3.setRow r ds) q t' G' ∧ Moved W (w3.setRow r ds) G G' := by
  have h1 := hfr.ne
  have h2 := hfr.hi
  have hr := hfr.res.lt
  have hrG : ¬ G' r := fun e => by
    rcases hm.sub r e with e | e
    · have := hG r e
      omega
    · omega
  have hvG : ∀ k, v.ownBlock = some k → ¬ G k := fun k hk e => by
    have := hG k e
    have := hv k hk
    omega
  have h3 := (Moved.of_below G hfr.below).trans hm
  refine ⟨sq_rowed (sq_moved hsq hm hvG) (fun k hk => by have := hv k hk; omega), fun hl k hk e => ?_, ltk_keep hL (fun k hk => setRow_other w3 r k ds (fun e => hrG (e ▸ hk))), ⟨h3.os, h3.tape, h3.output, by rw [setRow_size]; exact h3.size, fun k hk hF => (setRow_other w3 r k ds (by omega)).trans (h3.block k hk hF), h3.sub⟩⟩
  have h4 := sq_lt hsq hl hk
  rcases hm.sub k e with e | e
  · exact hvG k hk e
  · omega
section
variable {w : World} {q m : Nat} {t : Tq.Tr} {G : Nat → Prop} {D : DataW Nat} {P : ByteArray → Nat} {V : ByteArray → Value}
/-- What change does, at whatever Try has answered without an error. -/
theorem change_any11 {t' : Tq.Tr} (o : O) (s z : Int) (x : X) (ra : Option Addr) (rk rc : Nat) (h : TkU w q t G m D P V) (hf : Fine11 t) (h6 : ∀ k, G k → 6 ≤ k) (hS : Pa.Std w) (hd : Tq.doo t o s z = (x, t')) (he : x.err = 0) :
    Calls Tryz.prog 50 #[dptr q, ov o, .int .i64 z, rv x (.slice ra rk rc)] w fun e w' => e = .returned (.tuple #[]) ∧ ∃ G', LTk w' q t' G' ∧ Moved w w' G G' := by
  rcases Tq.doo_ok hd with ⟨h1, _⟩ | ⟨_, hg, hp, hc⟩
  · exact absurd he h1
  have hd1 := (Tq.good_zero hg).2.1
  rcases hc with ⟨hk, hn, hl, rfl⟩ | ⟨hk, ⟨n, hn⟩, rfl⟩ | ⟨hk, n, hn, rfl⟩ | ⟨hk, rfl⟩
  · exact change_make11 o z x ra rk rc h hf h6 hS hk hd1 hp hn hl
  · exact change_gone11 o z x n ra rk rc h hf h6 hS hk hp hn
  · exact change_set11 o z x n ra rk rc h hf hS hk hd1 hp hn
  · refine (change_none11 o z x ra rk rc h hS hk).mono ?_
    rintro e w' ⟨rfl, h1, h2⟩
    exact ⟨rfl, G, ⟨_, _, _, _, h1⟩, h2⟩

set_option maxRecDepth 20000 in
set_option maxHeartbeats 4000000 in
theorem do_any11 (o : O) (s z : Int) (h : TkU w q t G m D P V) (hf : Fine11 t) (h6 : ∀ k, G k → 6 ≤ k) (hS : Pa.Std w) (ho : OFit o) :
    Calls Tryz.prog 14 #[dptr q, ov o, .int .i64 s, .int .i64 z] w fun e w' => ∃ F' u, e = .returned (rv (Tq.doo t o s z).1 u) ∧ Sq w' u (Tq.doo t o s z).1.names ∧ ((Tq.doo t o s z).1.names ≠ [] → Off11 F' u) ∧ LTk w' q (Tq.doo t o s z).2 F' ∧ Moved w w' G F' ∧ ∀ k, u.ownBlock = some k → w.heap.size ≤ k := by
  have HFR : Hid (Fr11 w ((w.alloc (.cells #[.int .i64 o.kind, .string o.path, .string o.data, .int .i64 o.ver, .int .i64 o.flags] 33)).alloc (.cells #[.int .i64 0, .string ⟨#[]⟩, .string ⟨#[]⟩, .slice none 0 0, .int .i64 0, .int .i64 0, .int .i64 0, .int .i64 0, .int .i64 0, .int .i64 0, .int .i64 0] 44)) w.heap.size (w.heap.size + 1) o) := Fr11.made w o
  have HD : Hid (TkU ((w.alloc (.cells #[.int .i64 o.kind, .string o.path, .string o.data, .int .i64 o.ver, .int .i64 o.flags] 33)).alloc (.cells #[.int .i64 0, .string ⟨#[]⟩, .string ⟨#[]⟩, .slice none 0 0, .int .i64 0, .int .i64 0, .int .i64 0, .int .i64 0, .int .i64 0, .int .i64 0, .int .i64 0] 44)) q t G m D P V ∧ Pa.Std ((w.alloc (.cells #[.int .i64 o.kind, .string o.path, .string o.data, .int .i64 o.ver, .int .i64 o.flags] 33)).alloc (.cells #[.int .i64 0, .string ⟨#[]⟩, .string ⟨#[]⟩, .slice none 0 0, .int .i64 0, .int .i64 0, .int .i64 0, .int .i64 0, .int .i64 0, .int .i64 0, .int .i64 0] 44))) := ⟨h.below HFR.out.below, hS.below HFR.out.below⟩
  have HS : Hid (Fine11 t ∧ OFit o ∧ (∀ k, G k → 6 ≤ k) ∧ ∀ k, G k → k < w.heap.size) := ⟨hf, ho, h6, h.glt⟩
  obtain ⟨b, hbw⟩ : ∃ b, b = w.heap.size := ⟨_, rfl⟩
  obtain ⟨r, hrw⟩ : ∃ r, r = w.heap.size + 1 := ⟨_, rfl⟩
  rw [← hrw, ← hbw] at HFR
  obtain ⟨x, t', hxt⟩ : ∃ x t', Tq.doo t o s z = (x, t') := ⟨_, _, rfl⟩
  rw [hxt]
  have HTR : Hid (∀ w, TkU w q t G m D P V → Pa.Std w → Calls Tryz.prog 16 #[dptr q, ov o, .int .i64 s, .int .i64 z] w fun e w' => ∃ u, e = .returned (rv x u) ∧ Sq w' u x.names ∧ (∀ k, u.ownBlock = some k → w.heap.size ≤ k) ∧ Below w.heap.size w w') := fun w h hS => by
    have key := try_any11 o s z h hf hS ho
    rw [hxt] at key
    exact key
  have HCH : Hid (∀ w (ra : Option Addr) (rk rc : Nat), TkU w q t G m D P V → Pa.Std w → x.err = 0 → Calls Tryz.prog 50 #[dptr q, ov o, .int .i64 z, rv x (.slice ra rk rc)] w fun e w' => e = .returned (.tuple #[]) ∧ ∃ G', LTk w' q t' G' ∧ Moved w w' G G') := fun w ra rk rc h hS he => change_any11 o s z x ra rk rc h hf h6 hS hxt he
  have HX : Hid (x.err ≠ 0 → t' = t) := fun he => (Tq.doo_ok hxt).elim (fun h => h.2) (fun h => absurd h.1 he)
  clear h hS hf ho h6 hxt
  unfold ov at HTR
  unfold ov rv at HCH
  unfold ov
  go_enter Tryz.func14, Tryz.ntmps14
  go_wp2_with fail
  rw [← hrw, ← hbw]
  clear hrw hbw
  generalize ((w.alloc (.cells #[.int .i64 o.kind, .string o.path, .string o.data, .int .i64 o.ver, .int .i64 o.flags] 33)).alloc (.cells #[.int .i64 0, .string ⟨#[]⟩, .string ⟨#[]⟩, .slice none 0 0, .int .i64 0, .int .i64 0, .int .i64 0, .int .i64 0, .int .i64 0, .int .i64 0, .int .i64 0] 44)) = w0 at *
  refine (HTR.out w0 HD.out.1 HD.out.2).mono ?_
  rintro e w1 ⟨u, rfl, hsq, hnw, hb⟩
  obtain ⟨ra, rk, rc, hu, hj⟩ := hsq
  have H1 : Hid (Fr11 w w1 b r o ∧ TkU w1 q t G m D P V ∧ Pa.Std w1 ∧ Sq w1 (.slice ra rk rc) x.names ∧ (∀ k, (Value.slice ra rk rc).ownBlock = some k → w0.heap.size ≤ k) ∧ r < w0.heap.size) := ⟨HFR.out.later hb, HD.out.1.below hb, HD.out.2.below hb, ⟨_, _, _, rfl, hj⟩, by rw [← hu]; exact hnw, HFR.out.res.lt⟩
  subst hu
  clear hj hnw hb HD HFR
  obtain ⟨rr, hrr⟩ : ∃ rr, rr = w1.heap.size := ⟨_, rfl⟩
  have H2 : Hid (Fr11 w (w1.alloc (.cells #[.int .i64 x.err, .string x.path, .string x.data, .slice ra rk rc, .int .i64 x.made, .int .i64 x.changed, .int .i64 x.ver, .int .i64 x.kids, .int .i64 x.owner, .int .i64 x.len, .int .i64 x.cnt] 44)) b r o ∧ TkU (w1.alloc (.cells #[.int .i64 x.err, .string x.path, .string x.data, .slice ra rk rc, .int .i64 x.made, .int .i64 x.changed, .int .i64 x.ver, .int .i64 x.kids, .int .i64 x.owner, .int .i64 x.len, .int .i64 x.cnt] 44)) q t G m D P V ∧ Pa.Std (w1.alloc (.cells #[.int .i64 x.err, .string x.path, .string x.data, .slice ra rk rc, .int .i64 x.made, .int .i64 x.changed, .int .i64 x.ver, .int .i64 x.kids, .int .i64 x.owner, .int .i64 x.len, .int .i64 x.cnt] 44)) ∧ Sq (w1.alloc (.cells #[.int .i64 x.err, .string x.path, .string x.data, .slice ra rk rc, .int .i64 x.made, .int .i64 x.changed, .int .i64 x.ver, .int .i64 x.kids, .int .i64 x.owner, .int .i64 x.len, .int .i64 x.cnt] 44)) (.slice ra rk rc) x.names ∧ (∀ k, (Value.slice ra rk rc).ownBlock = some k → w0.heap.size ≤ k) ∧ r < w0.heap.size ∧ Cb (w1.alloc (.cells #[.int .i64 x.err, .string x.path, .string x.data, .slice ra rk rc, .int .i64 x.made, .int .i64 x.changed, .int .i64 x.ver, .int .i64 x.kids, .int .i64 x.owner, .int .i64 x.len, .int .i64 x.cnt] 44)) rr (xc x (.slice ra rk rc)) 44 ∧ r < rr) := by
    have hba := (Below.refl _ w1).alloc (Nat.le_refl _) (.cells (xc x (.slice ra rk rc)).toArray 44)
    exact ⟨H1.out.1.later hba, H1.out.2.1.below hba, H1.out.2.2.1.below hba, H1.out.2.2.2.1.below hba, H1.out.2.2.2.2.1, H1.out.2.2.2.2.2, by rw [hrr]; exact Cb.made w1 _ _, by rw [hrr]; exact H1.out.1.res.lt⟩
  unfold rv
  go_upto_region 2 with fail
  rw [← hrr]
  clear hrr H1
  generalize (w1.alloc (.cells #[.int .i64 x.err, .string x.path, .string x.data, .slice ra rk rc, .int .i64 x.made, .int .i64 x.changed, .int .i64 x.ver, .int .i64 x.kids, .int .i64 x.owner, .int .i64 x.len, .int .i64 x.cnt] 44)) = w2 at *
  have e0 : w2.cell? ⟨rr, 0, none⟩ = some (.int .i64 x.err) := H2.out.2.2.2.2.2.2.1.cell 0
  by_cases he : x.err = 0
  · have hkb : (x.err == 0) = true := by simp [he]
    have HE : Hid (x.err = 0) := he
    clear he
    obtain ⟨c0, c1, c2, c3, c4⟩ := H2.out.1.op.all
    go_wp2_with (refine wpList_load_row rfl 44 _ rfl rr rfl 44 #[.int .i64 x.err, .string x.path, .string x.data, .slice ra rk rc, .int .i64 x.made, .int .i64 x.changed, .int .i64 x.ver, .int .i64 x.kids, .int .i64 x.owner, .int .i64 x.len, .int .i64 x.cnt] (0, 0) _ H2.out.2.2.2.2.2.2.1 Tryz.underlying44 rfl (by kernel_rfl) ?_)
    refine (HCH.out w2 ra rk rc H2.out.2.1 H2.out.2.2.1 HE.out).mono ?_
    rintro e w3 ⟨rfl, G', hL, hmv⟩
    have hrn : ∀ k, w.heap.size ≤ k → ¬ G k := fun k hk e => by have := HS.out.2.2.2 k e; omega
    have H3 : Hid (Cb w3 r (xc (Tq.fail 0) (.slice none 0 0)) 44 ∧ Cb w3 rr (xc x (.slice ra rk rc)) 44 ∧ LTk w3 q t' G' ∧ Moved w2 w3 G G') := by
      have h1 := H2.out.1.ne
      have h2 := H2.out.1.hi
      have h3 := H2.out.2.2.2.2.2.2.2
      exact ⟨H2.out.1.res.keep (hmv.block r H2.out.1.res.lt (hrn r (by omega))), H2.out.2.2.2.2.2.2.1.keep (hmv.block rr H2.out.2.2.2.2.2.2.1.lt (hrn rr (by omega))), hL, hmv⟩
    clear hL hmv hrn c0 c1 c2 c3 c4 e0
    go_wp2_with (first
      | (refine wpList_load_row rfl 44 _ rfl rr rfl 44 #[.int .i64 x.err, .string x.path, .string x.data, .slice ra rk rc, .int .i64 x.made, .int .i64 x.changed, .int .i64 x.ver, .int .i64 x.kids, .int .i64 x.owner, .int .i64 x.len, .int .i64 x.cnt] (0, 0) _ H3.out.2.1 Tryz.underlying44 rfl (by kernel_rfl) ?_)
      | (refine wpList_store_row rfl 44 _ _ rfl r (xc x (.slice ra rk rc)).toArray rfl rfl 44 _ H3.out.1 (by kernel_rfl) rfl (by kernel_rfl) ?_))
    have H9 := do_fin H2.out.1 H3.out.2.2.1 H3.out.2.2.2 HS.out.2.2.2 H2.out.2.2.2.1 (fun k hk => by have := H2.out.2.2.2.2.1 k hk; have := H2.out.2.2.2.2.2.1; omega) (xc x (.slice ra rk rc)).toArray
    refine bodyPost_ret (v := .agg (xc x (.slice ra rk rc)).toArray) ?_ rfl ⟨G', _, rfl, H9.1, H9.2.1, H9.2.2.1, H9.2.2.2, fun k hk => by have h1 := H2.out.1.ne; have h2 := H2.out.1.hi; have h3 := H2.out.2.2.2.2.1 k hk; have h4 := H2.out.2.2.2.2.2.1; omega⟩
    exact results_cell_row rfl _ _ r 44 _ (0, 0) _ rfl (H3.out.1.rowed (xc x (.slice ra rk rc))) Tryz.underlying44 rfl (by kernel_rfl)
  · have hkb : (x.err == 0) = false := by simp [he]
    have HE : Hid (t' = t) := HX.out he
    clear he
    go_wp2_with (first
      | (refine wpList_load_row rfl 44 _ rfl rr rfl 44 #[.int .i64 x.err, .string x.path, .string x.data, .slice ra rk rc, .int .i64 x.made, .int .i64 x.changed, .int .i64 x.ver, .int .i64 x.kids, .int .i64 x.owner, .int .i64 x.len, .int .i64 x.cnt] (0, 0) _ H2.out.2.2.2.2.2.2.1 Tryz.underlying44 rfl (by kernel_rfl) ?_)
      | (refine wpList_store_row rfl 44 _ _ rfl r (xc x (.slice ra rk rc)).toArray rfl rfl 44 _ H2.out.1.res (by kernel_rfl) rfl (by kernel_rfl) ?_))
    have H9 := do_fin (t' := t') (G' := G) H2.out.1 (by rw [HE.out]; exact ⟨_, _, _, _, H2.out.2.1⟩) (Moved.refl w2 G) HS.out.2.2.2 H2.out.2.2.2.1 (fun k hk => by have := H2.out.2.2.2.2.1 k hk; have := H2.out.2.2.2.2.2.1; omega) (xc x (.slice ra rk rc)).toArray
    refine bodyPost_ret (v := .agg (xc x (.slice ra rk rc)).toArray) ?_ rfl ⟨G, _, rfl, H9.1, H9.2.1, H9.2.2.1, H9.2.2.2, fun k hk => by have h1 := H2.out.1.ne; have h2 := H2.out.1.hi; have h3 := H2.out.2.2.2.2.1 k hk; have h4 := H2.out.2.2.2.2.2.1; omega⟩
    exact results_cell_row rfl _ _ r 44 _ (0, 0) _ rfl (H2.out.1.res.rowed (xc x (.slice ra rk rc))) Tryz.underlying44 rfl (by kernel_rfl)
end
end Go.Proofs.YtpidafpaffpnaaaGreatDoor
