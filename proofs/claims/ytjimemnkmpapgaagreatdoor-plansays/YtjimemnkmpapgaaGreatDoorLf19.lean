/- What PlanSays' walk needs besides. PlanSays' walk, votes not fit. -/
import Derived.Test.YtjimemnkmpapgaaGreatDoorLt19
import Derived.Test.YtjimemnkmpapgaaGreatDoorPlainL19
import Derived.Test.YtjimemnkmpapgaaGreatDoorRv19
import Derived.Test.YtjimemnkmpapgaaGreatDoorRx19
import Derived.Test.YtjimemnkmpapgaaGreatDoorWq19
import Derived.Test.YtjimemnkmpapgaaGreatDoorWFunc
import Derived.Test.YtjimemnkmpapgaaGreatDoorRSameQ
import Derived.Test.YtjimemnkmpapgaaGreatDoorSo19
namespace Go.Proofs.YtjimemnkmpapgaaGreatDoor
open Go.RowKit

/-- How long a list is. -/
def lenV19 : Value → Nat
  | .slice _ n _ => n
  | _ => 0
/-- The first of them. -/
theorem Kd.At.pre {α : Type} {K : Kd α} {w : World} {a : Option Addr} {n c k : Nat} {l : List α} (h : K.At w (.slice a n c) l) (hk : k ≤ l.length) : K.At w (.slice a k c) (l.take k) := by
  obtain ⟨av, n', c', hv, hn, hc, hs⟩ := h
  simp only [Value.slice.injEq] at hv
  obtain ⟨rfl, rfl, rfl⟩ := hv
  refine ⟨_, _, _, rfl, by rw [List.length_take]; omega, hc, fun j x hx => hs j x ?_⟩
  rw [List.getElem?_take] at hx
  split at hx
  · exact hx
  · cases hx
theorem rl_cb19 {w : World} {g n : Nat} {xs : List X} (h : Cb w g (KX.cs xs) 50) (hn : n = xs.length) (h0 : ∀ x ∈ xs, x.names = []) : Rl w (.slice (some ⟨g, 0, none⟩) n n) xs := by
  refine ⟨some ⟨g, 0, none⟩, n, n, rfl, hn, Nat.le_refl _, (fun e => by cases e), fun j x hx => ⟨g, 0, nilv, rfl, ?_, fun i u hu => ?_⟩⟩
  · rw [h0 x (List.mem_of_getElem? hx)]
    exact Sq.nil w
  · rw [h.cell, Nat.zero_add]
    exact KX.ok.cs_cell xs j x i u hx hu
def rd19 (o : O) : X := { Pn.x0 with path := o.path, data := o.data }
end Go.Proofs.YtjimemnkmpapgaaGreatDoor
namespace Go.Proofs.YtjimemnkmpapgaaGreatDoor
open Go.RowKit
set_option maxRecDepth 100000 in
set_option maxHeartbeats 16000000 in
theorem says_f19 (n : Int) (v : Value) (zs : List Int) (s m : Int) (u : Value) (os : List O) (v3 : Value) (vs : List Pn.V) (W : World) (hS : Pa.Std W) (hv : Bi W v zs) (hl : zs.length ≤ maxLen) (hu : Ol W u os) (hlo : os.length ≤ maxLen) (hfo : ∀ o ∈ os, Fit o) (hvs : KV.At W v3 vs) (hcv : ∃ a n m, v3 = .slice a n m ∧ n ≤ m) :
    Calls Tryz.prog 4 #[.int .i64 n, v, .agg #[.int .i64 s, .int .i64 m, u], v3, .bool false] W fun e w' => e = .returned (.bool true) ∧ Below W.heap.size W w' := by
  have HS : Hid (Pa.Std W ∧ (∀ o ∈ os, Fit o) ∧ Bi W v zs ∧ zs.length ≤ maxLen) := ⟨hS, hfo, hv, hl⟩
  obtain ⟨ao, NO, co, rfl, hNO, ho2, ho3, ho4⟩ := id hu
  have HO : Hid (Ol W (.slice ao NO co) os ∧ os.length ≤ maxLen ∧ NO = os.length) := ⟨hu, hlo, hNO⟩
  have hM63 : NO ≤ 9223372036854775807 := by unfold maxLen at hlo; omega
  obtain ⟨rb, hrb⟩ : ∃ z, z = W.heap.size := ⟨_, rfl⟩
  have HRB : Hid (Below W.heap.size W (W.alloc (.cells #[.int .i64 s, .int .i64 m, .slice ao NO co] 30)) ∧ Cb (W.alloc (.cells #[.int .i64 s, .int .i64 m, .slice ao NO co] 30)) rb [.int .i64 s, .int .i64 m, .slice ao NO co] 30) := by
    rw [hrb]
    exact ⟨(Below.refl _ W).alloc (Nat.le_refl _) _, Cb.made W [.int .i64 s, .int .i64 m, .slice ao NO co] _⟩
  obtain ⟨av, NV, cv, rfl, hcv⟩ := hcv
  have HVS : Hid (KV.At W (.slice av NV cv) vs ∧ NV = vs.length ∧ NV ≤ cv) := by
    obtain ⟨_, _, e, _⟩ := hvs.form
    simp only [Value.slice.injEq] at e
    exact ⟨hvs, e.2.1, hcv⟩
  clear hvs hcv
  clear hS hfo hl hlo hv hu hNO ho2 ho3 ho4
  go_enter Tryz.func4, Tryz.ntmps4
  go_wp2_with fail
  rw [← hrb]
  clear hrb
  generalize (W.alloc (.cells #[.int .i64 s, .int .i64 m, .slice ao NO co] 30)) = wz at *
  refine (awake_any19 wz (HS.out.1.below HRB.out.1)).mono ?_
  rintro e w0 ⟨rfl, hb0⟩
  have H0 : Hid (Below W.heap.size W w0) := HRB.out.1.trans (hb0.mono HRB.out.1.size)
  have HC0 : Hid (∀ w', Below w0.heap.size w0 w' → Cb w' rb [.int .i64 s, .int .i64 m, .slice ao NO co] 30) := fun w' hb => (HRB.out.2.below hb0).below hb
  clear hb0 HRB
  by_cases a1 : n < 1
  · go_wp2
    go_ret
    exact ⟨rfl, H0.out⟩
  by_cases a2 : 4 < n
  · go_wp2
    go_ret
    exact ⟨rfl, H0.out⟩
  have HA : Hid (1 ≤ n ∧ n ≤ 4) := ⟨by omega, by omega⟩
  obtain ⟨gr, hgr⟩ : ∃ z, z = greatB os := ⟨_, rfl⟩
  have HLC : Hid (∀ w', Below W.heap.size W w' → Calls Tryz.prog 15 #[.slice ao NO co] w' fun e w'' => e = .returned (.bool gr) ∧ Below w'.heap.size w' w'') := fun w' hb => by
    rw [hgr]
    exact long_any19 _ os w' (HO.out.1.below hb) HO.out.2.1
  clear hgr
  have r2 : w0.cell? ⟨rb, 2, none⟩ = some (.slice ao NO co) := (HC0.out w0 (Below.refl _ _)).cell 2
  go_wp2_with fail
  refine (HLC.out w0 H0.out).mono ?_
  rintro e w1 ⟨rfl, hb⟩
  have H1 : Hid (Below W.heap.size W w1 ∧ ∀ w', Below w1.heap.size w1 w' → Cb w' rb [.int .i64 s, .int .i64 m, .slice ao NO co] 30) := ⟨H0.out.trans (hb.mono H0.out.size), fun w' hb' => HC0.out w' (hb.trans (hb'.mono hb.size))⟩
  clear hb HLC HC0 H0 r2
  cases gr with
  | true =>
    go_wp2
    go_ret
    exact ⟨rfl, H1.out.1⟩
  | false =>
  by_cases h6 : (6 : Int) < (NV : Int)
  · go_wp2
    go_ret
    exact ⟨rfl, H1.out.1⟩
  go_wp2_with fail
  refine (table_any19 n v zs w1 (HS.out.1.below H1.out.1) (HS.out.2.2.1.below H1.out.1) HS.out.2.2.2 HA.out.1 HA.out.2).mono ?_
  rintro e w2 ⟨q, r, F, G, rfl, hB⟩
  obtain ⟨t, ht⟩ : ∃ t, t = Pn.tab n zs := ⟨_, rfl⟩
  rw [← ht] at hB
  have H2 : Hid (Below W.heap.size W w2 ∧ Bt19 w1 w2 q r 11 t F G ∧ (∀ w', Below w2.heap.size w2 w' → Cb w' rb [.int .i64 s, .int .i64 m, .slice ao NO co] 30) ∧ t.shards = n) := by
    have hb := hB.one.below
    exact ⟨H1.out.1.trans (hb.mono H1.out.1.size), hB, fun w' hb' => H1.out.2 w' (hb.trans (hb'.mono hb.size)), by rw [ht]; exact Pn.tabK_shards _ _ _⟩
  have HWW : Hid (Below W.heap.size W w1) := H1.out.1
  clear hB ht H1
  have r0 : w2.cell? ⟨rb, 0, none⟩ = some (.int .i64 s) := (H2.out.2.2.1 w2 (Below.refl _ _)).cell 0
  have r1 : w2.cell? ⟨rb, 1, none⟩ = some (.int .i64 m) := (H2.out.2.2.1 w2 (Below.refl _ _)).cell 1
  have r2 : w2.cell? ⟨rb, 2, none⟩ = some (.slice ao NO co) := (H2.out.2.2.1 w2 (Below.refl _ _)).cell 2
  unfold dptr
  go_wp2_with fail
  obtain ⟨er, her⟩ : ∃ z, z = Oq.may s m os := ⟨_, rfl⟩
  obtain ⟨P, hP⟩ : ∃ P, P = if er = 0 then Pn.of t s m os else Pn.zero := ⟨_, rfl⟩
  have HER : Hid (er = Oq.may s m os ∧ P = if er = 0 then Pn.of t s m os else Pn.zero) := ⟨her, hP⟩
  have HMK : Hid (∀ w', Below w2.heap.size w2 w' → Calls Tryz.prog 10 #[dptr q, .agg #[.int .i64 s, .int .i64 m, .slice ao NO co]] w' fun e w'' => (∃ u a b, e = .returned (.tuple #[pv P u a b, .int .i64 er]) ∧ Pv w'' P u a b) ∧ Below w'.heap.size w' w'') := fun w' hb' => by
    have h := H2.out.2.1.more hb'
    have hW' := H2.out.1.trans (hb'.mono H2.out.1.size)
    refine (make_any19 q t F 11 s m _ os w' h.one.ld h.one.fine (HS.out.1.below hW') (HO.out.1.below hW') HO.out.2.1 HS.out.2.1).mono ?_
    rintro e w'' ⟨hb, hno, hok⟩
    refine ⟨?_, hb⟩
    by_cases h0 : er = 0
    · rw [hP, if_pos h0, h0]
      exact hok (by rw [← her]; exact h0)
    · rw [hP, if_neg h0, her]
      exact ⟨nilv, nilv, nilv, hno (by rw [← her]; exact h0), Pv.zero _⟩
  have HMR : Hid (∀ w', Below w2.heap.size w2 w' → Calls Tryz.prog 16 #[dptr r, .agg #[.int .i64 s, .int .i64 m, .slice ao NO co]] w' fun e w'' => (∃ u a b, e = .returned (.tuple #[pv P u a b, .int .i64 er]) ∧ Pv w'' P u a b) ∧ Below w'.heap.size w' w'') := fun w' hb' => by
    have h := H2.out.2.1.more hb'
    have hW' := H2.out.1.trans (hb'.mono H2.out.1.size)
    refine (refMake_any19 r t G 11 s m _ os w' h.two.ld h.two.fine (HS.out.1.below hW') (HO.out.1.below hW') HO.out.2.1 HS.out.2.1).mono ?_
    rintro e w'' ⟨hb, hno, hok⟩
    refine ⟨?_, hb⟩
    by_cases h0 : er = 0
    · rw [hP, if_pos h0, h0]
      exact hok (by rw [← her]; exact h0)
    · rw [hP, if_neg h0, her]
      exact ⟨nilv, nilv, nilv, hno (by rw [← her]; exact h0), Pv.zero _⟩
  clear her hP
  unfold dptr at HMK HMR
  refine (HMK.out w2 (Below.refl _ _)).mono ?_
  rintro e w3 ⟨⟨pu, pa, pbv, rfl, hpv⟩, hb⟩
  have HF1 : Hid (Below W.heap.size W w2 ∧ Tb.Fine 11 t ∧ t.shards = n ∧ Below w2.heap.size w2 w3 ∧ Below W.heap.size W w1) := ⟨H2.out.1, H2.out.2.1.one.fine, H2.out.2.2.2, hb, HWW.out⟩
  have HRQ : Hid (∀ w', Below w3.heap.size w3 w' → Cb w' rb [.int .i64 s, .int .i64 m, .slice ao NO co] 30) := fun w' hb' => H2.out.2.2.1 w' (hb.trans (hb'.mono hb.size))
  obtain ⟨⟨ux, uc, rfl⟩, ⟨ax, ac, rfl⟩, ⟨bx, bc, rfl⟩⟩ := hpv.forms
  obtain ⟨N1, hN1⟩ : ∃ N, N = P.os.length := ⟨_, rfl⟩
  obtain ⟨NS, hNS⟩ : ∃ N, N = P.sh.length := ⟨_, rfl⟩
  obtain ⟨NP, hNP⟩ : ∃ N, N = P.pl.length := ⟨_, rfl⟩
  have HN : Hid (N1 = P.os.length ∧ NS = P.sh.length ∧ NP = P.pl.length) := ⟨hN1, hNS, hNP⟩
  rw [← hN1, ← hNS, ← hNP] at hpv ⊢
  clear hN1 hNS hNP HMK H2 HWW hb
  obtain ⟨pb, hpb⟩ : ∃ z, z = w3.heap.size := ⟨_, rfl⟩
  have H4 : Hid (Below w3.heap.size w3 (w3.alloc (.cells #[.int .i64 P.s, .int .i64 P.n, .slice ux N1 uc, .slice ax NS ac, .slice bx NP bc] 33)) ∧ Pv (w3.alloc (.cells #[.int .i64 P.s, .int .i64 P.n, .slice ux N1 uc, .slice ax NS ac, .slice bx NP bc] 33)) P (.slice ux N1 uc) (.slice ax NS ac) (.slice bx NP bc) ∧ Cb (w3.alloc (.cells #[.int .i64 P.s, .int .i64 P.n, .slice ux N1 uc, .slice ax NS ac, .slice bx NP bc] 33)) pb [.int .i64 P.s, .int .i64 P.n, .slice ux N1 uc, .slice ax NS ac, .slice bx NP bc] 33) := by
    have h1 := (Below.refl _ w3).alloc (Nat.le_refl _) (.cells #[.int .i64 P.s, .int .i64 P.n, .slice ux N1 uc, .slice ax NS ac, .slice bx NP bc] 33)
    rw [hpb]
    exact ⟨h1, hpv.below h1, Cb.made w3 [.int .i64 P.s, .int .i64 P.n, .slice ux N1 uc, .slice ax NS ac, .slice bx NP bc] _⟩
  clear hpv r0 r1 r2
  unfold pv
  have r0 : (w3.alloc (.cells #[.int .i64 P.s, .int .i64 P.n, .slice ux N1 uc, .slice ax NS ac, .slice bx NP bc] 33)).cell? ⟨rb, 0, none⟩ = some (.int .i64 s) := (HRQ.out _ H4.out.1).cell 0
  have r1 : (w3.alloc (.cells #[.int .i64 P.s, .int .i64 P.n, .slice ux N1 uc, .slice ax NS ac, .slice bx NP bc] 33)).cell? ⟨rb, 1, none⟩ = some (.int .i64 m) := (HRQ.out _ H4.out.1).cell 1
  have r2 : (w3.alloc (.cells #[.int .i64 P.s, .int .i64 P.n, .slice ux N1 uc, .slice ax NS ac, .slice bx NP bc] 33)).cell? ⟨rb, 2, none⟩ = some (.slice ao NO co) := (HRQ.out _ H4.out.1).cell 2
  go_wp2_with fail
  rw [← hpb]
  clear hpb
  generalize (w3.alloc (.cells #[.int .i64 P.s, .int .i64 P.n, .slice ux N1 uc, .slice ax NS ac, .slice bx NP bc] 33)) = w4 at *
  refine (rq_any19 s m (.slice ao NO co) os w4 (HO.out.1.below (HF1.out.1.trans ((HF1.out.2.2.2.1.trans (H4.out.1.mono HF1.out.2.2.2.1.size)).mono HF1.out.1.size)))).mono ?_
  rintro e w5 ⟨rfl, hb⟩
  have H5 : Hid (Below w3.heap.size w3 w5 ∧ Pv w5 P (.slice ux N1 uc) (.slice ax NS ac) (.slice bx NP bc) ∧ Cb w5 pb [.int .i64 P.s, .int .i64 P.n, .slice ux N1 uc, .slice ax NS ac, .slice bx NP bc] 33) := ⟨H4.out.1.trans (hb.mono H4.out.1.size), H4.out.2.1.below hb, H4.out.2.2.below hb⟩
  clear hb r0 r1 r2 H4
  go_wp2_with fail
  refine (HMR.out w5 (HF1.out.2.2.2.1.trans (H5.out.1.mono HF1.out.2.2.2.1.size))).mono ?_
  rintro e w6 ⟨⟨qu, qa, qbv, rfl, hqv⟩, hb⟩
  obtain ⟨⟨ux2, uc2, rfl⟩, ⟨ax2, ac2, rfl⟩, ⟨bx2, bc2, rfl⟩⟩ := hqv.forms
  rw [← HN.out.1, ← HN.out.2.1, ← HN.out.2.2] at hqv ⊢
  have H6 : Hid (Below w3.heap.size w3 w6 ∧ Pv w6 P (.slice ux N1 uc) (.slice ax NS ac) (.slice bx NP bc) ∧ Cb w6 pb [.int .i64 P.s, .int .i64 P.n, .slice ux N1 uc, .slice ax NS ac, .slice bx NP bc] 33 ∧ Pv w6 P (.slice ux2 N1 uc2) (.slice ax2 NS ac2) (.slice bx2 NP bc2)) := ⟨H5.out.1.trans (hb.mono H5.out.1.size), H5.out.2.1.below hb, H5.out.2.2.below hb, hqv⟩
  clear hb hqv H5 HMR
  obtain ⟨qb, hqb⟩ : ∃ z, z = w6.heap.size := ⟨_, rfl⟩
  have H7 : Hid (Below W.heap.size W (w6.alloc (.cells #[.int .i64 P.s, .int .i64 P.n, .slice ux2 N1 uc2, .slice ax2 NS ac2, .slice bx2 NP bc2] 57)) ∧ (∀ w', Below (w6.alloc (.cells #[.int .i64 P.s, .int .i64 P.n, .slice ux2 N1 uc2, .slice ax2 NS ac2, .slice bx2 NP bc2] 57)).heap.size (w6.alloc (.cells #[.int .i64 P.s, .int .i64 P.n, .slice ux2 N1 uc2, .slice ax2 NS ac2, .slice bx2 NP bc2] 57)) w' → Cb w' rb [.int .i64 s, .int .i64 m, .slice ao NO co] 30) ∧ Pv (w6.alloc (.cells #[.int .i64 P.s, .int .i64 P.n, .slice ux2 N1 uc2, .slice ax2 NS ac2, .slice bx2 NP bc2] 57)) P (.slice ux N1 uc) (.slice ax NS ac) (.slice bx NP bc) ∧ Cb (w6.alloc (.cells #[.int .i64 P.s, .int .i64 P.n, .slice ux2 N1 uc2, .slice ax2 NS ac2, .slice bx2 NP bc2] 57)) pb [.int .i64 P.s, .int .i64 P.n, .slice ux N1 uc, .slice ax NS ac, .slice bx NP bc] 33 ∧ Pv (w6.alloc (.cells #[.int .i64 P.s, .int .i64 P.n, .slice ux2 N1 uc2, .slice ax2 NS ac2, .slice bx2 NP bc2] 57)) P (.slice ux2 N1 uc2) (.slice ax2 NS ac2) (.slice bx2 NP bc2) ∧ Cb (w6.alloc (.cells #[.int .i64 P.s, .int .i64 P.n, .slice ux2 N1 uc2, .slice ax2 NS ac2, .slice bx2 NP bc2] 57)) qb [.int .i64 P.s, .int .i64 P.n, .slice ux2 N1 uc2, .slice ax2 NS ac2, .slice bx2 NP bc2] 57) := by
    have h1 := (Below.refl _ w6).alloc (Nat.le_refl _) (.cells #[.int .i64 P.s, .int .i64 P.n, .slice ux2 N1 uc2, .slice ax2 NS ac2, .slice bx2 NP bc2] 57)
    have h2 := H6.out.1.trans (h1.mono H6.out.1.size)
    have h3 := HF1.out.1.trans ((HF1.out.2.2.2.1.trans (h2.mono HF1.out.2.2.2.1.size)).mono HF1.out.1.size)
    rw [hqb]
    exact ⟨h3, fun w' hb => HRQ.out w' (h2.trans (hb.mono h2.size)), H6.out.2.1.below h1, H6.out.2.2.1.below h1, H6.out.2.2.2.below h1, Cb.made w6 [.int .i64 P.s, .int .i64 P.n, .slice ux2 N1 uc2, .slice ax2 NS ac2, .slice bx2 NP bc2] _⟩
  unfold pv
  go_upto_region 8 with fail
  rw [← hqb]
  clear hqb H6 HRQ
  generalize (w6.alloc (.cells #[.int .i64 P.s, .int .i64 P.n, .slice ux2 N1 uc2, .slice ax2 NS ac2, .slice bx2 NP bc2] 57)) = w7 at *
  have hee : (er != er) = false := by simp
  have hnn : ((NS : Int) != (NS : Int)) = false := by simp
  have hpp : ((NP : Int) != (NP : Int)) = false := by simp
  obtain ⟨bl, hbl⟩ : ∃ b, b = decide (P.sh.length = 1) := ⟨_, rfl⟩
  have HBL : Hid (bl = decide (P.sh.length = 1)) := hbl
  have hn1 : ((NS : Int) == 1) = bl := by rw [hbl, ← HN.out.2.1]; by_cases e : NS = 1 <;> simp [e]; omega
  have hbb : (bl != bl) = false := by simp
  clear hbl
  refine wp_region_held_drew (S := fun w' => Below w7.heap.size w7 w') (by kernel_rfl) (Below.refl _ w7).drew (fun _ => ?_)
  have H8 : Hid (Below w7.heap.size w7 w7.drew) := (Below.refl _ w7).drew
  generalize w7.drew = w8 at *
  refine' take_at (i := 0) (d := 70) (v := _) rfl rfl (by kernel_rfl) (by kernel_rfl) (by kernel_rfl) (fun _ _ _ h => h) (Or.inl ⟨by rfl, ?h0⟩) (H8.out) ?_
  case h0 =>
    intro w hSw
    have t := H7.out.2.2.2.1.below hSw
    have t0 := t.cell 0
    have t1 := t.cell 1
    have t2 := t.cell 2
    have t3 := t.cell 3
    have t4 := t.cell 4
    have s := H7.out.2.2.2.2.2.below hSw
    have s0 := s.cell 0
    have s1 := s.cell 1
    have s2 := s.cell 2
    have s3 := s.cell 3
    have s4 := s.cell 4
    simp only [List.getElem?_cons_zero, List.getElem?_cons_succ] at t0 t1 t2 t3 t4 s0 s1 s2 s3 s4
    go_simp
    with_reducible rfl
  simp only [List.setIfInBounds_toArray, List.set_cons_zero, List.set_cons_succ]
  refine' take_at (i := 1) (d := 71) (v := _) rfl rfl (by kernel_rfl) (by kernel_rfl) (by kernel_rfl) (fun _ _ _ h => h) (Or.inl ⟨by rfl, ?h1⟩) (H8.out) ?_
  case h1 =>
    intro w hSw
    have t := H7.out.2.2.2.1.below hSw
    have t0 := t.cell 0
    have t1 := t.cell 1
    have t2 := t.cell 2
    have t3 := t.cell 3
    have t4 := t.cell 4
    have s := H7.out.2.2.2.2.2.below hSw
    have s0 := s.cell 0
    have s1 := s.cell 1
    have s2 := s.cell 2
    have s3 := s.cell 3
    have s4 := s.cell 4
    simp only [List.getElem?_cons_zero, List.getElem?_cons_succ] at t0 t1 t2 t3 t4 s0 s1 s2 s3 s4
    go_simp
    with_reducible rfl
  simp only [List.setIfInBounds_toArray, List.set_cons_zero, List.set_cons_succ]
  refine' take_at (i := 2) (d := 72) (v := _) rfl rfl (by kernel_rfl) (by kernel_rfl) (by kernel_rfl) (fun _ _ _ h => h) (Or.inl ⟨by rfl, ?h2⟩) (H8.out) ?_
  case h2 =>
    intro w hSw
    have t := H7.out.2.2.2.1.below hSw
    have t0 := t.cell 0
    have t1 := t.cell 1
    have t2 := t.cell 2
    have t3 := t.cell 3
    have t4 := t.cell 4
    have s := H7.out.2.2.2.2.2.below hSw
    have s0 := s.cell 0
    have s1 := s.cell 1
    have s2 := s.cell 2
    have s3 := s.cell 3
    have s4 := s.cell 4
    simp only [List.getElem?_cons_zero, List.getElem?_cons_succ] at t0 t1 t2 t3 t4 s0 s1 s2 s3 s4
    go_simp
    with_reducible rfl
  simp only [List.setIfInBounds_toArray, List.set_cons_zero, List.set_cons_succ]
  refine' take_at (i := 3) (d := 73) (v := _) rfl rfl (by kernel_rfl) (by kernel_rfl) (by kernel_rfl) (fun _ _ _ h => h) (Or.inl ⟨by rfl, ?h3⟩) (H8.out) ?_
  case h3 =>
    intro w hSw
    have t := H7.out.2.2.2.1.below hSw
    have t0 := t.cell 0
    have t1 := t.cell 1
    have t2 := t.cell 2
    have t3 := t.cell 3
    have t4 := t.cell 4
    have s := H7.out.2.2.2.2.2.below hSw
    have s0 := s.cell 0
    have s1 := s.cell 1
    have s2 := s.cell 2
    have s3 := s.cell 3
    have s4 := s.cell 4
    simp only [List.getElem?_cons_zero, List.getElem?_cons_succ] at t0 t1 t2 t3 t4 s0 s1 s2 s3 s4
    go_simp
    with_reducible rfl
  simp only [List.setIfInBounds_toArray, List.set_cons_zero, List.set_cons_succ]
  refine' take_at (i := 4) (d := 74) (v := _) rfl rfl (by kernel_rfl) (by kernel_rfl) (by kernel_rfl) (fun _ _ _ h => h) (Or.inl ⟨by rfl, ?h4⟩) (H8.out) ?_
  case h4 =>
    intro w hSw
    have t := H7.out.2.2.2.1.below hSw
    have t0 := t.cell 0
    have t1 := t.cell 1
    have t2 := t.cell 2
    have t3 := t.cell 3
    have t4 := t.cell 4
    have s := H7.out.2.2.2.2.2.below hSw
    have s0 := s.cell 0
    have s1 := s.cell 1
    have s2 := s.cell 2
    have s3 := s.cell 3
    have s4 := s.cell 4
    simp only [List.getElem?_cons_zero, List.getElem?_cons_succ] at t0 t1 t2 t3 t4 s0 s1 s2 s3 s4
    go_simp
    with_reducible rfl
  simp only [List.setIfInBounds_toArray, List.set_cons_zero, List.set_cons_succ]
  refine' take_at (i := 5) (d := 75) (v := _) rfl rfl (by kernel_rfl) (by kernel_rfl) (by kernel_rfl) (fun _ _ _ h => h) (Or.inl ⟨by rfl, ?h5⟩) (H8.out) ?_
  case h5 =>
    intro w hSw
    have t := H7.out.2.2.2.1.below hSw
    have t0 := t.cell 0
    have t1 := t.cell 1
    have t2 := t.cell 2
    have t3 := t.cell 3
    have t4 := t.cell 4
    have s := H7.out.2.2.2.2.2.below hSw
    have s0 := s.cell 0
    have s1 := s.cell 1
    have s2 := s.cell 2
    have s3 := s.cell 3
    have s4 := s.cell 4
    simp only [List.getElem?_cons_zero, List.getElem?_cons_succ] at t0 t1 t2 t3 t4 s0 s1 s2 s3 s4
    go_simp
    with_reducible rfl
  simp only [List.setIfInBounds_toArray, List.set_cons_zero, List.set_cons_succ]
  refine' take_at (i := 6) (d := 76) (v := _) rfl rfl (by kernel_rfl) (by kernel_rfl) (by kernel_rfl) (fun _ _ _ h => h) (Or.inl ⟨by rfl, ?h6⟩) (H8.out) ?_
  case h6 =>
    intro w hSw
    have t := H7.out.2.2.2.1.below hSw
    have t0 := t.cell 0
    have t1 := t.cell 1
    have t2 := t.cell 2
    have t3 := t.cell 3
    have t4 := t.cell 4
    have s := H7.out.2.2.2.2.2.below hSw
    have s0 := s.cell 0
    have s1 := s.cell 1
    have s2 := s.cell 2
    have s3 := s.cell 3
    have s4 := s.cell 4
    simp only [List.getElem?_cons_zero, List.getElem?_cons_succ] at t0 t1 t2 t3 t4 s0 s1 s2 s3 s4
    go_simp
    with_reducible rfl
  simp only [List.setIfInBounds_toArray, List.set_cons_zero, List.set_cons_succ]
  refine' take_at (i := 7) (d := 77) (v := _) rfl rfl (by kernel_rfl) (by kernel_rfl) (by kernel_rfl) (fun _ _ _ h => h) (Or.inl ⟨by rfl, ?h7⟩) (H8.out) ?_
  case h7 =>
    intro w hSw
    have t := H7.out.2.2.2.1.below hSw
    have t0 := t.cell 0
    have t1 := t.cell 1
    have t2 := t.cell 2
    have t3 := t.cell 3
    have t4 := t.cell 4
    have s := H7.out.2.2.2.2.2.below hSw
    have s0 := s.cell 0
    have s1 := s.cell 1
    have s2 := s.cell 2
    have s3 := s.cell 3
    have s4 := s.cell 4
    simp only [List.getElem?_cons_zero, List.getElem?_cons_succ] at t0 t1 t2 t3 t4 s0 s1 s2 s3 s4
    go_simp
    with_reducible rfl
  simp only [List.setIfInBounds_toArray, List.set_cons_zero, List.set_cons_succ]
  refine' take_at (i := 8) (d := 78) (v := _) rfl rfl (by kernel_rfl) (by kernel_rfl) (by kernel_rfl) (fun _ _ _ h => h) (Or.inl ⟨by rfl, ?h8⟩) (H8.out) ?_
  case h8 =>
    intro w hSw
    have t := H7.out.2.2.2.1.below hSw
    have t0 := t.cell 0
    have t1 := t.cell 1
    have t2 := t.cell 2
    have t3 := t.cell 3
    have t4 := t.cell 4
    have s := H7.out.2.2.2.2.2.below hSw
    have s0 := s.cell 0
    have s1 := s.cell 1
    have s2 := s.cell 2
    have s3 := s.cell 3
    have s4 := s.cell 4
    simp only [List.getElem?_cons_zero, List.getElem?_cons_succ] at t0 t1 t2 t3 t4 s0 s1 s2 s3 s4
    go_simp
    with_reducible rfl
  simp only [List.setIfInBounds_toArray, List.set_cons_zero, List.set_cons_succ]
  refine' take_at (i := 9) (d := 79) (v := _) rfl rfl (by kernel_rfl) (by kernel_rfl) (by kernel_rfl) (fun _ _ _ h => h) (Or.inl ⟨by rfl, ?h9⟩) (H8.out) ?_
  case h9 =>
    intro w hSw
    have t := H7.out.2.2.2.1.below hSw
    have t0 := t.cell 0
    have t1 := t.cell 1
    have t2 := t.cell 2
    have t3 := t.cell 3
    have t4 := t.cell 4
    have s := H7.out.2.2.2.2.2.below hSw
    have s0 := s.cell 0
    have s1 := s.cell 1
    have s2 := s.cell 2
    have s3 := s.cell 3
    have s4 := s.cell 4
    simp only [List.getElem?_cons_zero, List.getElem?_cons_succ] at t0 t1 t2 t3 t4 s0 s1 s2 s3 s4
    go_simp
    with_reducible rfl
  simp only [List.setIfInBounds_toArray, List.set_cons_zero, List.set_cons_succ]
  refine' take_at (i := 10) (d := 80) (v := _) rfl rfl (by kernel_rfl) (by kernel_rfl) (by kernel_rfl) (fun _ _ _ h => h) (Or.inl ⟨by rfl, ?h10⟩) (H8.out) ?_
  case h10 =>
    intro w hSw
    have t := H7.out.2.2.2.1.below hSw
    have t0 := t.cell 0
    have t1 := t.cell 1
    have t2 := t.cell 2
    have t3 := t.cell 3
    have t4 := t.cell 4
    have s := H7.out.2.2.2.2.2.below hSw
    have s0 := s.cell 0
    have s1 := s.cell 1
    have s2 := s.cell 2
    have s3 := s.cell 3
    have s4 := s.cell 4
    simp only [List.getElem?_cons_zero, List.getElem?_cons_succ] at t0 t1 t2 t3 t4 s0 s1 s2 s3 s4
    go_simp
    with_reducible rfl
  simp only [List.setIfInBounds_toArray, List.set_cons_zero, List.set_cons_succ]
  refine' take_at (i := 11) (d := 81) (v := _) rfl rfl (by kernel_rfl) (by kernel_rfl) (by kernel_rfl) (fun _ _ _ h => h) (Or.inl ⟨by rfl, ?h11⟩) (H8.out) ?_
  case h11 =>
    intro w hSw
    have t := H7.out.2.2.2.1.below hSw
    have t0 := t.cell 0
    have t1 := t.cell 1
    have t2 := t.cell 2
    have t3 := t.cell 3
    have t4 := t.cell 4
    have s := H7.out.2.2.2.2.2.below hSw
    have s0 := s.cell 0
    have s1 := s.cell 1
    have s2 := s.cell 2
    have s3 := s.cell 3
    have s4 := s.cell 4
    simp only [List.getElem?_cons_zero, List.getElem?_cons_succ] at t0 t1 t2 t3 t4 s0 s1 s2 s3 s4
    go_simp
    with_reducible rfl
  simp only [List.setIfInBounds_toArray, List.set_cons_zero, List.set_cons_succ]
  refine' take_at (i := 12) (d := 82) (v := _) rfl rfl (by kernel_rfl) (by kernel_rfl) (by kernel_rfl) (fun _ _ _ h => h) (Or.inl ⟨by rfl, ?h12⟩) (H8.out) ?_
  case h12 =>
    intro w hSw
    have t := H7.out.2.2.2.1.below hSw
    have t0 := t.cell 0
    have t1 := t.cell 1
    have t2 := t.cell 2
    have t3 := t.cell 3
    have t4 := t.cell 4
    have s := H7.out.2.2.2.2.2.below hSw
    have s0 := s.cell 0
    have s1 := s.cell 1
    have s2 := s.cell 2
    have s3 := s.cell 3
    have s4 := s.cell 4
    simp only [List.getElem?_cons_zero, List.getElem?_cons_succ] at t0 t1 t2 t3 t4 s0 s1 s2 s3 s4
    go_simp
    with_reducible rfl
  simp only [List.setIfInBounds_toArray, List.set_cons_zero, List.set_cons_succ]
  refine' take_at (i := 13) (d := 83) (v := _) rfl rfl (by kernel_rfl) (by kernel_rfl) (by kernel_rfl) (fun _ _ _ h => h) (Or.inl ⟨by rfl, ?h13⟩) (H8.out) ?_
  case h13 =>
    intro w hSw
    have t := H7.out.2.2.2.1.below hSw
    have t0 := t.cell 0
    have t1 := t.cell 1
    have t2 := t.cell 2
    have t3 := t.cell 3
    have t4 := t.cell 4
    have s := H7.out.2.2.2.2.2.below hSw
    have s0 := s.cell 0
    have s1 := s.cell 1
    have s2 := s.cell 2
    have s3 := s.cell 3
    have s4 := s.cell 4
    simp only [List.getElem?_cons_zero, List.getElem?_cons_succ] at t0 t1 t2 t3 t4 s0 s1 s2 s3 s4
    go_simp
    with_reducible rfl
  simp only [List.setIfInBounds_toArray, List.set_cons_zero, List.set_cons_succ]
  refine' take_at (i := 14) (d := 84) (v := _) rfl rfl (by kernel_rfl) (by kernel_rfl) (by kernel_rfl) (fun _ _ _ h => h) (Or.inl ⟨by rfl, ?h14⟩) (H8.out) ?_
  case h14 =>
    intro w hSw
    have t := H7.out.2.2.2.1.below hSw
    have t0 := t.cell 0
    have t1 := t.cell 1
    have t2 := t.cell 2
    have t3 := t.cell 3
    have t4 := t.cell 4
    have s := H7.out.2.2.2.2.2.below hSw
    have s0 := s.cell 0
    have s1 := s.cell 1
    have s2 := s.cell 2
    have s3 := s.cell 3
    have s4 := s.cell 4
    simp only [List.getElem?_cons_zero, List.getElem?_cons_succ] at t0 t1 t2 t3 t4 s0 s1 s2 s3 s4
    go_simp
    with_reducible rfl
  simp only [List.setIfInBounds_toArray, List.set_cons_zero, List.set_cons_succ]
  refine' take_at (i := 15) (d := 85) (v := _) rfl rfl (by kernel_rfl) (by kernel_rfl) (by kernel_rfl) (fun _ _ _ h => h) (Or.inl ⟨by rfl, ?h15⟩) (H8.out) ?_
  case h15 =>
    intro w hSw
    have t := H7.out.2.2.2.1.below hSw
    have t0 := t.cell 0
    have t1 := t.cell 1
    have t2 := t.cell 2
    have t3 := t.cell 3
    have t4 := t.cell 4
    have s := H7.out.2.2.2.2.2.below hSw
    have s0 := s.cell 0
    have s1 := s.cell 1
    have s2 := s.cell 2
    have s3 := s.cell 3
    have s4 := s.cell 4
    simp only [List.getElem?_cons_zero, List.getElem?_cons_succ] at t0 t1 t2 t3 t4 s0 s1 s2 s3 s4
    go_simp
    with_reducible rfl
  simp only [List.setIfInBounds_toArray, List.set_cons_zero, List.set_cons_succ]
  refine' take_at (i := 16) (d := 86) (v := _) rfl rfl (by kernel_rfl) (by kernel_rfl) (by kernel_rfl) (fun _ _ _ h => h) (Or.inl ⟨by rfl, ?h16⟩) (H8.out) ?_
  case h16 =>
    intro w hSw
    have t := H7.out.2.2.2.1.below hSw
    have t0 := t.cell 0
    have t1 := t.cell 1
    have t2 := t.cell 2
    have t3 := t.cell 3
    have t4 := t.cell 4
    have s := H7.out.2.2.2.2.2.below hSw
    have s0 := s.cell 0
    have s1 := s.cell 1
    have s2 := s.cell 2
    have s3 := s.cell 3
    have s4 := s.cell 4
    simp only [List.getElem?_cons_zero, List.getElem?_cons_succ] at t0 t1 t2 t3 t4 s0 s1 s2 s3 s4
    go_simp
    with_reducible rfl
  simp only [List.setIfInBounds_toArray, List.set_cons_zero, List.set_cons_succ]
  refine' take_at (i := 17) (d := 87) (v := _) rfl rfl (by kernel_rfl) (by kernel_rfl) (by kernel_rfl) (fun _ _ _ h => h) (Or.inl ⟨by rfl, ?h17⟩) (H8.out) ?_
  case h17 =>
    intro w hSw
    have t := H7.out.2.2.2.1.below hSw
    have t0 := t.cell 0
    have t1 := t.cell 1
    have t2 := t.cell 2
    have t3 := t.cell 3
    have t4 := t.cell 4
    have s := H7.out.2.2.2.2.2.below hSw
    have s0 := s.cell 0
    have s1 := s.cell 1
    have s2 := s.cell 2
    have s3 := s.cell 3
    have s4 := s.cell 4
    simp only [List.getElem?_cons_zero, List.getElem?_cons_succ] at t0 t1 t2 t3 t4 s0 s1 s2 s3 s4
    go_simp
    with_reducible rfl
  simp only [List.setIfInBounds_toArray, List.set_cons_zero, List.set_cons_succ]
  refine' take_at (i := 18) (d := 88) (v := _) rfl rfl (by kernel_rfl) (by kernel_rfl) (by kernel_rfl) (fun _ _ _ h => h) (Or.inl ⟨by rfl, ?h18⟩) (H8.out) ?_
  case h18 =>
    intro w hSw
    have t := H7.out.2.2.2.1.below hSw
    have t0 := t.cell 0
    have t1 := t.cell 1
    have t2 := t.cell 2
    have t3 := t.cell 3
    have t4 := t.cell 4
    have s := H7.out.2.2.2.2.2.below hSw
    have s0 := s.cell 0
    have s1 := s.cell 1
    have s2 := s.cell 2
    have s3 := s.cell 3
    have s4 := s.cell 4
    simp only [List.getElem?_cons_zero, List.getElem?_cons_succ] at t0 t1 t2 t3 t4 s0 s1 s2 s3 s4
    go_simp
    with_reducible rfl
  simp only [List.setIfInBounds_toArray, List.set_cons_zero, List.set_cons_succ]
  refine' take_at (i := 19) (d := 89) (v := _) rfl rfl (by kernel_rfl) (by kernel_rfl) (by kernel_rfl) (fun _ _ _ h => h) (Or.inl ⟨by rfl, ?h19⟩) (H8.out) ?_
  case h19 =>
    intro w hSw
    have t := H7.out.2.2.2.1.below hSw
    have t0 := t.cell 0
    have t1 := t.cell 1
    have t2 := t.cell 2
    have t3 := t.cell 3
    have t4 := t.cell 4
    have s := H7.out.2.2.2.2.2.below hSw
    have s0 := s.cell 0
    have s1 := s.cell 1
    have s2 := s.cell 2
    have s3 := s.cell 3
    have s4 := s.cell 4
    simp only [List.getElem?_cons_zero, List.getElem?_cons_succ] at t0 t1 t2 t3 t4 s0 s1 s2 s3 s4
    go_simp
    with_reducible rfl
  simp only [List.setIfInBounds_toArray, List.set_cons_zero, List.set_cons_succ]
  refine' take_at (i := 20) (d := 90) (v := _) rfl rfl (by kernel_rfl) (by kernel_rfl) (by kernel_rfl) (fun _ _ _ h => h) (Or.inl ⟨by rfl, ?h20⟩) (H8.out) ?_
  case h20 =>
    intro w hSw
    have t := H7.out.2.2.2.1.below hSw
    have t0 := t.cell 0
    have t1 := t.cell 1
    have t2 := t.cell 2
    have t3 := t.cell 3
    have t4 := t.cell 4
    have s := H7.out.2.2.2.2.2.below hSw
    have s0 := s.cell 0
    have s1 := s.cell 1
    have s2 := s.cell 2
    have s3 := s.cell 3
    have s4 := s.cell 4
    simp only [List.getElem?_cons_zero, List.getElem?_cons_succ] at t0 t1 t2 t3 t4 s0 s1 s2 s3 s4
    go_simp
    with_reducible rfl
  simp only [List.setIfInBounds_toArray, List.set_cons_zero, List.set_cons_succ]
  refine' take_at (i := 21) (d := 91) (v := _) rfl rfl (by kernel_rfl) (by kernel_rfl) (by kernel_rfl) (fun _ _ _ h => h) (Or.inl ⟨by rfl, ?h21⟩) (H8.out) ?_
  case h21 =>
    intro w hSw
    have t := H7.out.2.2.2.1.below hSw
    have t0 := t.cell 0
    have t1 := t.cell 1
    have t2 := t.cell 2
    have t3 := t.cell 3
    have t4 := t.cell 4
    have s := H7.out.2.2.2.2.2.below hSw
    have s0 := s.cell 0
    have s1 := s.cell 1
    have s2 := s.cell 2
    have s3 := s.cell 3
    have s4 := s.cell 4
    simp only [List.getElem?_cons_zero, List.getElem?_cons_succ] at t0 t1 t2 t3 t4 s0 s1 s2 s3 s4
    go_simp
    with_reducible rfl
  simp only [List.setIfInBounds_toArray, List.set_cons_zero, List.set_cons_succ]
  refine' take_at (i := 22) (d := 92) (v := _) rfl rfl (by kernel_rfl) (by kernel_rfl) (by kernel_rfl) (fun _ _ _ h => h) (Or.inl ⟨by rfl, ?h22⟩) (H8.out) ?_
  case h22 =>
    intro w hSw
    have t := H7.out.2.2.2.1.below hSw
    have t0 := t.cell 0
    have t1 := t.cell 1
    have t2 := t.cell 2
    have t3 := t.cell 3
    have t4 := t.cell 4
    have s := H7.out.2.2.2.2.2.below hSw
    have s0 := s.cell 0
    have s1 := s.cell 1
    have s2 := s.cell 2
    have s3 := s.cell 3
    have s4 := s.cell 4
    simp only [List.getElem?_cons_zero, List.getElem?_cons_succ] at t0 t1 t2 t3 t4 s0 s1 s2 s3 s4
    go_simp
    with_reducible rfl
  simp only [List.setIfInBounds_toArray, List.set_cons_zero, List.set_cons_succ]
  refine' take_at (i := 24) (d := 94) (v := _) rfl rfl (by kernel_rfl) (by kernel_rfl) (by kernel_rfl) (fun _ _ _ h => h) (Or.inl ⟨by rfl, ?h24⟩) (H8.out) ?_
  case h24 =>
    intro w hSw
    have t := H7.out.2.2.2.1.below hSw
    have t0 := t.cell 0
    have t1 := t.cell 1
    have t2 := t.cell 2
    have t3 := t.cell 3
    have t4 := t.cell 4
    have s := H7.out.2.2.2.2.2.below hSw
    have s0 := s.cell 0
    have s1 := s.cell 1
    have s2 := s.cell 2
    have s3 := s.cell 3
    have s4 := s.cell 4
    simp only [List.getElem?_cons_zero, List.getElem?_cons_succ] at t0 t1 t2 t3 t4 s0 s1 s2 s3 s4
    go_simp
    with_reducible rfl
  simp only [List.setIfInBounds_toArray, List.set_cons_zero, List.set_cons_succ]
  refine' take_at (i := 25) (d := 95) (v := _) rfl rfl (by kernel_rfl) (by kernel_rfl) (by kernel_rfl) (fun _ _ _ h => h) (Or.inl ⟨by rfl, ?h25⟩) (H8.out) ?_
  case h25 =>
    intro w hSw
    have t := H7.out.2.2.2.1.below hSw
    have t0 := t.cell 0
    have t1 := t.cell 1
    have t2 := t.cell 2
    have t3 := t.cell 3
    have t4 := t.cell 4
    have s := H7.out.2.2.2.2.2.below hSw
    have s0 := s.cell 0
    have s1 := s.cell 1
    have s2 := s.cell 2
    have s3 := s.cell 3
    have s4 := s.cell 4
    simp only [List.getElem?_cons_zero, List.getElem?_cons_succ] at t0 t1 t2 t3 t4 s0 s1 s2 s3 s4
    go_simp
    with_reducible rfl
  simp only [List.setIfInBounds_toArray, List.set_cons_zero, List.set_cons_succ]
  refine' take_at (i := 26) (d := 96) (v := _) rfl rfl (by kernel_rfl) (by kernel_rfl) (by kernel_rfl) (fun _ _ _ h => h) (Or.inl ⟨by rfl, ?h26⟩) (H8.out) ?_
  case h26 =>
    intro w hSw
    have t := H7.out.2.2.2.1.below hSw
    have t0 := t.cell 0
    have t1 := t.cell 1
    have t2 := t.cell 2
    have t3 := t.cell 3
    have t4 := t.cell 4
    have s := H7.out.2.2.2.2.2.below hSw
    have s0 := s.cell 0
    have s1 := s.cell 1
    have s2 := s.cell 2
    have s3 := s.cell 3
    have s4 := s.cell 4
    simp only [List.getElem?_cons_zero, List.getElem?_cons_succ] at t0 t1 t2 t3 t4 s0 s1 s2 s3 s4
    go_simp
    with_reducible rfl
  simp only [List.setIfInBounds_toArray, List.set_cons_zero, List.set_cons_succ]
  refine' take_at (i := 27) (d := 97) (v := _) rfl rfl (by kernel_rfl) (by kernel_rfl) (by kernel_rfl) (fun _ _ _ h => h) (Or.inl ⟨by rfl, ?h27⟩) (H8.out) ?_
  case h27 =>
    intro w hSw
    have t := H7.out.2.2.2.1.below hSw
    have t0 := t.cell 0
    have t1 := t.cell 1
    have t2 := t.cell 2
    have t3 := t.cell 3
    have t4 := t.cell 4
    have s := H7.out.2.2.2.2.2.below hSw
    have s0 := s.cell 0
    have s1 := s.cell 1
    have s2 := s.cell 2
    have s3 := s.cell 3
    have s4 := s.cell 4
    simp only [List.getElem?_cons_zero, List.getElem?_cons_succ] at t0 t1 t2 t3 t4 s0 s1 s2 s3 s4
    go_simp
    with_reducible rfl
  simp only [List.setIfInBounds_toArray, List.set_cons_zero, List.set_cons_succ]
  refine wpAnyH_ready (rs := [23]) (by kernel_rfl) (by simp) ?_
  refine AllReadyH.cons (o := _) rfl (fun KQ hKQ => ?_) AllReadyH.nil
  go_simp
  refine (local_any19 P _ _ _ w8 (H7.out.2.2.1.below H8.out)).mono ?_
  rintro e w9 ⟨rfl, hb⟩
  rw [← HBL.out]
  have H9 : Hid (Below w7.heap.size w7 w9) := H8.out.trans (hb.mono H8.out.size)
  clear hb H8
  refine hKQ.out _ _ H9.out (fun _ => ?_)
  clear hKQ KQ
  refine' take_at (i := 28) (d := 98) (v := _) rfl rfl (by kernel_rfl) (by kernel_rfl) (by kernel_rfl) (fun _ _ _ h => h) (Or.inl ⟨by rfl, ?h28⟩) (H9.out) ?_
  case h28 =>
    intro w hSw
    go_simp
    with_reducible rfl
  simp only [List.setIfInBounds_toArray, List.set_cons_zero, List.set_cons_succ]
  refine' take_at (i := 29) (d := 99) (v := _) rfl rfl (by kernel_rfl) (by kernel_rfl) (by kernel_rfl) (fun _ _ _ h => h) (Or.inl ⟨by rfl, ?h29⟩) (H9.out) ?_
  case h29 =>
    intro w hSw
    go_simp
    with_reducible rfl
  simp only [List.setIfInBounds_toArray, List.set_cons_zero, List.set_cons_succ]
  refine wpAnyH_done (by kernel_rfl) ?_ _
  have hp := H7.out.2.2.2.1.below H9.out
  have p0 := hp.cell 0
  have p1 := hp.cell 1
  have p2 := hp.cell 2
  have p3 := hp.cell 3
  have p4 := hp.cell 4
  simp only [List.getElem?_cons_zero, List.getElem?_cons_succ] at p0 p1 p2 p3 p4
  clear hp
  by_cases h0 : er = 0
  case neg =>
    have hb0 : (er != 0) = true := by simp [h0]
    have hPz : P = Pn.zero := by rw [HER.out.2, if_neg h0]
    have HFZ : Hid (Pn.first P = -1) := (show _ = _ by rw [hPz]; rfl)
    clear hPz h0
    go_wp2_with fail
    refine (first_any19 P _ _ _ w9 (H7.out.2.2.1.below H9.out)).mono ?_
    rintro e w10 ⟨rfl, hb⟩
    rw [HFZ.out]
    have H10 : Hid (Below W.heap.size W w10) := H7.out.1.trans ((H9.out.trans (hb.mono H9.out.size)).mono H7.out.1.size)
    clear hb
    go_wp2
    go_ret
    exact ⟨rfl, H10.out⟩
  case pos =>
  subst h0
  have HP : Hid (P = Pn.of t s m os ∧ Pn.Ok P ∧ P.os = os ∧ os ≠ [] ∧ os.length ≤ 16 ∧ (∀ o ∈ os, o.path.size ≤ 200) ∧ ∀ o ∈ os, Pl.goodB o.path.data.toList = true) := by
    obtain ⟨_, _, h1, h2, h3⟩ := may_sizes HER.out.1.symm
    have hP : P = Pn.of t s m os := by rw [HER.out.2, if_pos rfl]
    exact ⟨hP, by rw [hP]; exact Pn.Ok.of HF1.out.2.1 s m h2, by rw [hP]; rfl, fun e => (by rw [e] at h1; simp at h1), h2, fun o ho => (h3 o ho).1, Pn.may_good HER.out.1.symm⟩
  have HNN : Hid (N1 = os.length ∧ NS = P.sh.length ∧ NP = P.pl.length ∧ NS ≤ 4 ∧ NP = NS ∧ NO = N1) := by
    have h1 := HP.out.2.1.few
    have h2 := HP.out.2.1.len
    exact ⟨by rw [HN.out.1, HP.out.2.2.1], HN.out.2.1, HN.out.2.2, by rw [HN.out.2.1]; exact h1, by rw [HN.out.2.1, HN.out.2.2, h2], by rw [HN.out.1, HP.out.2.2.1]; exact HO.out.2.2⟩
  have HS1 : Hid (0 < NS) := by
    obtain ⟨o0, ho0⟩ : ∃ o0, os[0]? = some o0 := ⟨os[0]'(List.length_pos_iff.2 HP.out.2.2.2.1), List.getElem?_eq_getElem _⟩
    obtain ⟨j, l, h1, _⟩ := Pn.of_has HF1.out.2.1 s m ho0 (HP.out.2.2.2.2.2.2 o0 (List.mem_of_getElem? ho0))
    rw [← HP.out.1] at h1
    have h2 := (List.getElem?_eq_some_iff.1 h1).1
    rw [← HNN.out.2.1] at h2
    exact Nat.lt_of_le_of_lt (Nat.zero_le _) h2
  clear p0 p1 p2 p3 p4 HER HBL
  have HV7 : Hid (KV.At w9 (.slice av NV cv) vs ∧ NV = vs.length ∧ NV ≤ cv ∧ NV ≤ 6) := ⟨HVS.out.1.below (H7.out.1.trans (H9.out.mono H7.out.1.size)), HVS.out.2.1, HVS.out.2.2, by omega⟩
  obtain ⟨va, NW, cw, vt, wv, ev⟩ : ∃ (va : Option Addr) (NW cw : Nat) (vt : List Pn.V) (wv : World), va = av ∧ NW = NV ∧ cw = cv ∧ vt = vs ∧ wv = w9 := ⟨_, _, _, _, _, rfl, rfl, rfl, rfl, rfl⟩
  have HV : Hid (Below w7.heap.size w7 wv ∧ KV.At wv (.slice va NW cw) vt ∧ NW = vt.length ∧ NW ≤ 6) := by
    obtain ⟨rfl, rfl, rfl, rfl, rfl⟩ := ev
    exact ⟨H9.out, HV7.out.1, HV7.out.2.1, HV7.out.2.2.2⟩
  obtain ⟨e1, e2, e3, e4, e5⟩ := ev
  rw [← e1, ← e2, ← e3, ← e5]
  clear e1 e2 e3 e4 e5 HV7 H9 HVS
  go_wp2
  go_loopw [17, 18] (fun v i wx => ∃ k : Nat, k ≤ NW ∧ i = .int .i64 (k : Int) ∧ wx.ownsRow wv.heap.size 62 2 v (vt.take k).length (KW.cs (vt.take k)) ∧ Below wv.heap.size wv wx) (fun _ i _ => NW - (intOf i).toNat)
  case atStart => exact ⟨0, Nat.zero_le _, rfl, World.ownsRow_nil _ _ _ _, Below.refl _ _⟩
  case round =>
    obtain ⟨k, hk, rfl, hr, hb⟩ := hrel
    have HW : Hid (wr.ownsRow wv.heap.size 62 2 u17 (vt.take k).length (KW.cs (vt.take k)) ∧ Below wv.heap.size wv wr) := ⟨hr, hb⟩
    clear hr hb
    have hk0 : (0 : Int) ≤ (k : Int) := by omega
    have hwk : IntKind.wrap .i64 ((k : Int) + 1) = (k : Int) + 1 := by rw [IntKind.wrap_i64]; have := HV.out.2.2.2; omega
    by_cases hlt : k < NW
    · have hlt' : (k : Int) < (NW : Int) := by omega
      obtain ⟨x, hx⟩ : ∃ x, vt[k]? = some x := ⟨vt[k]'(by have := HV.out.2.2.1; omega), List.getElem?_eq_getElem _⟩
      obtain ⟨g, o, rfl, hc⟩ := HV.out.2.1.at hx
      have HC : Hid (∀ w', Below wv.heap.size wv w' → w'.cell? ⟨g, o + k * 2, none⟩ = some (.int .i64 x.err) ∧ w'.cell? ⟨g, o + k * 2 + 1, none⟩ = some (.int .i64 x.at_)) := fun w' hb => ⟨Below.kept hb (hc 0 _ rfl), Below.kept hb (hc 1 _ rfl)⟩
      have HT : Hid (vt.take (k + 1) = vt.take k ++ [x] ∧ (vt.take k).length ≤ 6) := ⟨by rw [List.take_add_one, hx]; rfl, by rw [List.length_take]; have := HV.out.2.2.2; omega⟩
      clear hx hc
      go_upto_region 20 with fail
      refine wp_region_held_drew (S := fun w' => Below wv.heap.size wv w') (by kernel_rfl) HW.out.2.drew (fun _ => ?_)
      have H5 : Hid (Below wv.heap.size wv wr.drew ∧ wr.drew.ownsRow wv.heap.size 62 2 u17 (vt.take k).length (KW.cs (vt.take k))) := ⟨HW.out.2.drew, HW.out.1⟩
      generalize wr.drew = w5 at *
      refine' take_at (i := 0) (d := 129) (v := _) rfl rfl (by kernel_rfl) (by kernel_rfl) (by kernel_rfl) (fun _ _ _ h => h) (Or.inl ⟨by rfl, ?h0⟩) (H5.out.1) ?_
      case h0 =>
        intro w hSw
        have t0 := (HC.out _ hSw).1
        have t1 := (HC.out _ hSw).2
        go_simp
        with_reducible rfl
      simp only [List.setIfInBounds_toArray, List.set_cons_zero, List.set_cons_succ]
      refine' take_at (i := 1) (d := 130) (v := _) rfl rfl (by kernel_rfl) (by kernel_rfl) (by kernel_rfl) (fun _ _ _ h => h) (Or.inl ⟨by rfl, ?h1⟩) (H5.out.1) ?_
      case h1 =>
        intro w hSw
        have t0 := (HC.out _ hSw).1
        have t1 := (HC.out _ hSw).2
        go_simp
        with_reducible rfl
      simp only [List.setIfInBounds_toArray, List.set_cons_zero, List.set_cons_succ]
      refine' take_at (i := 2) (d := 131) (v := _) rfl rfl (by kernel_rfl) (by kernel_rfl) (by kernel_rfl) (fun _ _ _ h => h) (Or.inl ⟨by rfl, ?h2⟩) (H5.out.1) ?_
      case h2 =>
        intro w hSw
        have t0 := (HC.out _ hSw).1
        have t1 := (HC.out _ hSw).2
        go_simp
        with_reducible rfl
      simp only [List.setIfInBounds_toArray, List.set_cons_zero, List.set_cons_succ]
      refine' take_at (i := 3) (d := 132) (v := _) rfl rfl (by kernel_rfl) (by kernel_rfl) (by kernel_rfl) (fun _ _ _ h => h) (Or.inl ⟨by rfl, ?h3⟩) (H5.out.1) ?_
      case h3 =>
        intro w hSw
        have t0 := (HC.out _ hSw).1
        have t1 := (HC.out _ hSw).2
        go_simp
        with_reducible rfl
      simp only [List.setIfInBounds_toArray, List.set_cons_zero, List.set_cons_succ]
      refine' take_at (i := 4) (d := 133) (v := _) rfl rfl (by kernel_rfl) (by kernel_rfl) (by kernel_rfl) (fun _ _ _ h => h) (Or.inl ⟨by rfl, ?h4⟩) (H5.out.1) ?_
      case h4 =>
        intro w hSw
        have t0 := (HC.out _ hSw).1
        have t1 := (HC.out _ hSw).2
        go_simp
        with_reducible rfl
      simp only [List.setIfInBounds_toArray, List.set_cons_zero, List.set_cons_succ]
      refine' take_at (i := 5) (d := 134) (v := _) rfl rfl (by kernel_rfl) (by kernel_rfl) (by kernel_rfl) (fun _ _ _ h => h) (Or.inl ⟨by rfl, ?h5⟩) (H5.out.1) ?_
      case h5 =>
        intro w hSw
        have t0 := (HC.out _ hSw).1
        have t1 := (HC.out _ hSw).2
        go_simp
        with_reducible rfl
      simp only [List.setIfInBounds_toArray, List.set_cons_zero, List.set_cons_succ]
      refine' take_at (i := 6) (d := 135) (v := _) rfl rfl (by kernel_rfl) (by kernel_rfl) (by kernel_rfl) (fun _ _ _ h => h) (Or.inl ⟨by rfl, ?h6⟩) (H5.out.1) ?_
      case h6 =>
        intro w hSw
        have t0 := (HC.out _ hSw).1
        have t1 := (HC.out _ hSw).2
        go_simp
        with_reducible rfl
      simp only [List.setIfInBounds_toArray, List.set_cons_zero, List.set_cons_succ]
      refine' take_at (i := 7) (d := 136) (v := _) rfl rfl (by kernel_rfl) (by kernel_rfl) (by kernel_rfl) (fun _ _ _ h => h) (Or.inl ⟨by rfl, ?h7⟩) (H5.out.1) ?_
      case h7 =>
        intro w hSw
        have t0 := (HC.out _ hSw).1
        have t1 := (HC.out _ hSw).2
        go_simp
        with_reducible rfl
      simp only [List.setIfInBounds_toArray, List.set_cons_zero, List.set_cons_succ]
      refine' take_at (i := 8) (d := 137) (v := _) rfl rfl (by kernel_rfl) (by kernel_rfl) (by kernel_rfl) (fun _ _ _ h => h) (Or.inl ⟨by rfl, ?h8⟩) (H5.out.1) ?_
      case h8 =>
        intro w hSw
        have t0 := (HC.out _ hSw).1
        have t1 := (HC.out _ hSw).2
        go_simp
        with_reducible rfl
      simp only [List.setIfInBounds_toArray, List.set_cons_zero, List.set_cons_succ]
      refine' take_at (i := 9) (d := 138) (v := _) rfl rfl (by kernel_rfl) (by kernel_rfl) (by kernel_rfl) (fun _ _ _ h => h) (Or.inl ⟨by rfl, ?h9⟩) (H5.out.1) ?_
      case h9 =>
        intro w hSw
        have t0 := (HC.out _ hSw).1
        have t1 := (HC.out _ hSw).2
        go_simp
        with_reducible rfl
      simp only [List.setIfInBounds_toArray, List.set_cons_zero, List.set_cons_succ]
      refine' take_at (i := 10) (d := 139) (v := _) rfl rfl (by kernel_rfl) (by kernel_rfl) (by kernel_rfl) (fun _ _ _ h => h) (Or.inl ⟨by rfl, ?h10⟩) (H5.out.1) ?_
      case h10 =>
        intro w hSw
        have t0 := (HC.out _ hSw).1
        have t1 := (HC.out _ hSw).2
        go_simp
        with_reducible rfl
      simp only [List.setIfInBounds_toArray, List.set_cons_zero, List.set_cons_succ]
      refine' take_at (i := 11) (d := 140) (v := _) rfl rfl (by kernel_rfl) (by kernel_rfl) (by kernel_rfl) (fun _ _ _ h => h) (Or.inl ⟨by rfl, ?h11⟩) (H5.out.1) ?_
      case h11 =>
        intro w hSw
        have t0 := (HC.out _ hSw).1
        have t1 := (HC.out _ hSw).2
        go_simp
        with_reducible rfl
      simp only [List.setIfInBounds_toArray, List.set_cons_zero, List.set_cons_succ]
      refine wpAnyH_ready (rs := [12]) (by kernel_rfl) (by simp) ?_
      refine AllReadyH.cons (o := _) rfl (fun KQ hKQ => ?_) AllReadyH.nil
      go_simp
      obtain ⟨sb, hsb⟩ : ∃ z, z = w5.heap.size := ⟨_, rfl⟩
      rw [← hsb]
      have H6 : Hid (Below wv.heap.size wv (w5.alloc (.cells #[.int .i64 x.err, .int .i64 x.at_] 62)) ∧ Cb (w5.alloc (.cells #[.int .i64 x.err, .int .i64 x.at_] 62)) sb (vc x) 62 ∧ (w5.alloc (.cells #[.int .i64 x.err, .int .i64 x.at_] 62)).ownsRow wv.heap.size 62 2 u17 (vt.take k).length (KW.cs (vt.take k))) := by
        have hb2 := (Below.refl _ w5).alloc (Nat.le_refl _) (.cells #[.int .i64 x.err, .int .i64 x.at_] 62)
        rw [hsb]
        exact ⟨H5.out.1.trans (hb2.mono H5.out.1.size), Cb.made w5 (vc x) _, H5.out.2.alloc _⟩
      clear hsb H5
      generalize (w5.alloc (.cells #[.int .i64 x.err, .int .i64 x.at_] 62)) = w6 at *
      refine hKQ.out _ _ H6.out.1 (fun _ => ?_)
      clear hKQ KQ
      refine wpAnyH_ready (rs := [13]) (by kernel_rfl) (by simp) ?_
      refine AllReadyH.cons (o := _) rfl (fun KQ hKQ => ?_) AllReadyH.nil
      refine KW.ok.appD _ _ rfl 142 rfl wv.heap.size u17 (.slice (some ⟨sb, 0, none⟩) 1 1) (vt.take k) [x] w6 rfl rfl H6.out.2.2 H6.out.1.size (Kd.one_at H6.out.2.1) (KW.one _) (Nat.le_trans (Nat.add_le_add_right HT.out.2 1) (by decide)) ?_
      intro v7 w7 hr7 hb7 _ _
      have H7' : Hid (w7.ownsRow wv.heap.size 62 2 v7 (vt.take (k + 1)).length (KW.cs (vt.take (k + 1))) ∧ Below wv.heap.size wv w7) := ⟨by rw [HT.out.1]; exact hr7, H6.out.1.trans hb7⟩
      clear hr7 hb7 H6
      refine hKQ.out _ _ H7'.out.2 (fun _ => ?_)
      clear hKQ KQ
      refine' take_at (i := 14) (d := 17) (v := _) rfl rfl (by kernel_rfl) (by kernel_rfl) (by kernel_rfl) (fun _ _ _ h => h) (Or.inl ⟨by rfl, ?h14⟩) (H7'.out.2) ?_
      case h14 =>
        intro w hSw
        go_simp
        with_reducible rfl
      simp only [List.setIfInBounds_toArray, List.set_cons_zero, List.set_cons_succ]
      refine wpAnyH_done (by kernel_rfl) ?_ _
      go_wp2
      go_roundw
      case rel => exact ⟨k + 1, by omega, by go_num, H7'.out.1, H7'.out.2⟩
      case measure => simp [intOf]; omega
    · have hlt' : ¬ (k : Int) < (NW : Int) := by omega
      have HF : Hid (KW.At wr u17 vt ∧ Below w7.heap.size w7 wr ∧ KV.At wr (.slice va NW cw) vt) := by
        have h := HW.out.1
        rw [List.take_of_length_le (by have := HV.out.2.2.1; omega)] at h
        exact ⟨KW.ok.row h, HV.out.1.trans (HW.out.2.mono HV.out.1.size), HV.out.2.1.below HW.out.2⟩
      obtain ⟨ka, kc, rfl, _, _⟩ := HF.out.1.form
      obtain ⟨KL, hKL⟩ : ∃ L, L = vt.length := ⟨_, rfl⟩
      rw [← hKL] at HF ⊢
      obtain ⟨ve, hve⟩ : ∃ z, z = (Pn.verdict P vt).1 := ⟨_, rfl⟩
      obtain ⟨vz, hvz⟩ : ∃ z, z = (Pn.verdict P vt).2 := ⟨_, rfl⟩
      have HVA : Hid (∀ w', Below w7.heap.size w7 w' → KV.At w' (.slice va NW cw) vt → Calls Tryz.prog 11 #[pv P (.slice ux N1 uc) (.slice ax NS ac) (.slice bx NP bc), .slice va NW cw] w' fun e w'' => e = .returned (.tuple #[.int .i64 ve, .int .i64 vz]) ∧ Below w'.heap.size w' w'') := fun w' hb ha => by
        rw [hve, hvz]
        exact verdict_any19 P _ _ _ _ vt w' (H7.out.2.2.1.below hb) HP.out.2.1 ha (by have := HV.out.2.2.1; have := HV.out.2.2.2; omega)
      have HVB : Hid (∀ w', Below w7.heap.size w7 w' → KW.At w' (.slice ka KL kc) vt → Calls Tryz.prog 19 #[pv P (.slice ux2 N1 uc2) (.slice ax2 NS ac2) (.slice bx2 NP bc2), .slice ka KL kc] w' fun e w'' => e = .returned (.tuple #[.int .i64 ve, .int .i64 vz]) ∧ Below w'.heap.size w' w'') := fun w' hb ha => by
        rw [hve, hvz]
        exact refVerdict_any19 P _ _ _ _ vt w' (H7.out.2.2.2.2.1.below hb) HP.out.2.1 ha (by have := HV.out.2.2.1; have := HV.out.2.2.2; omega)
      clear hve hvz hKL HW HV
      unfold pv at HVA HVB
      have p0 := (H7.out.2.2.2.1.below HF.out.2.1).cell 0
      have p1 := (H7.out.2.2.2.1.below HF.out.2.1).cell 1
      have p2 := (H7.out.2.2.2.1.below HF.out.2.1).cell 2
      have p3 := (H7.out.2.2.2.1.below HF.out.2.1).cell 3
      have p4 := (H7.out.2.2.2.1.below HF.out.2.1).cell 4
      simp only [List.getElem?_cons_zero, List.getElem?_cons_succ] at p0 p1 p2 p3 p4
      go_wp2_with fail
      refine (HVA.out wr HF.out.2.1 HF.out.2.2).mono ?_
      rintro e w9 ⟨rfl, hb⟩
      have H9 : Hid (Below w7.heap.size w7 w9 ∧ KW.At w9 (.slice ka KL kc) vt) := ⟨HF.out.2.1.trans (hb.mono HF.out.2.1.size), HF.out.1.below hb⟩
      clear hb p0 p1 p2 p3 p4 HVA HF
      have p0 := (H7.out.2.2.2.2.2.below H9.out.1).cell 0
      have p1 := (H7.out.2.2.2.2.2.below H9.out.1).cell 1
      have p2 := (H7.out.2.2.2.2.2.below H9.out.1).cell 2
      have p3 := (H7.out.2.2.2.2.2.below H9.out.1).cell 3
      have p4 := (H7.out.2.2.2.2.2.below H9.out.1).cell 4
      simp only [List.getElem?_cons_zero, List.getElem?_cons_succ] at p0 p1 p2 p3 p4
      go_wp2_with fail
      refine (HVB.out w9 H9.out.1 H9.out.2).mono ?_
      rintro e w10 ⟨rfl, hb⟩
      have H10 : Hid (Below w7.heap.size w7 w10) := H9.out.1.trans (hb.mono H9.out.1.size)
      clear hb p0 p1 p2 p3 p4 HVB H9
      go_wp2
      obtain ⟨ls, hls⟩ : ∃ l, l = P.pl.map fun l => (Pn.opsAt os l).map rd19 := ⟨_, rfl⟩
      have HLS : Hid (ls = P.pl.map fun l => (Pn.opsAt os l).map rd19) := hls
      clear hls
      go_loopw [23, 24] (fun lv i wx => ∃ (k : Nat) (us : List Value), k ≤ NS ∧ i = .int .i64 (k : Int) ∧ Wl19 w10 wx lv us (ls.take k)) (fun _ i _ => NS - (intOf i).toNat)
      case atStart => exact ⟨0, [], Nat.zero_le _, rfl, by simpa using Wl19.nil w10⟩
      case round =>
        obtain ⟨k, us, hk, rfl, hw⟩ := hrel
        have HW : Hid (Wl19 w10 wr u23 us (ls.take k) ∧ Below w7.heap.size w7 wr) := ⟨hw, H10.out.trans (hw.bel.mono H10.out.size)⟩
        clear hw
        have p3 : wr.cell? ⟨pb, 3, none⟩ = some (.slice ax NS ac) := (H7.out.2.2.2.1.below HW.out.2).cell 3
        by_cases hlt : k < NS
        · have hlt' : (k : Int) < (NS : Int) := by omega
          have hk0 : (0 : Int) ≤ (k : Int) := by omega
          have hkp : (k : Int) < (NP : Int) := by have := HNN.out.2.2.2.2.1; omega
          have hwk : IntKind.wrap .i64 ((k : Int) + 1) = (k : Int) + 1 := by rw [IntKind.wrap_i64]; have := HNN.out.2.2.2.1; omega
          obtain ⟨z, hz⟩ : ∃ z, P.sh[k]? = some z := ⟨P.sh[k]'(by have := HNN.out.2.1; omega), List.getElem?_eq_getElem _⟩
          obtain ⟨l, hl⟩ : ∃ l, P.pl[k]? = some l := ⟨P.pl[k]'(by have := HNN.out.2.1; have := HP.out.2.1.len; omega), List.getElem?_eq_getElem _⟩
          have HZ : Hid (P.sh[k]? = some z ∧ P.pl[k]? = some l) := ⟨hz, hl⟩
          obtain ⟨g1, o1, rfl, h1c⟩ := H7.out.2.2.1.sh.at hz
          obtain ⟨g2, o2, rfl, h2c⟩ := H7.out.2.2.2.2.1.sh.at hz
          obtain ⟨g3, o3, y1, rfl, h3c, hy1⟩ := H7.out.2.2.1.at hl
          obtain ⟨g4, o4, y2, rfl, h4c, hy2⟩ := H7.out.2.2.2.2.1.at hl
          have HC : Hid (∀ w', Below w7.heap.size w7 w' → w'.cell? ⟨g1, o1 + k, none⟩ = some (.int .i64 z) ∧ w'.cell? ⟨g2, o2 + k, none⟩ = some (.int .i64 z) ∧ w'.cell? ⟨g3, o3 + k, none⟩ = some y1 ∧ w'.cell? ⟨g4, o4 + k, none⟩ = some y2 ∧ KI.At w' y1 l ∧ KI.At w' y2 l) := fun w' hb => ⟨Below.kept hb (by simpa [KI] using h1c 0 _ rfl), Below.kept hb (by simpa [KI] using h2c 0 _ rfl), Below.kept hb h3c, Below.kept hb h4c, hy1.below hb, hy2.below hb⟩
          clear hz hl h1c h2c h3c h4c hy1 hy2
          obtain ⟨qo, hqo⟩ : ∃ x, x = Pn.opsAt os l := ⟨_, rfl⟩
          have HQ : Hid (Pn.opsOf P z = qo ∧ l.length ≤ 16 ∧ qo.length = l.length ∧ qo = Pn.opsAt os l) := by
            have hm := List.mem_of_getElem? HZ.out.2
            have hr := HP.out.2.1.rng l hm
            rw [HP.out.2.2.1] at hr
            rw [hqo]
            exact ⟨by rw [Pn.opsOf_at HP.out.2.1 HZ.out.1 HZ.out.2, HP.out.2.2.1], HP.out.2.1.plen hm, Pn.opsAt_len hr, rfl⟩
          clear hqo
          have hzz : (z != z) = false := by simp
          go_upto_region 27 with fail
          clear p3
          refine wp_region_held_drew (S := fun w' => Below w7.heap.size w7 w') (by kernel_rfl) HW.out.2.drew (fun _ => ?_)
          have H6 : Hid (Below w7.heap.size w7 wr.drew ∧ Wl19 w10 wr.drew u23 us (ls.take k)) := ⟨HW.out.2.drew, HW.out.1.later (Below.refl _ wr).drew⟩
          generalize wr.drew = w11 at *
          clear HW
          refine' take_at (i := 0) (d := 162) (v := _) rfl rfl (by kernel_rfl) (by kernel_rfl) (by kernel_rfl) (fun _ _ _ h => h) (Or.inl ⟨by rfl, ?h0⟩) (H6.out.1) ?_
          case h0 =>
            intro w hSw
            have t := H7.out.2.2.2.1.below hSw
            have t0 := t.cell 0
            have t1 := t.cell 1
            have t2 := t.cell 2
            have t3 := t.cell 3
            have t4 := t.cell 4
            have s := H7.out.2.2.2.2.2.below hSw
            have s0 := s.cell 0
            have s1 := s.cell 1
            have s2 := s.cell 2
            have s3 := s.cell 3
            have s4 := s.cell 4
            obtain ⟨c1, c2, c3, c4, _, _⟩ := HC.out _ hSw
            simp only [List.getElem?_cons_zero, List.getElem?_cons_succ] at t0 t1 t2 t3 t4 s0 s1 s2 s3 s4
            go_simp
            with_reducible rfl
          simp only [List.setIfInBounds_toArray, List.set_cons_zero, List.set_cons_succ]
          refine' take_at (i := 1) (d := 163) (v := _) rfl rfl (by kernel_rfl) (by kernel_rfl) (by kernel_rfl) (fun _ _ _ h => h) (Or.inl ⟨by rfl, ?h1⟩) (H6.out.1) ?_
          case h1 =>
            intro w hSw
            have t := H7.out.2.2.2.1.below hSw
            have t0 := t.cell 0
            have t1 := t.cell 1
            have t2 := t.cell 2
            have t3 := t.cell 3
            have t4 := t.cell 4
            have s := H7.out.2.2.2.2.2.below hSw
            have s0 := s.cell 0
            have s1 := s.cell 1
            have s2 := s.cell 2
            have s3 := s.cell 3
            have s4 := s.cell 4
            obtain ⟨c1, c2, c3, c4, _, _⟩ := HC.out _ hSw
            simp only [List.getElem?_cons_zero, List.getElem?_cons_succ] at t0 t1 t2 t3 t4 s0 s1 s2 s3 s4
            go_simp
            with_reducible rfl
          simp only [List.setIfInBounds_toArray, List.set_cons_zero, List.set_cons_succ]
          refine' take_at (i := 2) (d := 164) (v := _) rfl rfl (by kernel_rfl) (by kernel_rfl) (by kernel_rfl) (fun _ _ _ h => h) (Or.inl ⟨by rfl, ?h2⟩) (H6.out.1) ?_
          case h2 =>
            intro w hSw
            have t := H7.out.2.2.2.1.below hSw
            have t0 := t.cell 0
            have t1 := t.cell 1
            have t2 := t.cell 2
            have t3 := t.cell 3
            have t4 := t.cell 4
            have s := H7.out.2.2.2.2.2.below hSw
            have s0 := s.cell 0
            have s1 := s.cell 1
            have s2 := s.cell 2
            have s3 := s.cell 3
            have s4 := s.cell 4
            obtain ⟨c1, c2, c3, c4, _, _⟩ := HC.out _ hSw
            simp only [List.getElem?_cons_zero, List.getElem?_cons_succ] at t0 t1 t2 t3 t4 s0 s1 s2 s3 s4
            go_simp
            with_reducible rfl
          simp only [List.setIfInBounds_toArray, List.set_cons_zero, List.set_cons_succ]
          refine' take_at (i := 3) (d := 165) (v := _) rfl rfl (by kernel_rfl) (by kernel_rfl) (by kernel_rfl) (fun _ _ _ h => h) (Or.inl ⟨by rfl, ?h3⟩) (H6.out.1) ?_
          case h3 =>
            intro w hSw
            have t := H7.out.2.2.2.1.below hSw
            have t0 := t.cell 0
            have t1 := t.cell 1
            have t2 := t.cell 2
            have t3 := t.cell 3
            have t4 := t.cell 4
            have s := H7.out.2.2.2.2.2.below hSw
            have s0 := s.cell 0
            have s1 := s.cell 1
            have s2 := s.cell 2
            have s3 := s.cell 3
            have s4 := s.cell 4
            obtain ⟨c1, c2, c3, c4, _, _⟩ := HC.out _ hSw
            simp only [List.getElem?_cons_zero, List.getElem?_cons_succ] at t0 t1 t2 t3 t4 s0 s1 s2 s3 s4
            go_simp
            with_reducible rfl
          simp only [List.setIfInBounds_toArray, List.set_cons_zero, List.set_cons_succ]
          refine' take_at (i := 4) (d := 166) (v := _) rfl rfl (by kernel_rfl) (by kernel_rfl) (by kernel_rfl) (fun _ _ _ h => h) (Or.inl ⟨by rfl, ?h4⟩) (H6.out.1) ?_
          case h4 =>
            intro w hSw
            have t := H7.out.2.2.2.1.below hSw
            have t0 := t.cell 0
            have t1 := t.cell 1
            have t2 := t.cell 2
            have t3 := t.cell 3
            have t4 := t.cell 4
            have s := H7.out.2.2.2.2.2.below hSw
            have s0 := s.cell 0
            have s1 := s.cell 1
            have s2 := s.cell 2
            have s3 := s.cell 3
            have s4 := s.cell 4
            obtain ⟨c1, c2, c3, c4, _, _⟩ := HC.out _ hSw
            simp only [List.getElem?_cons_zero, List.getElem?_cons_succ] at t0 t1 t2 t3 t4 s0 s1 s2 s3 s4
            go_simp
            with_reducible rfl
          simp only [List.setIfInBounds_toArray, List.set_cons_zero, List.set_cons_succ]
          refine' take_at (i := 5) (d := 167) (v := _) rfl rfl (by kernel_rfl) (by kernel_rfl) (by kernel_rfl) (fun _ _ _ h => h) (Or.inl ⟨by rfl, ?h5⟩) (H6.out.1) ?_
          case h5 =>
            intro w hSw
            have t := H7.out.2.2.2.1.below hSw
            have t0 := t.cell 0
            have t1 := t.cell 1
            have t2 := t.cell 2
            have t3 := t.cell 3
            have t4 := t.cell 4
            have s := H7.out.2.2.2.2.2.below hSw
            have s0 := s.cell 0
            have s1 := s.cell 1
            have s2 := s.cell 2
            have s3 := s.cell 3
            have s4 := s.cell 4
            obtain ⟨c1, c2, c3, c4, _, _⟩ := HC.out _ hSw
            simp only [List.getElem?_cons_zero, List.getElem?_cons_succ] at t0 t1 t2 t3 t4 s0 s1 s2 s3 s4
            go_simp
            with_reducible rfl
          simp only [List.setIfInBounds_toArray, List.set_cons_zero, List.set_cons_succ]
          refine' take_at (i := 6) (d := 168) (v := _) rfl rfl (by kernel_rfl) (by kernel_rfl) (by kernel_rfl) (fun _ _ _ h => h) (Or.inl ⟨by rfl, ?h6⟩) (H6.out.1) ?_
          case h6 =>
            intro w hSw
            have t := H7.out.2.2.2.1.below hSw
            have t0 := t.cell 0
            have t1 := t.cell 1
            have t2 := t.cell 2
            have t3 := t.cell 3
            have t4 := t.cell 4
            have s := H7.out.2.2.2.2.2.below hSw
            have s0 := s.cell 0
            have s1 := s.cell 1
            have s2 := s.cell 2
            have s3 := s.cell 3
            have s4 := s.cell 4
            obtain ⟨c1, c2, c3, c4, _, _⟩ := HC.out _ hSw
            simp only [List.getElem?_cons_zero, List.getElem?_cons_succ] at t0 t1 t2 t3 t4 s0 s1 s2 s3 s4
            go_simp
            with_reducible rfl
          simp only [List.setIfInBounds_toArray, List.set_cons_zero, List.set_cons_succ]
          refine' take_at (i := 7) (d := 169) (v := _) rfl rfl (by kernel_rfl) (by kernel_rfl) (by kernel_rfl) (fun _ _ _ h => h) (Or.inl ⟨by rfl, ?h7⟩) (H6.out.1) ?_
          case h7 =>
            intro w hSw
            have t := H7.out.2.2.2.1.below hSw
            have t0 := t.cell 0
            have t1 := t.cell 1
            have t2 := t.cell 2
            have t3 := t.cell 3
            have t4 := t.cell 4
            have s := H7.out.2.2.2.2.2.below hSw
            have s0 := s.cell 0
            have s1 := s.cell 1
            have s2 := s.cell 2
            have s3 := s.cell 3
            have s4 := s.cell 4
            obtain ⟨c1, c2, c3, c4, _, _⟩ := HC.out _ hSw
            simp only [List.getElem?_cons_zero, List.getElem?_cons_succ] at t0 t1 t2 t3 t4 s0 s1 s2 s3 s4
            go_simp
            with_reducible rfl
          simp only [List.setIfInBounds_toArray, List.set_cons_zero, List.set_cons_succ]
          refine' take_at (i := 8) (d := 170) (v := _) rfl rfl (by kernel_rfl) (by kernel_rfl) (by kernel_rfl) (fun _ _ _ h => h) (Or.inl ⟨by rfl, ?h8⟩) (H6.out.1) ?_
          case h8 =>
            intro w hSw
            have t := H7.out.2.2.2.1.below hSw
            have t0 := t.cell 0
            have t1 := t.cell 1
            have t2 := t.cell 2
            have t3 := t.cell 3
            have t4 := t.cell 4
            have s := H7.out.2.2.2.2.2.below hSw
            have s0 := s.cell 0
            have s1 := s.cell 1
            have s2 := s.cell 2
            have s3 := s.cell 3
            have s4 := s.cell 4
            obtain ⟨c1, c2, c3, c4, _, _⟩ := HC.out _ hSw
            simp only [List.getElem?_cons_zero, List.getElem?_cons_succ] at t0 t1 t2 t3 t4 s0 s1 s2 s3 s4
            go_simp
            with_reducible rfl
          simp only [List.setIfInBounds_toArray, List.set_cons_zero, List.set_cons_succ]
          refine' take_at (i := 9) (d := 171) (v := _) rfl rfl (by kernel_rfl) (by kernel_rfl) (by kernel_rfl) (fun _ _ _ h => h) (Or.inl ⟨by rfl, ?h9⟩) (H6.out.1) ?_
          case h9 =>
            intro w hSw
            have t := H7.out.2.2.2.1.below hSw
            have t0 := t.cell 0
            have t1 := t.cell 1
            have t2 := t.cell 2
            have t3 := t.cell 3
            have t4 := t.cell 4
            have s := H7.out.2.2.2.2.2.below hSw
            have s0 := s.cell 0
            have s1 := s.cell 1
            have s2 := s.cell 2
            have s3 := s.cell 3
            have s4 := s.cell 4
            obtain ⟨c1, c2, c3, c4, _, _⟩ := HC.out _ hSw
            simp only [List.getElem?_cons_zero, List.getElem?_cons_succ] at t0 t1 t2 t3 t4 s0 s1 s2 s3 s4
            go_simp
            with_reducible rfl
          simp only [List.setIfInBounds_toArray, List.set_cons_zero, List.set_cons_succ]
          refine' take_at (i := 10) (d := 172) (v := _) rfl rfl (by kernel_rfl) (by kernel_rfl) (by kernel_rfl) (fun _ _ _ h => h) (Or.inl ⟨by rfl, ?h10⟩) (H6.out.1) ?_
          case h10 =>
            intro w hSw
            have t := H7.out.2.2.2.1.below hSw
            have t0 := t.cell 0
            have t1 := t.cell 1
            have t2 := t.cell 2
            have t3 := t.cell 3
            have t4 := t.cell 4
            have s := H7.out.2.2.2.2.2.below hSw
            have s0 := s.cell 0
            have s1 := s.cell 1
            have s2 := s.cell 2
            have s3 := s.cell 3
            have s4 := s.cell 4
            obtain ⟨c1, c2, c3, c4, _, _⟩ := HC.out _ hSw
            simp only [List.getElem?_cons_zero, List.getElem?_cons_succ] at t0 t1 t2 t3 t4 s0 s1 s2 s3 s4
            go_simp
            with_reducible rfl
          simp only [List.setIfInBounds_toArray, List.set_cons_zero, List.set_cons_succ]
          refine' take_at (i := 11) (d := 173) (v := _) rfl rfl (by kernel_rfl) (by kernel_rfl) (by kernel_rfl) (fun _ _ _ h => h) (Or.inl ⟨by rfl, ?h11⟩) (H6.out.1) ?_
          case h11 =>
            intro w hSw
            have t := H7.out.2.2.2.1.below hSw
            have t0 := t.cell 0
            have t1 := t.cell 1
            have t2 := t.cell 2
            have t3 := t.cell 3
            have t4 := t.cell 4
            have s := H7.out.2.2.2.2.2.below hSw
            have s0 := s.cell 0
            have s1 := s.cell 1
            have s2 := s.cell 2
            have s3 := s.cell 3
            have s4 := s.cell 4
            obtain ⟨c1, c2, c3, c4, _, _⟩ := HC.out _ hSw
            simp only [List.getElem?_cons_zero, List.getElem?_cons_succ] at t0 t1 t2 t3 t4 s0 s1 s2 s3 s4
            go_simp
            with_reducible rfl
          simp only [List.setIfInBounds_toArray, List.set_cons_zero, List.set_cons_succ]
          refine' take_at (i := 12) (d := 174) (v := _) rfl rfl (by kernel_rfl) (by kernel_rfl) (by kernel_rfl) (fun _ _ _ h => h) (Or.inl ⟨by rfl, ?h12⟩) (H6.out.1) ?_
          case h12 =>
            intro w hSw
            have t := H7.out.2.2.2.1.below hSw
            have t0 := t.cell 0
            have t1 := t.cell 1
            have t2 := t.cell 2
            have t3 := t.cell 3
            have t4 := t.cell 4
            have s := H7.out.2.2.2.2.2.below hSw
            have s0 := s.cell 0
            have s1 := s.cell 1
            have s2 := s.cell 2
            have s3 := s.cell 3
            have s4 := s.cell 4
            obtain ⟨c1, c2, c3, c4, _, _⟩ := HC.out _ hSw
            simp only [List.getElem?_cons_zero, List.getElem?_cons_succ] at t0 t1 t2 t3 t4 s0 s1 s2 s3 s4
            go_simp
            with_reducible rfl
          simp only [List.setIfInBounds_toArray, List.set_cons_zero, List.set_cons_succ]
          refine' take_at (i := 13) (d := 175) (v := _) rfl rfl (by kernel_rfl) (by kernel_rfl) (by kernel_rfl) (fun _ _ _ h => h) (Or.inl ⟨by rfl, ?h13⟩) (H6.out.1) ?_
          case h13 =>
            intro w hSw
            have t := H7.out.2.2.2.1.below hSw
            have t0 := t.cell 0
            have t1 := t.cell 1
            have t2 := t.cell 2
            have t3 := t.cell 3
            have t4 := t.cell 4
            have s := H7.out.2.2.2.2.2.below hSw
            have s0 := s.cell 0
            have s1 := s.cell 1
            have s2 := s.cell 2
            have s3 := s.cell 3
            have s4 := s.cell 4
            obtain ⟨c1, c2, c3, c4, _, _⟩ := HC.out _ hSw
            simp only [List.getElem?_cons_zero, List.getElem?_cons_succ] at t0 t1 t2 t3 t4 s0 s1 s2 s3 s4
            go_simp
            with_reducible rfl
          simp only [List.setIfInBounds_toArray, List.set_cons_zero, List.set_cons_succ]
          refine' take_at (i := 14) (d := 176) (v := _) rfl rfl (by kernel_rfl) (by kernel_rfl) (by kernel_rfl) (fun _ _ _ h => h) (Or.inl ⟨by rfl, ?h14⟩) (H6.out.1) ?_
          case h14 =>
            intro w hSw
            have t := H7.out.2.2.2.1.below hSw
            have t0 := t.cell 0
            have t1 := t.cell 1
            have t2 := t.cell 2
            have t3 := t.cell 3
            have t4 := t.cell 4
            have s := H7.out.2.2.2.2.2.below hSw
            have s0 := s.cell 0
            have s1 := s.cell 1
            have s2 := s.cell 2
            have s3 := s.cell 3
            have s4 := s.cell 4
            obtain ⟨c1, c2, c3, c4, _, _⟩ := HC.out _ hSw
            simp only [List.getElem?_cons_zero, List.getElem?_cons_succ] at t0 t1 t2 t3 t4 s0 s1 s2 s3 s4
            go_simp
            with_reducible rfl
          simp only [List.setIfInBounds_toArray, List.set_cons_zero, List.set_cons_succ]
          refine' take_at (i := 15) (d := 177) (v := _) rfl rfl (by kernel_rfl) (by kernel_rfl) (by kernel_rfl) (fun _ _ _ h => h) (Or.inl ⟨by rfl, ?h15⟩) (H6.out.1) ?_
          case h15 =>
            intro w hSw
            have t := H7.out.2.2.2.1.below hSw
            have t0 := t.cell 0
            have t1 := t.cell 1
            have t2 := t.cell 2
            have t3 := t.cell 3
            have t4 := t.cell 4
            have s := H7.out.2.2.2.2.2.below hSw
            have s0 := s.cell 0
            have s1 := s.cell 1
            have s2 := s.cell 2
            have s3 := s.cell 3
            have s4 := s.cell 4
            obtain ⟨c1, c2, c3, c4, _, _⟩ := HC.out _ hSw
            simp only [List.getElem?_cons_zero, List.getElem?_cons_succ] at t0 t1 t2 t3 t4 s0 s1 s2 s3 s4
            go_simp
            with_reducible rfl
          simp only [List.setIfInBounds_toArray, List.set_cons_zero, List.set_cons_succ]
          refine' take_at (i := 16) (d := 178) (v := _) rfl rfl (by kernel_rfl) (by kernel_rfl) (by kernel_rfl) (fun _ _ _ h => h) (Or.inl ⟨by rfl, ?h16⟩) (H6.out.1) ?_
          case h16 =>
            intro w hSw
            have t := H7.out.2.2.2.1.below hSw
            have t0 := t.cell 0
            have t1 := t.cell 1
            have t2 := t.cell 2
            have t3 := t.cell 3
            have t4 := t.cell 4
            have s := H7.out.2.2.2.2.2.below hSw
            have s0 := s.cell 0
            have s1 := s.cell 1
            have s2 := s.cell 2
            have s3 := s.cell 3
            have s4 := s.cell 4
            obtain ⟨c1, c2, c3, c4, _, _⟩ := HC.out _ hSw
            simp only [List.getElem?_cons_zero, List.getElem?_cons_succ] at t0 t1 t2 t3 t4 s0 s1 s2 s3 s4
            go_simp
            with_reducible rfl
          simp only [List.setIfInBounds_toArray, List.set_cons_zero, List.set_cons_succ]
          refine' take_at (i := 17) (d := 179) (v := _) rfl rfl (by kernel_rfl) (by kernel_rfl) (by kernel_rfl) (fun _ _ _ h => h) (Or.inl ⟨by rfl, ?h17⟩) (H6.out.1) ?_
          case h17 =>
            intro w hSw
            have t := H7.out.2.2.2.1.below hSw
            have t0 := t.cell 0
            have t1 := t.cell 1
            have t2 := t.cell 2
            have t3 := t.cell 3
            have t4 := t.cell 4
            have s := H7.out.2.2.2.2.2.below hSw
            have s0 := s.cell 0
            have s1 := s.cell 1
            have s2 := s.cell 2
            have s3 := s.cell 3
            have s4 := s.cell 4
            obtain ⟨c1, c2, c3, c4, _, _⟩ := HC.out _ hSw
            simp only [List.getElem?_cons_zero, List.getElem?_cons_succ] at t0 t1 t2 t3 t4 s0 s1 s2 s3 s4
            go_simp
            with_reducible rfl
          simp only [List.setIfInBounds_toArray, List.set_cons_zero, List.set_cons_succ]
          refine' take_at (i := 18) (d := 180) (v := _) rfl rfl (by kernel_rfl) (by kernel_rfl) (by kernel_rfl) (fun _ _ _ h => h) (Or.inl ⟨by rfl, ?h18⟩) (H6.out.1) ?_
          case h18 =>
            intro w hSw
            have t := H7.out.2.2.2.1.below hSw
            have t0 := t.cell 0
            have t1 := t.cell 1
            have t2 := t.cell 2
            have t3 := t.cell 3
            have t4 := t.cell 4
            have s := H7.out.2.2.2.2.2.below hSw
            have s0 := s.cell 0
            have s1 := s.cell 1
            have s2 := s.cell 2
            have s3 := s.cell 3
            have s4 := s.cell 4
            obtain ⟨c1, c2, c3, c4, _, _⟩ := HC.out _ hSw
            simp only [List.getElem?_cons_zero, List.getElem?_cons_succ] at t0 t1 t2 t3 t4 s0 s1 s2 s3 s4
            go_simp
            with_reducible rfl
          simp only [List.setIfInBounds_toArray, List.set_cons_zero, List.set_cons_succ]
          refine' take_at (i := 19) (d := 181) (v := _) rfl rfl (by kernel_rfl) (by kernel_rfl) (by kernel_rfl) (fun _ _ _ h => h) (Or.inl ⟨by rfl, ?h19⟩) (H6.out.1) ?_
          case h19 =>
            intro w hSw
            have t := H7.out.2.2.2.1.below hSw
            have t0 := t.cell 0
            have t1 := t.cell 1
            have t2 := t.cell 2
            have t3 := t.cell 3
            have t4 := t.cell 4
            have s := H7.out.2.2.2.2.2.below hSw
            have s0 := s.cell 0
            have s1 := s.cell 1
            have s2 := s.cell 2
            have s3 := s.cell 3
            have s4 := s.cell 4
            obtain ⟨c1, c2, c3, c4, _, _⟩ := HC.out _ hSw
            simp only [List.getElem?_cons_zero, List.getElem?_cons_succ] at t0 t1 t2 t3 t4 s0 s1 s2 s3 s4
            go_simp
            with_reducible rfl
          simp only [List.setIfInBounds_toArray, List.set_cons_zero, List.set_cons_succ]
          refine' take_at (i := 20) (d := 182) (v := _) rfl rfl (by kernel_rfl) (by kernel_rfl) (by kernel_rfl) (fun _ _ _ h => h) (Or.inl ⟨by rfl, ?h20⟩) (H6.out.1) ?_
          case h20 =>
            intro w hSw
            have t := H7.out.2.2.2.1.below hSw
            have t0 := t.cell 0
            have t1 := t.cell 1
            have t2 := t.cell 2
            have t3 := t.cell 3
            have t4 := t.cell 4
            have s := H7.out.2.2.2.2.2.below hSw
            have s0 := s.cell 0
            have s1 := s.cell 1
            have s2 := s.cell 2
            have s3 := s.cell 3
            have s4 := s.cell 4
            obtain ⟨c1, c2, c3, c4, _, _⟩ := HC.out _ hSw
            simp only [List.getElem?_cons_zero, List.getElem?_cons_succ] at t0 t1 t2 t3 t4 s0 s1 s2 s3 s4
            go_simp
            with_reducible rfl
          simp only [List.setIfInBounds_toArray, List.set_cons_zero, List.set_cons_succ]
          refine' take_at (i := 21) (d := 183) (v := _) rfl rfl (by kernel_rfl) (by kernel_rfl) (by kernel_rfl) (fun _ _ _ h => h) (Or.inl ⟨by rfl, ?h21⟩) (H6.out.1) ?_
          case h21 =>
            intro w hSw
            have t := H7.out.2.2.2.1.below hSw
            have t0 := t.cell 0
            have t1 := t.cell 1
            have t2 := t.cell 2
            have t3 := t.cell 3
            have t4 := t.cell 4
            have s := H7.out.2.2.2.2.2.below hSw
            have s0 := s.cell 0
            have s1 := s.cell 1
            have s2 := s.cell 2
            have s3 := s.cell 3
            have s4 := s.cell 4
            obtain ⟨c1, c2, c3, c4, _, _⟩ := HC.out _ hSw
            simp only [List.getElem?_cons_zero, List.getElem?_cons_succ] at t0 t1 t2 t3 t4 s0 s1 s2 s3 s4
            go_simp
            with_reducible rfl
          simp only [List.setIfInBounds_toArray, List.set_cons_zero, List.set_cons_succ]
          refine wpAnyH_ready (rs := [22]) (by kernel_rfl) (by simp) ?_
          refine AllReadyH.cons (o := _) rfl (fun KQ hKQ => ?_) AllReadyH.nil
          go_simp
          refine (same_any19 y1 y2 l l w11 (HC.out w11 H6.out.1).2.2.2.2.1 (HC.out w11 H6.out.1).2.2.2.2.2 (by have := HQ.out.2.1; omega)).mono ?_
          rintro e w12 ⟨rfl, hb⟩
          rw [decide_eq_true rfl]
          have H7' : Hid (Below w7.heap.size w7 w12 ∧ Wl19 w10 w12 u23 us (ls.take k)) := ⟨H6.out.1.trans (hb.mono H6.out.1.size), H6.out.2.later hb⟩
          clear hb H6
          refine hKQ.out _ _ H7'.out.1 (fun _ => ?_)
          clear hKQ KQ
          refine' take_at (i := 23) (d := 185) (v := _) rfl rfl (by kernel_rfl) (by kernel_rfl) (by kernel_rfl) (fun _ _ _ h => h) (Or.inl ⟨by rfl, ?h23⟩) (H7'.out.1) ?_
          case h23 =>
            intro w hSw
            go_simp
            with_reducible rfl
          simp only [List.setIfInBounds_toArray, List.set_cons_zero, List.set_cons_succ]
          refine' take_at (i := 24) (d := 186) (v := _) rfl rfl (by kernel_rfl) (by kernel_rfl) (by kernel_rfl) (fun _ _ _ h => h) (Or.inl ⟨by rfl, ?h24⟩) (H7'.out.1) ?_
          case h24 =>
            intro w hSw
            go_simp
            with_reducible rfl
          simp only [List.setIfInBounds_toArray, List.set_cons_zero, List.set_cons_succ]
          refine wpAnyH_done (by kernel_rfl) ?_ _
          go_upto_region 29 with fail
          refine wp_region_held_drew (S := fun w' => Below w7.heap.size w7 w') (by kernel_rfl) H7'.out.1.drew (fun _ => ?_)
          have H8 : Hid (Below w7.heap.size w7 w12.drew ∧ Wl19 w10 w12.drew u23 us (ls.take k)) := ⟨H7'.out.1.drew, H7'.out.2.later (Below.refl _ w12).drew⟩
          generalize w12.drew = w13 at *
          clear H7'
          refine' take_at (i := 0) (d := 187) (v := _) rfl rfl (by kernel_rfl) (by kernel_rfl) (by kernel_rfl) (fun _ _ _ h => h) (Or.inl ⟨by rfl, ?h0⟩) (H8.out.1) ?_
          case h0 =>
            intro w hSw
            have t := H7.out.2.2.2.1.below hSw
            have t0 := t.cell 0
            have t1 := t.cell 1
            have t2 := t.cell 2
            have t3 := t.cell 3
            have t4 := t.cell 4
            have s := H7.out.2.2.2.2.2.below hSw
            have s0 := s.cell 0
            have s1 := s.cell 1
            have s2 := s.cell 2
            have s3 := s.cell 3
            have s4 := s.cell 4
            obtain ⟨c1, c2, c3, c4, _, _⟩ := HC.out _ hSw
            simp only [List.getElem?_cons_zero, List.getElem?_cons_succ] at t0 t1 t2 t3 t4 s0 s1 s2 s3 s4
            go_simp
            with_reducible rfl
          simp only [List.setIfInBounds_toArray, List.set_cons_zero, List.set_cons_succ]
          refine' take_at (i := 1) (d := 188) (v := _) rfl rfl (by kernel_rfl) (by kernel_rfl) (by kernel_rfl) (fun _ _ _ h => h) (Or.inl ⟨by rfl, ?h1⟩) (H8.out.1) ?_
          case h1 =>
            intro w hSw
            have t := H7.out.2.2.2.1.below hSw
            have t0 := t.cell 0
            have t1 := t.cell 1
            have t2 := t.cell 2
            have t3 := t.cell 3
            have t4 := t.cell 4
            have s := H7.out.2.2.2.2.2.below hSw
            have s0 := s.cell 0
            have s1 := s.cell 1
            have s2 := s.cell 2
            have s3 := s.cell 3
            have s4 := s.cell 4
            obtain ⟨c1, c2, c3, c4, _, _⟩ := HC.out _ hSw
            simp only [List.getElem?_cons_zero, List.getElem?_cons_succ] at t0 t1 t2 t3 t4 s0 s1 s2 s3 s4
            go_simp
            with_reducible rfl
          simp only [List.setIfInBounds_toArray, List.set_cons_zero, List.set_cons_succ]
          refine' take_at (i := 2) (d := 189) (v := _) rfl rfl (by kernel_rfl) (by kernel_rfl) (by kernel_rfl) (fun _ _ _ h => h) (Or.inl ⟨by rfl, ?h2⟩) (H8.out.1) ?_
          case h2 =>
            intro w hSw
            have t := H7.out.2.2.2.1.below hSw
            have t0 := t.cell 0
            have t1 := t.cell 1
            have t2 := t.cell 2
            have t3 := t.cell 3
            have t4 := t.cell 4
            have s := H7.out.2.2.2.2.2.below hSw
            have s0 := s.cell 0
            have s1 := s.cell 1
            have s2 := s.cell 2
            have s3 := s.cell 3
            have s4 := s.cell 4
            obtain ⟨c1, c2, c3, c4, _, _⟩ := HC.out _ hSw
            simp only [List.getElem?_cons_zero, List.getElem?_cons_succ] at t0 t1 t2 t3 t4 s0 s1 s2 s3 s4
            go_simp
            with_reducible rfl
          simp only [List.setIfInBounds_toArray, List.set_cons_zero, List.set_cons_succ]
          refine' take_at (i := 3) (d := 190) (v := _) rfl rfl (by kernel_rfl) (by kernel_rfl) (by kernel_rfl) (fun _ _ _ h => h) (Or.inl ⟨by rfl, ?h3⟩) (H8.out.1) ?_
          case h3 =>
            intro w hSw
            have t := H7.out.2.2.2.1.below hSw
            have t0 := t.cell 0
            have t1 := t.cell 1
            have t2 := t.cell 2
            have t3 := t.cell 3
            have t4 := t.cell 4
            have s := H7.out.2.2.2.2.2.below hSw
            have s0 := s.cell 0
            have s1 := s.cell 1
            have s2 := s.cell 2
            have s3 := s.cell 3
            have s4 := s.cell 4
            obtain ⟨c1, c2, c3, c4, _, _⟩ := HC.out _ hSw
            simp only [List.getElem?_cons_zero, List.getElem?_cons_succ] at t0 t1 t2 t3 t4 s0 s1 s2 s3 s4
            go_simp
            with_reducible rfl
          simp only [List.setIfInBounds_toArray, List.set_cons_zero, List.set_cons_succ]
          refine' take_at (i := 4) (d := 191) (v := _) rfl rfl (by kernel_rfl) (by kernel_rfl) (by kernel_rfl) (fun _ _ _ h => h) (Or.inl ⟨by rfl, ?h4⟩) (H8.out.1) ?_
          case h4 =>
            intro w hSw
            have t := H7.out.2.2.2.1.below hSw
            have t0 := t.cell 0
            have t1 := t.cell 1
            have t2 := t.cell 2
            have t3 := t.cell 3
            have t4 := t.cell 4
            have s := H7.out.2.2.2.2.2.below hSw
            have s0 := s.cell 0
            have s1 := s.cell 1
            have s2 := s.cell 2
            have s3 := s.cell 3
            have s4 := s.cell 4
            obtain ⟨c1, c2, c3, c4, _, _⟩ := HC.out _ hSw
            simp only [List.getElem?_cons_zero, List.getElem?_cons_succ] at t0 t1 t2 t3 t4 s0 s1 s2 s3 s4
            go_simp
            with_reducible rfl
          simp only [List.setIfInBounds_toArray, List.set_cons_zero, List.set_cons_succ]
          refine' take_at (i := 5) (d := 192) (v := _) rfl rfl (by kernel_rfl) (by kernel_rfl) (by kernel_rfl) (fun _ _ _ h => h) (Or.inl ⟨by rfl, ?h5⟩) (H8.out.1) ?_
          case h5 =>
            intro w hSw
            have t := H7.out.2.2.2.1.below hSw
            have t0 := t.cell 0
            have t1 := t.cell 1
            have t2 := t.cell 2
            have t3 := t.cell 3
            have t4 := t.cell 4
            have s := H7.out.2.2.2.2.2.below hSw
            have s0 := s.cell 0
            have s1 := s.cell 1
            have s2 := s.cell 2
            have s3 := s.cell 3
            have s4 := s.cell 4
            obtain ⟨c1, c2, c3, c4, _, _⟩ := HC.out _ hSw
            simp only [List.getElem?_cons_zero, List.getElem?_cons_succ] at t0 t1 t2 t3 t4 s0 s1 s2 s3 s4
            go_simp
            with_reducible rfl
          simp only [List.setIfInBounds_toArray, List.set_cons_zero, List.set_cons_succ]
          refine' take_at (i := 7) (d := 194) (v := _) rfl rfl (by kernel_rfl) (by kernel_rfl) (by kernel_rfl) (fun _ _ _ h => h) (Or.inl ⟨by rfl, ?h7⟩) (H8.out.1) ?_
          case h7 =>
            intro w hSw
            have t := H7.out.2.2.2.1.below hSw
            have t0 := t.cell 0
            have t1 := t.cell 1
            have t2 := t.cell 2
            have t3 := t.cell 3
            have t4 := t.cell 4
            have s := H7.out.2.2.2.2.2.below hSw
            have s0 := s.cell 0
            have s1 := s.cell 1
            have s2 := s.cell 2
            have s3 := s.cell 3
            have s4 := s.cell 4
            obtain ⟨c1, c2, c3, c4, _, _⟩ := HC.out _ hSw
            simp only [List.getElem?_cons_zero, List.getElem?_cons_succ] at t0 t1 t2 t3 t4 s0 s1 s2 s3 s4
            go_simp
            with_reducible rfl
          simp only [List.setIfInBounds_toArray, List.set_cons_zero, List.set_cons_succ]
          refine' take_at (i := 8) (d := 195) (v := _) rfl rfl (by kernel_rfl) (by kernel_rfl) (by kernel_rfl) (fun _ _ _ h => h) (Or.inl ⟨by rfl, ?h8⟩) (H8.out.1) ?_
          case h8 =>
            intro w hSw
            have t := H7.out.2.2.2.1.below hSw
            have t0 := t.cell 0
            have t1 := t.cell 1
            have t2 := t.cell 2
            have t3 := t.cell 3
            have t4 := t.cell 4
            have s := H7.out.2.2.2.2.2.below hSw
            have s0 := s.cell 0
            have s1 := s.cell 1
            have s2 := s.cell 2
            have s3 := s.cell 3
            have s4 := s.cell 4
            obtain ⟨c1, c2, c3, c4, _, _⟩ := HC.out _ hSw
            simp only [List.getElem?_cons_zero, List.getElem?_cons_succ] at t0 t1 t2 t3 t4 s0 s1 s2 s3 s4
            go_simp
            with_reducible rfl
          simp only [List.setIfInBounds_toArray, List.set_cons_zero, List.set_cons_succ]
          refine' take_at (i := 9) (d := 196) (v := _) rfl rfl (by kernel_rfl) (by kernel_rfl) (by kernel_rfl) (fun _ _ _ h => h) (Or.inl ⟨by rfl, ?h9⟩) (H8.out.1) ?_
          case h9 =>
            intro w hSw
            have t := H7.out.2.2.2.1.below hSw
            have t0 := t.cell 0
            have t1 := t.cell 1
            have t2 := t.cell 2
            have t3 := t.cell 3
            have t4 := t.cell 4
            have s := H7.out.2.2.2.2.2.below hSw
            have s0 := s.cell 0
            have s1 := s.cell 1
            have s2 := s.cell 2
            have s3 := s.cell 3
            have s4 := s.cell 4
            obtain ⟨c1, c2, c3, c4, _, _⟩ := HC.out _ hSw
            simp only [List.getElem?_cons_zero, List.getElem?_cons_succ] at t0 t1 t2 t3 t4 s0 s1 s2 s3 s4
            go_simp
            with_reducible rfl
          simp only [List.setIfInBounds_toArray, List.set_cons_zero, List.set_cons_succ]
          refine' take_at (i := 10) (d := 197) (v := _) rfl rfl (by kernel_rfl) (by kernel_rfl) (by kernel_rfl) (fun _ _ _ h => h) (Or.inl ⟨by rfl, ?h10⟩) (H8.out.1) ?_
          case h10 =>
            intro w hSw
            have t := H7.out.2.2.2.1.below hSw
            have t0 := t.cell 0
            have t1 := t.cell 1
            have t2 := t.cell 2
            have t3 := t.cell 3
            have t4 := t.cell 4
            have s := H7.out.2.2.2.2.2.below hSw
            have s0 := s.cell 0
            have s1 := s.cell 1
            have s2 := s.cell 2
            have s3 := s.cell 3
            have s4 := s.cell 4
            obtain ⟨c1, c2, c3, c4, _, _⟩ := HC.out _ hSw
            simp only [List.getElem?_cons_zero, List.getElem?_cons_succ] at t0 t1 t2 t3 t4 s0 s1 s2 s3 s4
            go_simp
            with_reducible rfl
          simp only [List.setIfInBounds_toArray, List.set_cons_zero, List.set_cons_succ]
          refine' take_at (i := 11) (d := 198) (v := _) rfl rfl (by kernel_rfl) (by kernel_rfl) (by kernel_rfl) (fun _ _ _ h => h) (Or.inl ⟨by rfl, ?h11⟩) (H8.out.1) ?_
          case h11 =>
            intro w hSw
            have t := H7.out.2.2.2.1.below hSw
            have t0 := t.cell 0
            have t1 := t.cell 1
            have t2 := t.cell 2
            have t3 := t.cell 3
            have t4 := t.cell 4
            have s := H7.out.2.2.2.2.2.below hSw
            have s0 := s.cell 0
            have s1 := s.cell 1
            have s2 := s.cell 2
            have s3 := s.cell 3
            have s4 := s.cell 4
            obtain ⟨c1, c2, c3, c4, _, _⟩ := HC.out _ hSw
            simp only [List.getElem?_cons_zero, List.getElem?_cons_succ] at t0 t1 t2 t3 t4 s0 s1 s2 s3 s4
            go_simp
            with_reducible rfl
          simp only [List.setIfInBounds_toArray, List.set_cons_zero, List.set_cons_succ]
          refine' take_at (i := 12) (d := 199) (v := _) rfl rfl (by kernel_rfl) (by kernel_rfl) (by kernel_rfl) (fun _ _ _ h => h) (Or.inl ⟨by rfl, ?h12⟩) (H8.out.1) ?_
          case h12 =>
            intro w hSw
            have t := H7.out.2.2.2.1.below hSw
            have t0 := t.cell 0
            have t1 := t.cell 1
            have t2 := t.cell 2
            have t3 := t.cell 3
            have t4 := t.cell 4
            have s := H7.out.2.2.2.2.2.below hSw
            have s0 := s.cell 0
            have s1 := s.cell 1
            have s2 := s.cell 2
            have s3 := s.cell 3
            have s4 := s.cell 4
            obtain ⟨c1, c2, c3, c4, _, _⟩ := HC.out _ hSw
            simp only [List.getElem?_cons_zero, List.getElem?_cons_succ] at t0 t1 t2 t3 t4 s0 s1 s2 s3 s4
            go_simp
            with_reducible rfl
          simp only [List.setIfInBounds_toArray, List.set_cons_zero, List.set_cons_succ]
          refine wpAnyH_ready (rs := [6]) (by kernel_rfl) (by simp) ?_
          refine AllReadyH.cons (o := _) rfl (fun KQ hKQ => ?_) AllReadyH.nil
          go_simp
          refine (ops_any19 P _ _ _ z w13 (H7.out.2.2.1.below H8.out.1) HP.out.2.1).mono ?_
          rintro e w14 ⟨ov, rfl, hov, hb⟩
          rw [HQ.out.1] at hov
          obtain ⟨oa, ok, oc, rfl, hon, _⟩ := id hov
          have H9 : Hid (Below w7.heap.size w7 w14 ∧ Wl19 w10 w14 u23 us (ls.take k) ∧ Ol w14 (.slice oa ok oc) qo ∧ ok = qo.length) := ⟨H8.out.1.trans (hb.mono H8.out.1.size), H8.out.2.later hb, hov, hon⟩
          clear hb hov hon H8
          refine hKQ.out _ _ H9.out.1 (fun _ => ?_)
          clear hKQ KQ
          refine wpAnyH_ready (rs := [13]) (by kernel_rfl) (by simp) ?_
          refine AllReadyH.cons (o := _) rfl (fun KQ hKQ => ?_) AllReadyH.nil
          go_simp
          refine (refOps_any19 P _ _ _ k z l w14 (H7.out.2.2.2.2.1.below H9.out.1) HP.out.2.1 HZ.out.1 HZ.out.2).mono ?_
          rintro e w15 ⟨ov, rfl, hov, hb⟩
          rw [HP.out.2.2.1, ← HQ.out.2.2.2] at hov
          obtain ⟨oa2, ok2, oc2, rfl, hon, _⟩ := id hov
          have H10' : Hid (Below w7.heap.size w7 w15 ∧ Wl19 w10 w15 u23 us (ls.take k) ∧ Ol w15 (.slice oa ok oc) qo ∧ Ol w15 (.slice oa2 ok2 oc2) qo ∧ ok = qo.length) := ⟨H9.out.1.trans (hb.mono H9.out.1.size), H9.out.2.1.later hb, H9.out.2.2.1.below hb, hov, H9.out.2.2.2⟩
          clear hb hov hon H9
          refine hKQ.out _ _ H10'.out.1 (fun _ => ?_)
          clear hKQ KQ
          refine' take_at (i := 14) (d := 25) (v := _) rfl rfl (by kernel_rfl) (by kernel_rfl) (by kernel_rfl) (fun _ _ _ h => h) (Or.inl ⟨by rfl, ?h14⟩) (H10'.out.1) ?_
          case h14 =>
            intro w hSw
            go_simp
            with_reducible rfl
          simp only [List.setIfInBounds_toArray, List.set_cons_zero, List.set_cons_succ]
          refine' take_at (i := 15) (d := 26) (v := _) rfl rfl (by kernel_rfl) (by kernel_rfl) (by kernel_rfl) (fun _ _ _ h => h) (Or.inl ⟨by rfl, ?h15⟩) (H10'.out.1) ?_
          case h15 =>
            intro w hSw
            go_simp
            with_reducible rfl
          simp only [List.setIfInBounds_toArray, List.set_cons_zero, List.set_cons_succ]
          refine wpAnyH_done (by kernel_rfl) ?_ _
          go_wp2_with fail
          refine (refSameQ_any 0 0 0 0 _ _ qo qo w15 H10'.out.2.2.1 H10'.out.2.2.2.1 (by have h1 := HQ.out.2.1; have h2 := HQ.out.2.2.1; unfold maxLen; omega)).mono ?_
          rintro e w16 ⟨bR, rfl, hbR, hb⟩
          have hbt : bR = true := hbR.2 ⟨rfl, rfl, rfl⟩
          subst hbt
          have H11 : Hid (Below w7.heap.size w7 w16 ∧ Wl19 w10 w16 u23 us (ls.take k) ∧ Ol w16 (.slice oa ok oc) qo ∧ ok = qo.length ∧ ok ≤ 16 ∧ Below w10.heap.size w10 w16) := by
            have h := H10'.out.2.1.later hb
            exact ⟨H10'.out.1.trans (hb.mono H10'.out.1.size), h, H10'.out.2.2.1.below hb, H10'.out.2.2.2.2, by have h1 := HQ.out.2.1; have h2 := HQ.out.2.2.1; have h3 := H10'.out.2.2.2.2; omega, h.bel⟩
          clear hb hbR H10'
          go_wp2
          go_loopw [27, 28] (fun mv i wx => ∃ j : Nat, j ≤ ok ∧ i = .int .i64 (j : Int) ∧ wx.ownsRow w16.heap.size 50 11 mv ((qo.take j).map rd19).length (KX.cs ((qo.take j).map rd19)) ∧ Below w16.heap.size w16 wx) (fun _ i _ => ok - (intOf i).toNat)
          case atStart => exact ⟨0, Nat.zero_le _, rfl, World.ownsRow_nil _ _ _ _, Below.refl _ _⟩
          case round =>
            obtain ⟨j, hj, rfl, hmr, hmb⟩ := hrel
            have HM : Hid (wr.ownsRow w16.heap.size 50 11 u27 ((qo.take j).map rd19).length (KX.cs ((qo.take j).map rd19)) ∧ Below w16.heap.size w16 wr) := ⟨hmr, hmb⟩
            clear hmr hmb
            have hj0 : (0 : Int) ≤ (j : Int) := by omega
            have hwj : IntKind.wrap .i64 ((j : Int) + 1) = (j : Int) + 1 := by rw [IntKind.wrap_i64]; have := H11.out.2.2.2.2.1; omega
            by_cases hltj : j < ok
            · have hltj' : (j : Int) < (ok : Int) := by omega
              obtain ⟨o, ho⟩ : ∃ o, qo[j]? = some o := ⟨qo[j]'(by have := H11.out.2.2.2.1; omega), List.getElem?_eq_getElem _⟩
              obtain ⟨go, bo, rfl, hoc⟩ := (KO.of_ol H11.out.2.2.1).at ho
              have HOC : Hid (∀ w', Below w16.heap.size w16 w' → w'.cell? ⟨go, bo + j * 5 + 1, none⟩ = some (.string o.path) ∧ w'.cell? ⟨go, bo + j * 5 + 2, none⟩ = some (.string o.data)) := fun w' hb => ⟨Below.kept hb (hoc 1 _ rfl), Below.kept hb (hoc 2 _ rfl)⟩
              obtain ⟨rj, hrj⟩ : ∃ x, x = (qo.take j).map rd19 := ⟨_, rfl⟩
              rw [← hrj] at HM
              have HO1 : Hid ((qo.take (j + 1)).map rd19 = rj ++ [rd19 o] ∧ rj.length ≤ 16) := ⟨by rw [List.take_add_one, ho, hrj, List.map_append]; rfl, by rw [hrj, List.length_map, List.length_take]; have := H11.out.2.2.2.2.1; omega⟩
              clear ho hoc hrj
              go_upto_region 36 with fail
              refine wp_region_held_drew (S := fun w' => Below w16.heap.size w16 w') (by kernel_rfl) HM.out.2.drew (fun _ => ?_)
              have H12 : Hid (Below w16.heap.size w16 wr.drew ∧ wr.drew.ownsRow w16.heap.size 50 11 u27 rj.length (KX.cs rj)) := ⟨HM.out.2.drew, HM.out.1⟩
              generalize wr.drew = w17 at *
              refine' take_at (i := 0) (d := 213) (v := _) rfl rfl (by kernel_rfl) (by kernel_rfl) (by kernel_rfl) (fun _ _ _ h => h) (Or.inl ⟨by rfl, ?h0⟩) (H12.out.1) ?_
              case h0 =>
                intro w hSw
                have t0 := (HOC.out _ hSw).1
                have t1 := (HOC.out _ hSw).2
                go_simp
                with_reducible rfl
              simp only [List.setIfInBounds_toArray, List.set_cons_zero, List.set_cons_succ]
              refine' take_at (i := 1) (d := 214) (v := _) rfl rfl (by kernel_rfl) (by kernel_rfl) (by kernel_rfl) (fun _ _ _ h => h) (Or.inl ⟨by rfl, ?h1⟩) (H12.out.1) ?_
              case h1 =>
                intro w hSw
                have t0 := (HOC.out _ hSw).1
                have t1 := (HOC.out _ hSw).2
                go_simp
                with_reducible rfl
              simp only [List.setIfInBounds_toArray, List.set_cons_zero, List.set_cons_succ]
              refine' take_at (i := 2) (d := 215) (v := _) rfl rfl (by kernel_rfl) (by kernel_rfl) (by kernel_rfl) (fun _ _ _ h => h) (Or.inl ⟨by rfl, ?h2⟩) (H12.out.1) ?_
              case h2 =>
                intro w hSw
                have t0 := (HOC.out _ hSw).1
                have t1 := (HOC.out _ hSw).2
                go_simp
                with_reducible rfl
              simp only [List.setIfInBounds_toArray, List.set_cons_zero, List.set_cons_succ]
              refine' take_at (i := 3) (d := 216) (v := _) rfl rfl (by kernel_rfl) (by kernel_rfl) (by kernel_rfl) (fun _ _ _ h => h) (Or.inl ⟨by rfl, ?h3⟩) (H12.out.1) ?_
              case h3 =>
                intro w hSw
                have t0 := (HOC.out _ hSw).1
                have t1 := (HOC.out _ hSw).2
                go_simp
                with_reducible rfl
              simp only [List.setIfInBounds_toArray, List.set_cons_zero, List.set_cons_succ]
              refine' take_at (i := 4) (d := 217) (v := _) rfl rfl (by kernel_rfl) (by kernel_rfl) (by kernel_rfl) (fun _ _ _ h => h) (Or.inl ⟨by rfl, ?h4⟩) (H12.out.1) ?_
              case h4 =>
                intro w hSw
                have t0 := (HOC.out _ hSw).1
                have t1 := (HOC.out _ hSw).2
                go_simp
                with_reducible rfl
              simp only [List.setIfInBounds_toArray, List.set_cons_zero, List.set_cons_succ]
              refine' take_at (i := 5) (d := 218) (v := _) rfl rfl (by kernel_rfl) (by kernel_rfl) (by kernel_rfl) (fun _ _ _ h => h) (Or.inl ⟨by rfl, ?h5⟩) (H12.out.1) ?_
              case h5 =>
                intro w hSw
                have t0 := (HOC.out _ hSw).1
                have t1 := (HOC.out _ hSw).2
                go_simp
                with_reducible rfl
              simp only [List.setIfInBounds_toArray, List.set_cons_zero, List.set_cons_succ]
              refine' take_at (i := 6) (d := 219) (v := _) rfl rfl (by kernel_rfl) (by kernel_rfl) (by kernel_rfl) (fun _ _ _ h => h) (Or.inl ⟨by rfl, ?h6⟩) (H12.out.1) ?_
              case h6 =>
                intro w hSw
                have t0 := (HOC.out _ hSw).1
                have t1 := (HOC.out _ hSw).2
                go_simp
                with_reducible rfl
              simp only [List.setIfInBounds_toArray, List.set_cons_zero, List.set_cons_succ]
              refine' take_at (i := 7) (d := 220) (v := _) rfl rfl (by kernel_rfl) (by kernel_rfl) (by kernel_rfl) (fun _ _ _ h => h) (Or.inl ⟨by rfl, ?h7⟩) (H12.out.1) ?_
              case h7 =>
                intro w hSw
                have t0 := (HOC.out _ hSw).1
                have t1 := (HOC.out _ hSw).2
                go_simp
                with_reducible rfl
              simp only [List.setIfInBounds_toArray, List.set_cons_zero, List.set_cons_succ]
              refine' take_at (i := 8) (d := 221) (v := _) rfl rfl (by kernel_rfl) (by kernel_rfl) (by kernel_rfl) (fun _ _ _ h => h) (Or.inl ⟨by rfl, ?h8⟩) (H12.out.1) ?_
              case h8 =>
                intro w hSw
                have t0 := (HOC.out _ hSw).1
                have t1 := (HOC.out _ hSw).2
                go_simp
                with_reducible rfl
              simp only [List.setIfInBounds_toArray, List.set_cons_zero, List.set_cons_succ]
              refine' take_at (i := 9) (d := 222) (v := _) rfl rfl (by kernel_rfl) (by kernel_rfl) (by kernel_rfl) (fun _ _ _ h => h) (Or.inl ⟨by rfl, ?h9⟩) (H12.out.1) ?_
              case h9 =>
                intro w hSw
                have t0 := (HOC.out _ hSw).1
                have t1 := (HOC.out _ hSw).2
                go_simp
                with_reducible rfl
              simp only [List.setIfInBounds_toArray, List.set_cons_zero, List.set_cons_succ]
              refine' take_at (i := 10) (d := 223) (v := _) rfl rfl (by kernel_rfl) (by kernel_rfl) (by kernel_rfl) (fun _ _ _ h => h) (Or.inl ⟨by rfl, ?h10⟩) (H12.out.1) ?_
              case h10 =>
                intro w hSw
                have t0 := (HOC.out _ hSw).1
                have t1 := (HOC.out _ hSw).2
                go_simp
                with_reducible rfl
              simp only [List.setIfInBounds_toArray, List.set_cons_zero, List.set_cons_succ]
              refine' take_at (i := 11) (d := 224) (v := _) rfl rfl (by kernel_rfl) (by kernel_rfl) (by kernel_rfl) (fun _ _ _ h => h) (Or.inl ⟨by rfl, ?h11⟩) (H12.out.1) ?_
              case h11 =>
                intro w hSw
                have t0 := (HOC.out _ hSw).1
                have t1 := (HOC.out _ hSw).2
                go_simp
                with_reducible rfl
              simp only [List.setIfInBounds_toArray, List.set_cons_zero, List.set_cons_succ]
              refine wpAnyH_ready (rs := [12]) (by kernel_rfl) (by simp) ?_
              refine AllReadyH.cons (o := _) rfl (fun KQ hKQ => ?_) AllReadyH.nil
              go_simp
              obtain ⟨sb, hsb⟩ : ∃ z, z = w17.heap.size := ⟨_, rfl⟩
              rw [← hsb]
              have H13 : Hid (Below w16.heap.size w16 (w17.alloc (.cells #[.int .i64 0, .string o.path, .string o.data, .slice none 0 0, .int .i64 0, .int .i64 0, .int .i64 0, .int .i64 0, .int .i64 0, .int .i64 0, .int .i64 0] 50)) ∧ (w17.alloc (.cells #[.int .i64 0, .string o.path, .string o.data, .slice none 0 0, .int .i64 0, .int .i64 0, .int .i64 0, .int .i64 0, .int .i64 0, .int .i64 0, .int .i64 0] 50)).ownsRow w16.heap.size 50 11 u27 rj.length (KX.cs rj) ∧ Cb (w17.alloc (.cells #[.int .i64 0, .string o.path, .string o.data, .slice none 0 0, .int .i64 0, .int .i64 0, .int .i64 0, .int .i64 0, .int .i64 0, .int .i64 0, .int .i64 0] 50)) sb (KX.cf (rd19 o)) 50) := by
                have h1 := (Below.refl _ w17).alloc (Nat.le_refl _) (.cells #[.int .i64 0, .string o.path, .string o.data, .slice none 0 0, .int .i64 0, .int .i64 0, .int .i64 0, .int .i64 0, .int .i64 0, .int .i64 0, .int .i64 0] 50)
                rw [hsb]
                exact ⟨H12.out.1.trans (h1.mono H12.out.1.size), H12.out.2.alloc _, Cb.made w17 (KX.cf (rd19 o)) _⟩
              clear hsb H12
              generalize (w17.alloc (.cells #[.int .i64 0, .string o.path, .string o.data, .slice none 0 0, .int .i64 0, .int .i64 0, .int .i64 0, .int .i64 0, .int .i64 0, .int .i64 0, .int .i64 0] 50)) = w18 at *
              refine hKQ.out _ _ H13.out.1 (fun _ => ?_)
              clear hKQ KQ
              refine wpAnyH_ready (rs := [13]) (by kernel_rfl) (by simp) ?_
              refine AllReadyH.cons (o := _) rfl (fun KQ hKQ => ?_) AllReadyH.nil
              refine KX.ok.appD _ _ rfl 226 rfl w16.heap.size u27 (.slice (some ⟨sb, 0, none⟩) 1 1) rj [rd19 o] w18 rfl rfl H13.out.2.1 H13.out.1.size (Kd.one_at H13.out.2.2) (KX.one _) (Nat.le_trans (Nat.add_le_add_right HO1.out.2 1) (by decide)) ?_
              intro v19 w19 hr19 hb19 _ _
              have H14 : Hid (w19.ownsRow w16.heap.size 50 11 v19 ((qo.take (j + 1)).map rd19).length (KX.cs ((qo.take (j + 1)).map rd19)) ∧ Below w16.heap.size w16 w19) := ⟨by rw [HO1.out.1]; exact hr19, H13.out.1.trans hb19⟩
              clear hr19 hb19 H13
              refine hKQ.out _ _ H14.out.2 (fun _ => ?_)
              clear hKQ KQ
              refine' take_at (i := 14) (d := 27) (v := _) rfl rfl (by kernel_rfl) (by kernel_rfl) (by kernel_rfl) (fun _ _ _ h => h) (Or.inl ⟨by rfl, ?h14⟩) (H14.out.2) ?_
              case h14 =>
                intro w hSw
                go_simp
                with_reducible rfl
              simp only [List.setIfInBounds_toArray, List.set_cons_zero, List.set_cons_succ]
              refine wpAnyH_done (by kernel_rfl) ?_ _
              go_wp2
              go_roundw
              case rel => exact ⟨j + 1, by omega, by go_num, H14.out.1, H14.out.2⟩
              case measure => simp [intOf]; omega
            · have hltj' : ¬ (j : Int) < (ok : Int) := by omega
              have HMF : Hid (wr.ownsRow w10.heap.size 50 11 u27 (qo.map rd19).length (KX.cs (qo.map rd19)) ∧ Wl19 w10 wr u23 us (ls.take k)) := by
                have h := HM.out.1
                rw [List.take_of_length_le (by have := H11.out.2.2.2.1; omega)] at h
                exact ⟨World.ownsRow.mono h H11.out.2.2.2.2.2.size, H11.out.2.1.later HM.out.2⟩
              have HLK : Hid (ls.take (k + 1) = ls.take k ++ [qo.map rd19] ∧ us.length ≤ 4) := by
                have e1 : ls[k]? = some (qo.map rd19) := by rw [HLS.out, List.getElem?_map, HZ.out.2, HQ.out.2.2.2]; rfl
                refine ⟨by rw [List.take_add_one, e1]; rfl, ?_⟩
                have h := HMF.out.2.len
                rw [List.length_take] at h
                have := HNN.out.2.2.2.1
                omega
              obtain ⟨ma, mc, rfl, _, _⟩ := row_form HMF.out.1
              obtain ⟨ML, hML⟩ : ∃ L, L = (qo.map rd19).length := ⟨_, rfl⟩
              have HML : Hid (ML = (qo.map rd19).length) := hML
              rw [← hML] at HMF ⊢
              clear hML
              obtain ⟨la, lc, rfl, _, _⟩ := row_form HMF.out.2.lv
              obtain ⟨LL, hLL⟩ : ∃ L, L = us.length := ⟨_, rfl⟩
              rw [← hLL] at HMF ⊢
              clear hLL
              obtain ⟨sb, hsb⟩ : ∃ z, z = wr.heap.size := ⟨_, rfl⟩
              have H12 : Hid (Cb (wr.alloc (.cells #[.slice ma ML mc] 43)) sb [.slice ma ML mc] 43 ∧ w10.heap.size ≤ (wr.alloc (.cells #[.slice ma ML mc] 43)).heap.size ∧ (wr.alloc (.cells #[.slice ma ML mc] 43)).ownsRow w10.heap.size 43 1 (.slice la LL lc) us.length (KR.cs us)) := by
                rw [hsb]
                have h1 := (Below.refl _ wr).alloc (Nat.le_refl _) (.cells #[.slice ma ML mc] 43)
                exact ⟨Cb.made wr [.slice ma ML mc] _, Nat.le_trans HMF.out.2.bel.size h1.size, HMF.out.2.lv.alloc _⟩
              go_wp2_with (at_builtin; rw [← hsb]; refine KR.ok.appL (hgd := rfl) (s := _) (x := _) (ho := rfl) w10.heap.size (.slice la LL lc) (.slice (some ⟨sb, 0, none⟩) 1 1) us [.slice ma ML mc] (wr.alloc (.cells #[.slice ma ML mc] 43)) rfl rfl H12.out.2.2 H12.out.2.1 (Kd.one_at H12.out.1) (KR.one_ rfl) (by have := HLK.out.2; simp; omega) ?_)
              intro v13 w13 hr13 hb13 hg13 _
              have hr13 : w13.ownsRow w10.heap.size 43 1 v13 (us ++ [Value.slice ma ML mc]).length (KR.cs (us ++ [Value.slice ma ML mc])) := by
                rw [List.length_append]
                exact hr13
              have hwl := HMF.out.2.more _ (xs := qo.map rd19) (by rw [← HML.out]; exact HMF.out.1) hr13 hb13 hg13
              rw [← HLK.out.1] at hwl
              have H13 : Hid (Wl19 w10 w13 v13 (us ++ [Value.slice ma ML mc]) (ls.take (k + 1))) := hwl
              clear hr13 hb13 hg13 H12 hwl hsb
              go_wp2
              go_roundw
              case rel => exact ⟨k + 1, us ++ [.slice ma ML mc], by omega, by go_num, H13.out⟩
              case measure => simp [intOf]; omega
        · have hlt' : ¬ (k : Int) < (NS : Int) := by omega
          have HF : Hid (Wl19 w10 wr u23 us ls ∧ Pn.results P ls = some (os.map rd19) ∧ Below w7.heap.size w7 wr ∧ ls.length ≤ 1000) := by
            have h1 := HW.out.1
            have h3 := HNN.out.2.2.1
            have h4 := HP.out.2.1.len
            have h5 := HNN.out.2.1
            have h6 := HNN.out.2.2.2.1
            rw [List.take_of_length_le (by rw [HLS.out, List.length_map]; omega)] at h1
            refine ⟨h1, ?_, HW.out.2, by rw [HLS.out, List.length_map]; omega⟩
            rw [HLS.out, HP.out.1]
            exact Pn.results_all HF1.out.2.1 s m HP.out.2.2.2.2.1 HP.out.2.2.2.2.2.2 rd19
          clear HW p3 HLS
          obtain ⟨R, hR⟩ : ∃ R, R = os.map rd19 := ⟨_, rfl⟩
          have HRR : Hid (R.length = os.length ∧ ∀ x ∈ R, x.names = []) := by
            rw [hR]
            refine ⟨List.length_map .., fun x hx => ?_⟩
            obtain ⟨o, _, rfl⟩ := List.mem_map.1 hx
            rfl
          rw [← hR] at HF
          clear hR
          have p0 := (H7.out.2.2.2.1.below HF.out.2.2.1).cell 0
          have p1 := (H7.out.2.2.2.1.below HF.out.2.2.1).cell 1
          have p2 := (H7.out.2.2.2.1.below HF.out.2.2.1).cell 2
          have p3 := (H7.out.2.2.2.1.below HF.out.2.2.1).cell 3
          have p4 := (H7.out.2.2.2.1.below HF.out.2.2.1).cell 4
          simp only [List.getElem?_cons_zero, List.getElem?_cons_succ] at p0 p1 p2 p3 p4
          go_wp2_with fail
          refine (results_any19 P _ _ _ u23 ls wr (H7.out.2.2.1.below HF.out.2.2.1) HP.out.2.1 HF.out.1.rss HF.out.2.2.2).mono ?_
          rintro e w11 ⟨hres, hb⟩
          rw [HF.out.2.1] at hres
          obtain ⟨g6, rfl, hcb, _⟩ := hres
          rw [HP.out.2.2.1, ← HNN.out.1]
          have H12 : Hid (Below w7.heap.size w7 w11 ∧ Wl19 w10 w11 u23 us ls ∧ Cb w11 g6 (KX.cs R) 50) := ⟨HF.out.2.2.1.trans (hb.mono HF.out.2.2.1.size), HF.out.1.later hb, hcb⟩
          clear hb hcb p0 p1 p2 p3 p4
          have p0 := (H7.out.2.2.2.2.2.below H12.out.1).cell 0
          have p1 := (H7.out.2.2.2.2.2.below H12.out.1).cell 1
          have p2 := (H7.out.2.2.2.2.2.below H12.out.1).cell 2
          have p3 := (H7.out.2.2.2.2.2.below H12.out.1).cell 3
          have p4 := (H7.out.2.2.2.2.2.below H12.out.1).cell 4
          simp only [List.getElem?_cons_zero, List.getElem?_cons_succ] at p0 p1 p2 p3 p4
          go_wp2_with fail
          refine (refResults_any19 P _ _ _ u23 ls R w11 (H7.out.2.2.2.2.1.below H12.out.1) HP.out.2.1 H12.out.2.1.rss HF.out.2.2.2 HF.out.2.1).mono ?_
          rintro e w12 ⟨⟨g8, rfl, hcb, _⟩, hb⟩
          rw [HP.out.2.2.1, ← HNN.out.1]
          have H13 : Hid (Below w7.heap.size w7 w12 ∧ Cb w12 g6 (KX.cs R) 50 ∧ Cb w12 g8 (KX.cs R) 50) := ⟨H12.out.1.trans (hb.mono H12.out.1.size), H12.out.2.2.below hb, hcb⟩
          clear hb hcb p0 p1 p2 p3 p4 H12 HF
          obtain ⟨z0, hz0⟩ : ∃ z, P.sh[0]? = some z := ⟨P.sh[0]'(by have := HNN.out.2.1; have := HS1.out; omega), List.getElem?_eq_getElem _⟩
          obtain ⟨g2, o2, rfl, h2c⟩ := H7.out.2.2.2.2.1.sh.at hz0
          have HC0 : Hid (∀ w', Below w7.heap.size w7 w' → w'.cell? ⟨g2, o2, none⟩ = some (.int .i64 z0)) := fun w' hb => Below.kept hb (by simpa [KI] using h2c 0 _ rfl)
          have HF0 : Hid (Pn.first P = z0) := (show _ = _ by
            unfold Pn.first
            cases e : P.sh with
            | nil => rw [e] at hz0; cases hz0
            | cons a b => rw [e] at hz0; exact Option.some.inj hz0)
          clear hz0 h2c
          have hve : (ve == ve) = true := by simp
          have hvz : (vz == vz) = true := by simp
          have hzz : (z0 == z0) = true := by simp
          have h0S : 0 < NS := HS1.out
          go_upto_region 40 with fail
          refine wp_region_held_drew (S := fun w' => Below w7.heap.size w7 w') (by kernel_rfl) H13.out.1.drew (fun _ => ?_)
          have H14 : Hid (Below w7.heap.size w7 w12.drew ∧ Cb w12.drew g6 (KX.cs R) 50 ∧ Cb w12.drew g8 (KX.cs R) 50) := ⟨H13.out.1.drew, H13.out.2.1, H13.out.2.2⟩
          generalize w12.drew = w13 at *
          clear H13
          refine' take_at (i := 0) (d := 243) (v := _) rfl rfl (by kernel_rfl) (by kernel_rfl) (by kernel_rfl) (fun _ _ _ h => h) (Or.inl ⟨by rfl, ?h0⟩) (H14.out.1) ?_
          case h0 =>
            intro w hSw
            go_simp
            with_reducible rfl
          simp only [List.setIfInBounds_toArray, List.set_cons_zero, List.set_cons_succ]
          refine' take_at (i := 1) (d := 244) (v := _) rfl rfl (by kernel_rfl) (by kernel_rfl) (by kernel_rfl) (fun _ _ _ h => h) (Or.inl ⟨by rfl, ?h1⟩) (H14.out.1) ?_
          case h1 =>
            intro w hSw
            go_simp
            with_reducible rfl
          simp only [List.setIfInBounds_toArray, List.set_cons_zero, List.set_cons_succ]
          refine' take_at (i := 2) (d := 245) (v := _) rfl rfl (by kernel_rfl) (by kernel_rfl) (by kernel_rfl) (fun _ _ _ h => h) (Or.inl ⟨by rfl, ?h2⟩) (H14.out.1) ?_
          case h2 =>
            intro w hSw
            go_simp
            with_reducible rfl
          simp only [List.setIfInBounds_toArray, List.set_cons_zero, List.set_cons_succ]
          refine' take_at (i := 3) (d := 246) (v := _) rfl rfl (by kernel_rfl) (by kernel_rfl) (by kernel_rfl) (fun _ _ _ h => h) (Or.inl ⟨by rfl, ?h3⟩) (H14.out.1) ?_
          case h3 =>
            intro w hSw
            go_simp
            with_reducible rfl
          simp only [List.setIfInBounds_toArray, List.set_cons_zero, List.set_cons_succ]
          refine' take_at (i := 4) (d := 247) (v := _) rfl rfl (by kernel_rfl) (by kernel_rfl) (by kernel_rfl) (fun _ _ _ h => h) (Or.inl ⟨by rfl, ?h4⟩) (H14.out.1) ?_
          case h4 =>
            intro w hSw
            go_simp
            with_reducible rfl
          simp only [List.setIfInBounds_toArray, List.set_cons_zero, List.set_cons_succ]
          refine' take_at (i := 5) (d := 248) (v := _) rfl rfl (by kernel_rfl) (by kernel_rfl) (by kernel_rfl) (fun _ _ _ h => h) (Or.inl ⟨by rfl, ?h5⟩) (H14.out.1) ?_
          case h5 =>
            intro w hSw
            go_simp
            with_reducible rfl
          simp only [List.setIfInBounds_toArray, List.set_cons_zero, List.set_cons_succ]
          refine' take_at (i := 6) (d := 249) (v := _) rfl rfl (by kernel_rfl) (by kernel_rfl) (by kernel_rfl) (fun _ _ _ h => h) (Or.inl ⟨by rfl, ?h6⟩) (H14.out.1) ?_
          case h6 =>
            intro w hSw
            go_simp
            with_reducible rfl
          simp only [List.setIfInBounds_toArray, List.set_cons_zero, List.set_cons_succ]
          refine' take_at (i := 7) (d := 250) (v := _) rfl rfl (by kernel_rfl) (by kernel_rfl) (by kernel_rfl) (fun _ _ _ h => h) (Or.inl ⟨by rfl, ?h7⟩) (H14.out.1) ?_
          case h7 =>
            intro w hSw
            go_simp
            with_reducible rfl
          simp only [List.setIfInBounds_toArray, List.set_cons_zero, List.set_cons_succ]
          refine' take_at (i := 8) (d := 251) (v := _) rfl rfl (by kernel_rfl) (by kernel_rfl) (by kernel_rfl) (fun _ _ _ h => h) (Or.inl ⟨by rfl, ?h8⟩) (H14.out.1) ?_
          case h8 =>
            intro w hSw
            go_simp
            with_reducible rfl
          simp only [List.setIfInBounds_toArray, List.set_cons_zero, List.set_cons_succ]
          refine' take_at (i := 9) (d := 252) (v := _) rfl rfl (by kernel_rfl) (by kernel_rfl) (by kernel_rfl) (fun _ _ _ h => h) (Or.inl ⟨by rfl, ?h9⟩) (H14.out.1) ?_
          case h9 =>
            intro w hSw
            go_simp
            with_reducible rfl
          simp only [List.setIfInBounds_toArray, List.set_cons_zero, List.set_cons_succ]
          refine' take_at (i := 10) (d := 253) (v := _) rfl rfl (by kernel_rfl) (by kernel_rfl) (by kernel_rfl) (fun _ _ _ h => h) (Or.inl ⟨by rfl, ?h10⟩) (H14.out.1) ?_
          case h10 =>
            intro w hSw
            go_simp
            with_reducible rfl
          simp only [List.setIfInBounds_toArray, List.set_cons_zero, List.set_cons_succ]
          refine' take_at (i := 11) (d := 254) (v := _) rfl rfl (by kernel_rfl) (by kernel_rfl) (by kernel_rfl) (fun _ _ _ h => h) (Or.inl ⟨by rfl, ?h11⟩) (H14.out.1) ?_
          case h11 =>
            intro w hSw
            go_simp
            with_reducible rfl
          simp only [List.setIfInBounds_toArray, List.set_cons_zero, List.set_cons_succ]
          refine' take_at (i := 12) (d := 255) (v := _) rfl rfl (by kernel_rfl) (by kernel_rfl) (by kernel_rfl) (fun _ _ _ h => h) (Or.inl ⟨by rfl, ?h12⟩) (H14.out.1) ?_
          case h12 =>
            intro w hSw
            go_simp
            with_reducible rfl
          simp only [List.setIfInBounds_toArray, List.set_cons_zero, List.set_cons_succ]
          refine' take_at (i := 13) (d := 256) (v := _) rfl rfl (by kernel_rfl) (by kernel_rfl) (by kernel_rfl) (fun _ _ _ h => h) (Or.inl ⟨by rfl, ?h13⟩) (H14.out.1) ?_
          case h13 =>
            intro w hSw
            go_simp
            with_reducible rfl
          simp only [List.setIfInBounds_toArray, List.set_cons_zero, List.set_cons_succ]
          refine' take_at (i := 14) (d := 257) (v := _) rfl rfl (by kernel_rfl) (by kernel_rfl) (by kernel_rfl) (fun _ _ _ h => h) (Or.inl ⟨by rfl, ?h14⟩) (H14.out.1) ?_
          case h14 =>
            intro w hSw
            go_simp
            with_reducible rfl
          simp only [List.setIfInBounds_toArray, List.set_cons_zero, List.set_cons_succ]
          refine' take_at (i := 15) (d := 258) (v := _) rfl rfl (by kernel_rfl) (by kernel_rfl) (by kernel_rfl) (fun _ _ _ h => h) (Or.inl ⟨by rfl, ?h15⟩) (H14.out.1) ?_
          case h15 =>
            intro w hSw
            go_simp
            with_reducible rfl
          simp only [List.setIfInBounds_toArray, List.set_cons_zero, List.set_cons_succ]
          refine' take_at (i := 16) (d := 259) (v := _) rfl rfl (by kernel_rfl) (by kernel_rfl) (by kernel_rfl) (fun _ _ _ h => h) (Or.inl ⟨by rfl, ?h16⟩) (H14.out.1) ?_
          case h16 =>
            intro w hSw
            go_simp
            with_reducible rfl
          simp only [List.setIfInBounds_toArray, List.set_cons_zero, List.set_cons_succ]
          refine' take_at (i := 17) (d := 260) (v := _) rfl rfl (by kernel_rfl) (by kernel_rfl) (by kernel_rfl) (fun _ _ _ h => h) (Or.inl ⟨by rfl, ?h17⟩) (H14.out.1) ?_
          case h17 =>
            intro w hSw
            go_simp
            with_reducible rfl
          simp only [List.setIfInBounds_toArray, List.set_cons_zero, List.set_cons_succ]
          refine wpAnyH_ready (rs := [18]) (by kernel_rfl) (by simp) ?_
          refine AllReadyH.cons (o := _) rfl (fun KQ hKQ => ?_) AllReadyH.nil
          go_simp
          refine (refAll_any True _ _ R R w13 (rl_cb19 H14.out.2.1 (by rw [HRR.out.1]; exact HNN.out.1) HRR.out.2) (rl_cb19 H14.out.2.2 (by rw [HRR.out.1]; exact HNN.out.1) HRR.out.2) (by rw [HRR.out.1]; have := HP.out.2.2.2.2.1; unfold maxLen; omega) (by rw [HRR.out.1]; have := HP.out.2.2.2.2.1; unfold maxLen; omega) (fun x hx => by rw [HRR.out.2 x hx]; exact Nat.zero_le _) (fun x hx => by rw [HRR.out.2 x hx]; exact Nat.zero_le _) ⟨fun _ => rfl, fun _ => trivial⟩).mono ?_
          rintro e w14 ⟨bR, rfl, hbR, hb⟩
          have hbt : bR = true := hbR.2 trivial
          subst hbt
          have H15 : Hid (Below w7.heap.size w7 w14) := H14.out.1.trans (hb.mono H14.out.1.size)
          clear hb hbR H14
          refine hKQ.out _ _ H15.out (fun _ => ?_)
          clear hKQ KQ
          refine' take_at (i := 19) (d := 262) (v := _) rfl rfl (by kernel_rfl) (by kernel_rfl) (by kernel_rfl) (fun _ _ _ h => h) (Or.inl ⟨by rfl, ?h19⟩) (H15.out) ?_
          case h19 =>
            intro w hSw
            have t := H7.out.2.2.2.1.below hSw
            have t0 := t.cell 0
            have t1 := t.cell 1
            have t2 := t.cell 2
            have t3 := t.cell 3
            have t4 := t.cell 4
            have s := H7.out.2.2.2.2.2.below hSw
            have s0 := s.cell 0
            have s1 := s.cell 1
            have s2 := s.cell 2
            have s3 := s.cell 3
            have s4 := s.cell 4
            have c0 := HC0.out _ hSw
            have r := H7.out.2.1 _ hSw
            have r0 := r.cell 0
            have r1 := r.cell 1
            have r2 := r.cell 2
            simp only [List.getElem?_cons_zero, List.getElem?_cons_succ] at t0 t1 t2 t3 t4 s0 s1 s2 s3 s4 r0 r1 r2
            go_simp
            with_reducible rfl
          simp only [List.setIfInBounds_toArray, List.set_cons_zero, List.set_cons_succ]
          refine' take_at (i := 20) (d := 263) (v := _) rfl rfl (by kernel_rfl) (by kernel_rfl) (by kernel_rfl) (fun _ _ _ h => h) (Or.inl ⟨by rfl, ?h20⟩) (H15.out) ?_
          case h20 =>
            intro w hSw
            have t := H7.out.2.2.2.1.below hSw
            have t0 := t.cell 0
            have t1 := t.cell 1
            have t2 := t.cell 2
            have t3 := t.cell 3
            have t4 := t.cell 4
            have s := H7.out.2.2.2.2.2.below hSw
            have s0 := s.cell 0
            have s1 := s.cell 1
            have s2 := s.cell 2
            have s3 := s.cell 3
            have s4 := s.cell 4
            have c0 := HC0.out _ hSw
            have r := H7.out.2.1 _ hSw
            have r0 := r.cell 0
            have r1 := r.cell 1
            have r2 := r.cell 2
            simp only [List.getElem?_cons_zero, List.getElem?_cons_succ] at t0 t1 t2 t3 t4 s0 s1 s2 s3 s4 r0 r1 r2
            go_simp
            with_reducible rfl
          simp only [List.setIfInBounds_toArray, List.set_cons_zero, List.set_cons_succ]
          refine' take_at (i := 21) (d := 264) (v := _) rfl rfl (by kernel_rfl) (by kernel_rfl) (by kernel_rfl) (fun _ _ _ h => h) (Or.inl ⟨by rfl, ?h21⟩) (H15.out) ?_
          case h21 =>
            intro w hSw
            have t := H7.out.2.2.2.1.below hSw
            have t0 := t.cell 0
            have t1 := t.cell 1
            have t2 := t.cell 2
            have t3 := t.cell 3
            have t4 := t.cell 4
            have s := H7.out.2.2.2.2.2.below hSw
            have s0 := s.cell 0
            have s1 := s.cell 1
            have s2 := s.cell 2
            have s3 := s.cell 3
            have s4 := s.cell 4
            have c0 := HC0.out _ hSw
            have r := H7.out.2.1 _ hSw
            have r0 := r.cell 0
            have r1 := r.cell 1
            have r2 := r.cell 2
            simp only [List.getElem?_cons_zero, List.getElem?_cons_succ] at t0 t1 t2 t3 t4 s0 s1 s2 s3 s4 r0 r1 r2
            go_simp
            with_reducible rfl
          simp only [List.setIfInBounds_toArray, List.set_cons_zero, List.set_cons_succ]
          refine' take_at (i := 23) (d := 266) (v := _) rfl rfl (by kernel_rfl) (by kernel_rfl) (by kernel_rfl) (fun _ _ _ h => h) (Or.inl ⟨by rfl, ?h23⟩) (H15.out) ?_
          case h23 =>
            intro w hSw
            have t := H7.out.2.2.2.1.below hSw
            have t0 := t.cell 0
            have t1 := t.cell 1
            have t2 := t.cell 2
            have t3 := t.cell 3
            have t4 := t.cell 4
            have s := H7.out.2.2.2.2.2.below hSw
            have s0 := s.cell 0
            have s1 := s.cell 1
            have s2 := s.cell 2
            have s3 := s.cell 3
            have s4 := s.cell 4
            have c0 := HC0.out _ hSw
            have r := H7.out.2.1 _ hSw
            have r0 := r.cell 0
            have r1 := r.cell 1
            have r2 := r.cell 2
            simp only [List.getElem?_cons_zero, List.getElem?_cons_succ] at t0 t1 t2 t3 t4 s0 s1 s2 s3 s4 r0 r1 r2
            go_simp
            with_reducible rfl
          simp only [List.setIfInBounds_toArray, List.set_cons_zero, List.set_cons_succ]
          refine' take_at (i := 24) (d := 267) (v := _) rfl rfl (by kernel_rfl) (by kernel_rfl) (by kernel_rfl) (fun _ _ _ h => h) (Or.inl ⟨by rfl, ?h24⟩) (H15.out) ?_
          case h24 =>
            intro w hSw
            have t := H7.out.2.2.2.1.below hSw
            have t0 := t.cell 0
            have t1 := t.cell 1
            have t2 := t.cell 2
            have t3 := t.cell 3
            have t4 := t.cell 4
            have s := H7.out.2.2.2.2.2.below hSw
            have s0 := s.cell 0
            have s1 := s.cell 1
            have s2 := s.cell 2
            have s3 := s.cell 3
            have s4 := s.cell 4
            have c0 := HC0.out _ hSw
            have r := H7.out.2.1 _ hSw
            have r0 := r.cell 0
            have r1 := r.cell 1
            have r2 := r.cell 2
            simp only [List.getElem?_cons_zero, List.getElem?_cons_succ] at t0 t1 t2 t3 t4 s0 s1 s2 s3 s4 r0 r1 r2
            go_simp
            with_reducible rfl
          simp only [List.setIfInBounds_toArray, List.set_cons_zero, List.set_cons_succ]
          refine' take_at (i := 25) (d := 268) (v := _) rfl rfl (by kernel_rfl) (by kernel_rfl) (by kernel_rfl) (fun _ _ _ h => h) (Or.inl ⟨by rfl, ?h25⟩) (H15.out) ?_
          case h25 =>
            intro w hSw
            have t := H7.out.2.2.2.1.below hSw
            have t0 := t.cell 0
            have t1 := t.cell 1
            have t2 := t.cell 2
            have t3 := t.cell 3
            have t4 := t.cell 4
            have s := H7.out.2.2.2.2.2.below hSw
            have s0 := s.cell 0
            have s1 := s.cell 1
            have s2 := s.cell 2
            have s3 := s.cell 3
            have s4 := s.cell 4
            have c0 := HC0.out _ hSw
            have r := H7.out.2.1 _ hSw
            have r0 := r.cell 0
            have r1 := r.cell 1
            have r2 := r.cell 2
            simp only [List.getElem?_cons_zero, List.getElem?_cons_succ] at t0 t1 t2 t3 t4 s0 s1 s2 s3 s4 r0 r1 r2
            go_simp
            with_reducible rfl
          simp only [List.setIfInBounds_toArray, List.set_cons_zero, List.set_cons_succ]
          refine' take_at (i := 26) (d := 269) (v := _) rfl rfl (by kernel_rfl) (by kernel_rfl) (by kernel_rfl) (fun _ _ _ h => h) (Or.inl ⟨by rfl, ?h26⟩) (H15.out) ?_
          case h26 =>
            intro w hSw
            have t := H7.out.2.2.2.1.below hSw
            have t0 := t.cell 0
            have t1 := t.cell 1
            have t2 := t.cell 2
            have t3 := t.cell 3
            have t4 := t.cell 4
            have s := H7.out.2.2.2.2.2.below hSw
            have s0 := s.cell 0
            have s1 := s.cell 1
            have s2 := s.cell 2
            have s3 := s.cell 3
            have s4 := s.cell 4
            have c0 := HC0.out _ hSw
            have r := H7.out.2.1 _ hSw
            have r0 := r.cell 0
            have r1 := r.cell 1
            have r2 := r.cell 2
            simp only [List.getElem?_cons_zero, List.getElem?_cons_succ] at t0 t1 t2 t3 t4 s0 s1 s2 s3 s4 r0 r1 r2
            go_simp
            with_reducible rfl
          simp only [List.setIfInBounds_toArray, List.set_cons_zero, List.set_cons_succ]
          refine wpAnyH_ready (rs := [22]) (by kernel_rfl) (by simp) ?_
          refine AllReadyH.cons (o := _) rfl (fun KQ hKQ => ?_) AllReadyH.nil
          go_simp
          refine (first_any19 P _ _ _ w14 (H7.out.2.2.1.below H15.out)).mono ?_
          rintro e w15 ⟨rfl, hb⟩
          rw [HF0.out]
          have H16 : Hid (Below w7.heap.size w7 w15) := H15.out.trans (hb.mono H15.out.size)
          clear hb H15
          refine hKQ.out _ _ H16.out (fun _ => ?_)
          clear hKQ KQ
          refine' take_at (i := 27) (d := 270) (v := _) rfl rfl (by kernel_rfl) (by kernel_rfl) (by kernel_rfl) (fun _ _ _ h => h) (Or.inl ⟨by rfl, ?h27⟩) (H16.out) ?_
          case h27 =>
            intro w hSw
            go_simp
            with_reducible rfl
          simp only [List.setIfInBounds_toArray, List.set_cons_zero, List.set_cons_succ]
          refine' take_at (i := 28) (d := 271) (v := _) rfl rfl (by kernel_rfl) (by kernel_rfl) (by kernel_rfl) (fun _ _ _ h => h) (Or.inl ⟨by rfl, ?h28⟩) (H16.out) ?_
          case h28 =>
            intro w hSw
            go_simp
            with_reducible rfl
          simp only [List.setIfInBounds_toArray, List.set_cons_zero, List.set_cons_succ]
          refine' take_at (i := 29) (d := 272) (v := _) rfl rfl (by kernel_rfl) (by kernel_rfl) (by kernel_rfl) (fun _ _ _ h => h) (Or.inl ⟨by rfl, ?h29⟩) (H16.out) ?_
          case h29 =>
            intro w hSw
            go_simp
            with_reducible rfl
          simp only [List.setIfInBounds_toArray, List.set_cons_zero, List.set_cons_succ]
          refine' take_at (i := 30) (d := 273) (v := _) rfl rfl (by kernel_rfl) (by kernel_rfl) (by kernel_rfl) (fun _ _ _ h => h) (Or.inl ⟨by rfl, ?h30⟩) (H16.out) ?_
          case h30 =>
            intro w hSw
            have t := H7.out.2.2.2.1.below hSw
            have t0 := t.cell 0
            have t1 := t.cell 1
            have t2 := t.cell 2
            have t3 := t.cell 3
            have t4 := t.cell 4
            have s := H7.out.2.2.2.2.2.below hSw
            have s0 := s.cell 0
            have s1 := s.cell 1
            have s2 := s.cell 2
            have s3 := s.cell 3
            have s4 := s.cell 4
            have c0 := HC0.out _ hSw
            have r := H7.out.2.1 _ hSw
            have r0 := r.cell 0
            have r1 := r.cell 1
            have r2 := r.cell 2
            simp only [List.getElem?_cons_zero, List.getElem?_cons_succ] at t0 t1 t2 t3 t4 s0 s1 s2 s3 s4 r0 r1 r2
            go_simp
            with_reducible rfl
          simp only [List.setIfInBounds_toArray, List.set_cons_zero, List.set_cons_succ]
          refine' take_at (i := 31) (d := 274) (v := _) rfl rfl (by kernel_rfl) (by kernel_rfl) (by kernel_rfl) (fun _ _ _ h => h) (Or.inl ⟨by rfl, ?h31⟩) (H16.out) ?_
          case h31 =>
            intro w hSw
            have t := H7.out.2.2.2.1.below hSw
            have t0 := t.cell 0
            have t1 := t.cell 1
            have t2 := t.cell 2
            have t3 := t.cell 3
            have t4 := t.cell 4
            have s := H7.out.2.2.2.2.2.below hSw
            have s0 := s.cell 0
            have s1 := s.cell 1
            have s2 := s.cell 2
            have s3 := s.cell 3
            have s4 := s.cell 4
            have c0 := HC0.out _ hSw
            have r := H7.out.2.1 _ hSw
            have r0 := r.cell 0
            have r1 := r.cell 1
            have r2 := r.cell 2
            simp only [List.getElem?_cons_zero, List.getElem?_cons_succ] at t0 t1 t2 t3 t4 s0 s1 s2 s3 s4 r0 r1 r2
            go_simp
            with_reducible rfl
          simp only [List.setIfInBounds_toArray, List.set_cons_zero, List.set_cons_succ]
          refine' take_at (i := 32) (d := 275) (v := _) rfl rfl (by kernel_rfl) (by kernel_rfl) (by kernel_rfl) (fun _ _ _ h => h) (Or.inl ⟨by rfl, ?h32⟩) (H16.out) ?_
          case h32 =>
            intro w hSw
            have t := H7.out.2.2.2.1.below hSw
            have t0 := t.cell 0
            have t1 := t.cell 1
            have t2 := t.cell 2
            have t3 := t.cell 3
            have t4 := t.cell 4
            have s := H7.out.2.2.2.2.2.below hSw
            have s0 := s.cell 0
            have s1 := s.cell 1
            have s2 := s.cell 2
            have s3 := s.cell 3
            have s4 := s.cell 4
            have c0 := HC0.out _ hSw
            have r := H7.out.2.1 _ hSw
            have r0 := r.cell 0
            have r1 := r.cell 1
            have r2 := r.cell 2
            simp only [List.getElem?_cons_zero, List.getElem?_cons_succ] at t0 t1 t2 t3 t4 s0 s1 s2 s3 s4 r0 r1 r2
            go_simp
            with_reducible rfl
          simp only [List.setIfInBounds_toArray, List.set_cons_zero, List.set_cons_succ]
          refine wpAnyH_ready (rs := [33]) (by kernel_rfl) (by simp) ?_
          refine AllReadyH.cons (o := _) rfl (fun KQ hKQ => ?_) AllReadyH.nil
          go_simp
          refine (same_spec P.s P.n s m _ _ P.os os w15 (H7.out.2.2.1.below H16.out).os (HO.out.1.below (H7.out.1.trans (H16.out.mono H7.out.1.size))) (by rw [HP.out.2.2.1]; exact HO.out.2.1) HO.out.2.1).mono ?_
          rintro e w16 ⟨bR, rfl, hbR, hb⟩
          have hbt : bR = true := hbR.2 ⟨by rw [HP.out.1]; rfl, by rw [HP.out.1]; rfl, HP.out.2.2.1⟩
          subst hbt
          have H17 : Hid (Below w7.heap.size w7 w16) := H16.out.trans (hb.mono H16.out.size)
          clear hb hbR H16
          refine hKQ.out _ _ H17.out (fun _ => ?_)
          clear hKQ KQ
          refine' take_at (i := 34) (d := 277) (v := _) rfl rfl (by kernel_rfl) (by kernel_rfl) (by kernel_rfl) (fun _ _ _ h => h) (Or.inl ⟨by rfl, ?h34⟩) (H17.out) ?_
          case h34 =>
            intro w hSw
            go_simp
            with_reducible rfl
          simp only [List.setIfInBounds_toArray, List.set_cons_zero, List.set_cons_succ]
          refine' take_at (i := 35) (d := 10) (v := _) rfl rfl (by kernel_rfl) (by kernel_rfl) (by kernel_rfl) (fun _ _ _ h => h) (Or.inl ⟨by rfl, ?h35⟩) (H17.out) ?_
          case h35 =>
            intro w hSw
            go_simp
            with_reducible rfl
          simp only [List.setIfInBounds_toArray, List.set_cons_zero, List.set_cons_succ]
          refine wpAnyH_done (by kernel_rfl) ?_ _
          go_wp2
          go_ret
          exact ⟨rfl, H7.out.1.trans (H17.out.mono H7.out.1.size)⟩
end Go.Proofs.YtjimemnkmpapgaaGreatDoor
