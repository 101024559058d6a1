/- SnapBack's walk. -/
import Derived.Test.YtpidafpaffpnaaaGreatDoorLAwake14
import Derived.Test.YtpidafpaffpnaaaGreatDoorBas
namespace Go.Proofs.YtpidafpaffpnaaaGreatDoor
open Go.RowKit
/-- A result's cells, one by one. -/
theorem xc_all14 {w : World} {q : Nat} {x : X} {v : Value} {t : TypeId} (h : Cb w q (xc x v) t) : w.cell? ⟨q, 0, none⟩ = some (.int .i64 x.err) ∧ w.cell? ⟨q, 1, none⟩ = some (.string x.path) ∧ w.cell? ⟨q, 2, none⟩ = some (.string x.data) ∧ w.cell? ⟨q, 3, none⟩ = some v ∧ w.cell? ⟨q, 4, none⟩ = some (.int .i64 x.made) ∧ w.cell? ⟨q, 5, none⟩ = some (.int .i64 x.changed) ∧ w.cell? ⟨q, 6, none⟩ = some (.int .i64 x.ver) ∧ w.cell? ⟨q, 7, none⟩ = some (.int .i64 x.kids) ∧ w.cell? ⟨q, 8, none⟩ = some (.int .i64 x.owner) ∧ w.cell? ⟨q, 9, none⟩ = some (.int .i64 x.len) ∧ w.cell? ⟨q, 10, none⟩ = some (.int .i64 x.cnt) :=
  ⟨(h.cell 0).trans rfl, (h.cell 1).trans rfl, (h.cell 2).trans rfl, (h.cell 3).trans rfl, (h.cell 4).trans rfl, (h.cell 5).trans rfl, (h.cell 6).trans rfl, (h.cell 7).trans rfl, (h.cell 8).trans rfl, (h.cell 9).trans rfl, (h.cell 10).trans rfl⟩
def xz14 : List Value := [.int .i64 0, .string ⟨#[]⟩, .string ⟨#[]⟩, .slice none 0 0, .int .i64 0, .int .i64 0, .int .i64 0, .int .i64 0, .int .i64 0, .int .i64 0, .int .i64 0]
theorem Moved.left14 {w w' : World} {F F' : Nat → Prop} (h : Moved w w' F F') (F2 : Nat → Prop) : Moved w w' (fun k => F k ∨ F2 k) (fun k => F' k ∨ F2 k) :=
  ⟨h.os, h.tape, h.output, h.size, fun k hk hn => h.block k hk (fun e => hn (Or.inl e)), fun k hk => hk.elim (fun e => (h.sub k e).imp Or.inl id) (fun e => Or.inl (Or.inr e))⟩
theorem Moved.right14 {w w' : World} {F2 F2' : Nat → Prop} (h : Moved w w' F2 F2') (F : Nat → Prop) : Moved w w' (fun k => F k ∨ F2 k) (fun k => F k ∨ F2' k) :=
  ⟨h.os, h.tape, h.output, h.size, fun k hk hn => h.block k hk (fun e => hn (Or.inr e)), fun k hk => hk.elim (fun e => Or.inl (Or.inl e)) (fun e => (h.sub k e).imp Or.inr id)⟩
/-- Two trees, and two places for results. -/
structure Bk14 (LT : Rep11) (W w : World) (q : Nat) (t : Tq.Tr) (F : Nat → Prop) (q2 : Nat) (t2 : Tq.Tr) (F2 : Nat → Prop) (xa : Bool) (qa : Nat) (ca : List Value) (xb : Bool) (qb : Nat) (cb : List Value) : Prop where
  two : Two14 LT W w q t F q2 t2 F2
  ka : xa = true → Kept11 w (fun k => F k ∨ F2 k) qa ca 44
  kb : xb = true → Kept11 w (fun k => F k ∨ F2 k) qb cb 44
  ne : xa = true → xb = true → qa ≠ qb
  ha : xa = true → W.heap.size ≤ qa
  hb : xb = true → W.heap.size ≤ qb
section
variable {LT : Rep11} {W w w' : World} {q q2 qa qb : Nat} {t t2 t' : Tq.Tr} {F F2 F' : Nat → Prop} {xa xb : Bool} {ca cb : List Value}
theorem Bk14.left (S : Specs11 LT) (h : Bk14 LT W w q t F q2 t2 F2 xa qa ca xb qb cb) (hM : Mine11 LT W w' q t' F') (hm : Moved w w' F F') : Bk14 LT W w' q t' F' q2 t2 F2 xa qa ca xb qb cb :=
  ⟨h.two.left S hM hm, fun e => (h.ka e).moved (hm.left14 F2), fun e => (h.kb e).moved (hm.left14 F2), h.ne, h.ha, h.hb⟩
theorem Bk14.right (S : Specs11 LT) (h : Bk14 LT W w q t F q2 t2 F2 xa qa ca xb qb cb) (hM : Mine11 LT W w' q2 t' F') (hm : Moved w w' F2 F') : Bk14 LT W w' q t F q2 t' F' xa qa ca xb qb cb :=
  ⟨h.two.right S hM hm, fun e => (h.ka e).moved (hm.right14 F), fun e => (h.kb e).moved (hm.right14 F), h.ne, h.ha, h.hb⟩
theorem Bk14.flip (h : Bk14 LT W w q t F q2 t2 F2 xa qa ca xb qb cb) : Bk14 LT W w q t F q2 t2 F2 xb qb cb xa qa ca := ⟨h.two, h.kb, h.ka, fun a b e => h.ne b a e.symm, h.hb, h.ha⟩
theorem Bk14.boxA (S : Specs11 LT) (h : Bk14 LT W w q t F q2 t2 F2 false 0 [] xb qb cb) : Bk14 LT W (w.alloc (.cells xz14.toArray 44)) q t F q2 t2 F2 true w.heap.size xz14 xb qb cb := by
  have hb := (Below.refl _ w).alloc (Nat.le_refl _) (.cells xz14.toArray 44)
  refine ⟨h.two.later S hb, fun _ => Kept11.made w _ (fun k hk => hk.elim (fun e => S.lt h.two.one.ld e) (fun e => S.lt h.two.two.ld e)) xz14 _, fun e => (h.kb e).later hb, fun _ e e2 => ?_, fun _ => h.two.one.below.size, h.hb⟩
  have := (h.kb e).cb.lt
  omega
theorem Bk14.boxB (S : Specs11 LT) (h : Bk14 LT W w q t F q2 t2 F2 xa qa ca false 0 []) : Bk14 LT W (w.alloc (.cells xz14.toArray 44)) q t F q2 t2 F2 xa qa ca true w.heap.size xz14 := (h.flip.boxA S).flip
theorem Bk14.setA' (S : Specs11 LT) (h : Bk14 LT W w q t F q2 t2 F2 true qa ca xb qb cb) (ds : List Value) : Bk14 LT W (w.setRow qa ds.toArray) q t F q2 t2 F2 true qa ds xb qb cb := by
  have hg := rowed_grown w qa ds.toArray
  have hq := (h.ka rfl).off
  have hbl : Below W.heap.size W (w.setRow qa ds.toArray) := rowed_below h.two.one.below (Nat.le_refl _) (h.ha rfl) _
  refine ⟨⟨⟨S.keep h.two.one.ld (fun k hk => hg.block k (S.lt h.two.one.ld hk) (fun e => hq (by rw [← Option.some.inj e]; exact Or.inl hk))), h.two.one.fine, h.two.one.hi, hbl⟩, ⟨S.keep h.two.two.ld (fun k hk => hg.block k (S.lt h.two.two.ld hk) (fun e => hq (by rw [← Option.some.inj e]; exact Or.inr hk))), h.two.two.fine, h.two.two.hi, hbl⟩, h.two.apart⟩, fun _ => ⟨(h.ka rfl).cb.rowed ds, hq⟩, fun e => ⟨(h.kb e).cb.rowed_other (fun e2 => h.ne rfl e e2.symm) _, (h.kb e).off⟩, h.ne, h.ha, h.hb⟩
theorem Bk14.setB' (S : Specs11 LT) (h : Bk14 LT W w q t F q2 t2 F2 xa qa ca true qb cb) (ds : List Value) : Bk14 LT W (w.setRow qb ds.toArray) q t F q2 t2 F2 xa qa ca true qb ds := (h.flip.setA' S ds).flip
end
set_option maxRecDepth 20000 in
set_option maxHeartbeats 8000000 in
theorem back_any14 {LT : Rep11} (S : Specs11 LT) (Q : SpecQ14 LT) (G : SpecS14 LT) (va vb : Value) (a b : List O) (W : World) (hS : Pa.Std W) (ha : Ol W va a) (hla : a.length ≤ maxLen) (hfa : ∀ o ∈ a, OFit o) (hb : Ol W vb b) (hlb : b.length ≤ maxLen) (hfb : ∀ o ∈ b, OFit o) :
    Calls Tryz.prog 6 #[va, vb] W fun e w' => e = .returned (.bool true) ∧ Below W.heap.size W w' := by
  have HS : Hid (Specs11 LT ∧ SpecQ14 LT ∧ SpecS14 LT ∧ Pa.Std W) := ⟨S, Q, G, hS⟩
  have HA : Hid (Ol W va a ∧ a.length ≤ maxLen ∧ (∀ o ∈ a, OFit o) ∧ Ol W vb b ∧ b.length ≤ maxLen ∧ ∀ o ∈ b, OFit o) := ⟨ha, hla, hfa, hb, hlb, hfb⟩
  obtain ⟨aa, n, ac, rfl, hn, hjj⟩ := ha
  obtain ⟨ba, m, bc', rfl, hm, hjj2⟩ := hb
  have HM : Hid (m = b.length) := hm
  clear S Q G hS hla hfa hlb hfb hn hm hjj hjj2
  go_enter Tryz.func6, Tryz.ntmps6
  go_wp2_with fail
  refine (awake_any14 HS.out.1 HS.out.2.1 HS.out.2.2.1 W HS.out.2.2.2).mono ?_
  rintro e w0 ⟨rfl, hb⟩
  have H0 : Hid (Below W.heap.size W w0) := hb
  clear hb
  go_wp2_with fail
  refine (grown_any14 HS.out.1 (.slice aa n ac) a w0 (HS.out.2.2.2.below H0.out) (HA.out.1.below H0.out) HA.out.2.1 HA.out.2.2.1).mono ?_
  rintro e w1 ⟨hbig, hok, hb⟩
  have H1 : Hid (Below W.heap.size W w1) := H0.out.trans (hb.mono H0.out.size)
  cases hga : greatB a with
  | true =>
    obtain rfl := hbig hga
    clear hbig hok hga hb
    go_wp2
    go_ret
    exact ⟨rfl, H1.out⟩
  | false =>
  obtain ⟨q, t, F, rfl, hL, hgr, hrm, hF⟩ := hok hga
  have M1 : Hid (Mine11 LT W w1 q t F ∧ Tq.Gr t a.length ∧ a.length ≤ 20 ∧ t.room = 60 ∧ t.l.length ≤ 60) := ⟨⟨hL, hgr.fine, fun k hk => Nat.le_trans H0.out.size (hF k hk), H1.out⟩, hgr, great_no14 hga, hrm, hgr.sixty hrm⟩
  clear hbig hok hga hb hL hgr hrm hF H0 H1
  unfold dptr
  go_wp2_with fail
  refine (long_any14 (.slice ba m bc') b w1 (HA.out.2.2.2.1.below M1.out.1.below) HA.out.2.2.2.2.1).mono ?_
  rintro e w2 ⟨rfl, hb⟩
  have M2 : Hid (Mine11 LT W w2 q t F) := M1.out.1.later HS.out.1 hb
  clear hb
  cases hgb : greatB b with
  | true =>
    clear hgb
    go_wp2
    go_ret
    exact ⟨rfl, M2.out.below⟩
  | false =>
  have HB : Hid (b.length ≤ 20) := great_no14 hgb
  have hm20 : m ≤ 20 := by have h1 := HM.out; have h2 := HB.out; omega
  clear hgb
  go_wp2_with fail
  refine (M2.out.put14 HS.out.1 HS.out.2.2.1 M1.out.2.1).mono ?_
  rintro e w3 ⟨a3, n3, c3, rfl, hn3, ho, hM, hb⟩
  have M3 : Hid (Mine11 LT W w3 q t F ∧ Bs w3 (.slice a3 n3 c3) (Tq.image t.l)) := ⟨hM, Bs.own ho⟩
  clear hn3 ho hM hb M2
  go_wp2_with fail
  refine (M3.out.1.back14 HS.out.1 HS.out.2.2.1 HS.out.2.2.2 (.slice a3 n3 c3) M3.out.2 M1.out.2.1 (by have := M1.out.2.2.1; omega) M1.out.2.2.2.2 60 (by decide) (by have := M1.out.2.2.2.2; omega)).mono ?_
  rintro e w5 ⟨q2, F2, rfl, hT, hb⟩
  have M5 : Hid (Two14 LT W w5 q t F q2 ⟨60, t.l⟩ F2) := hT
  clear hT hb M3
  unfold dptr
  go_wp2_with fail
  refine (HS.out.2.2.1.same q t F q2 ⟨60, t.l⟩ F2 w5 M5.out.one.ld M5.out.one.fine M5.out.two.ld M5.out.two.fine).mono ?_
  rintro e w6 ⟨R, rfl, hR, hb⟩
  obtain rfl : R = true := hR.2 rfl
  have M6 : Hid (Two14 LT W w6 q t F q2 t F2 ∧ Tq.Gr t a.length) := by
    have h := M5.out.later HS.out.1 hb
    have e : (⟨60, t.l⟩ : Tq.Tr) = t := by
      have h1 := M1.out.2.2.2.1
      cases t
      simp only [] at h1
      rw [h1]
    rw [e] at h
    exact ⟨h, M1.out.2.1⟩
  have HAL : Hid (a.length ≤ 20) := M1.out.2.2.1
  clear hR hb M5 M1
  obtain ⟨t0, ht0⟩ : ∃ t0, t0 = t := ⟨_, rfl⟩
  rw [← ht0] at M6
  clear ht0
  go_wp2
  go_loopw [8] (fun i wr => ∃ (k : Nat) (t : Tq.Tr) (F F2 : Nat → Prop), k ≤ m ∧ i = .int .i64 (k : Int) ∧ Two14 LT W wr q t F q2 t F2 ∧ Tq.Gr t (a.length + k)) (fun i _ => m - (intOf i).toNat)
  case atStart => exact ⟨0, t0, F, F2, Nat.zero_le _, rfl, M6.out.1, M6.out.2⟩
  case round =>
  obtain ⟨k, t, F, F2, hk, rfl, hT, hgr⟩ := hrel
  have M7 : Hid (Two14 LT W wr q t F q2 t F2 ∧ Tq.Gr t (a.length + k)) := ⟨hT, hgr⟩
  clear hT hgr M6
  by_cases hlt : k < m
  · have hlt' : (k : Int) < (m : Int) := by omega
    have hk0 : (0 : Int) ≤ (k : Int) := by omega
    have hwk : IntKind.wrap .i64 ((k : Int) + 1) = (k : Int) + 1 := by rw [IntKind.wrap_i64]; omega
    have hkl : k < b.length := by rw [← HM.out]; exact hlt
    obtain ⟨g, bb, c', hv', hcs⟩ := HA.out.2.2.2.1.at (by omega)
    simp only [Value.slice.injEq] at hv'
    obtain ⟨rfl, hq, rfl⟩ := hv'
    obtain ⟨i0, i1, i2, i3, i4⟩ := hcs k b[k] (List.getElem?_eq_getElem hkl)
    have HO : Hid (OFit b[k]) := HA.out.2.2.2.2.2 _ (List.getElem_mem hkl)
    generalize b[k] = o at *
    have HC : Hid (∀ w', Below W.heap.size W w' → w'.cell? ⟨g, bb + k * 5, none⟩ = some (.int .i64 o.kind) ∧ w'.cell? ⟨g, bb + k * 5 + 1, none⟩ = some (.string o.path) ∧ w'.cell? ⟨g, bb + k * 5 + 2, none⟩ = some (.string o.data) ∧ w'.cell? ⟨g, bb + k * 5 + 3, none⟩ = some (.int .i64 o.ver) ∧ w'.cell? ⟨g, bb + k * 5 + 4, none⟩ = some (.int .i64 o.flags)) := fun w' hb => ⟨Below.kept hb i0, Below.kept hb i1, Below.kept hb i2, Below.kept hb i3, Below.kept hb i4⟩
    clear hcs hq hkl i0 i1 i2 i3 i4
    obtain ⟨x, t9, hx⟩ : ∃ x t9, Tq.doo t o 2 99 = (x, t9) := ⟨_, _, rfl⟩
    have HX : Hid (Tq.doo t o 2 99 = (x, t9) ∧ Tq.Gr t9 (a.length + (k + 1))) := by
      have h1 := M7.out.2.doo (o := o) (s := 2) (z := 99) (by have := HAL.out; omega) (by decide) (by decide)
      rw [hx] at h1
      exact ⟨hx, h1⟩
    clear hx
    go_upto_region 12 with fail
    refine wp_region_held_drew (S := fun w' => Below W.heap.size W w') (by kernel_rfl) M7.out.1.one.below.drew (fun _ => ?_)
    have J0 : Hid (Bk14 LT W wr.drew q t F q2 t F2 false 0 [] false 0 []) := ⟨M7.out.1.later HS.out.1 (Below.refl _ _).drew, fun e => (by cases e), fun e => (by cases e), fun e => (by cases e), fun e => (by cases e), fun e => (by cases e)⟩
    clear M7
    generalize wr.drew = s0 at *
    refine' take_at (i := 0) (d := 41) (v := _) rfl rfl (by kernel_rfl) (by kernel_rfl) (by kernel_rfl) (fun _ _ _ h => h) (Or.inl ⟨by rfl, ?h0⟩) (J0.out.two.one.below) ?_
    case h0 =>
      intro w hSw
      go_simp
      with_reducible rfl
    simp only [List.setIfInBounds_toArray, List.set_cons_zero, List.set_cons_succ]
    refine' take_at (i := 1) (d := 42) (v := _) rfl rfl (by kernel_rfl) (by kernel_rfl) (by kernel_rfl) (fun _ _ _ h => h) (Or.inl ⟨by rfl, ?h1⟩) (J0.out.two.one.below) ?_
    case h1 =>
      intro w hSw
      go_simp
      with_reducible rfl
    simp only [List.setIfInBounds_toArray, List.set_cons_zero, List.set_cons_succ]
    refine' take_at (i := 2) (d := 43) (v := _) rfl rfl (by kernel_rfl) (by kernel_rfl) (by kernel_rfl) (fun _ _ _ h => h) (Or.inl ⟨by rfl, ?h2⟩) (J0.out.two.one.below) ?_
    case h2 =>
      intro w hSw
      go_simp
      with_reducible rfl
    simp only [List.setIfInBounds_toArray, List.set_cons_zero, List.set_cons_succ]
    refine' take_at (i := 3) (d := 44) (v := _) rfl rfl (by kernel_rfl) (by kernel_rfl) (by kernel_rfl) (fun _ _ _ h => h) (Or.inl ⟨by rfl, ?h3⟩) (J0.out.two.one.below) ?_
    case h3 =>
      intro w hSw
      go_simp
      with_reducible rfl
    simp only [List.setIfInBounds_toArray, List.set_cons_zero, List.set_cons_succ]
    refine' take_at (i := 4) (d := 45) (v := _) rfl rfl (by kernel_rfl) (by kernel_rfl) (by kernel_rfl) (fun _ _ _ h => h) (Or.inl ⟨by rfl, ?h4⟩) (J0.out.two.one.below) ?_
    case h4 =>
      intro w hSw
      obtain ⟨i0, i1, i2, i3, i4⟩ := HC.out w hSw
      go_simp
      with_reducible rfl
    simp only [List.setIfInBounds_toArray, List.set_cons_zero, List.set_cons_succ]
    refine' take_at (i := 6) (d := 47) (v := _) rfl rfl (by kernel_rfl) (by kernel_rfl) (by kernel_rfl) (fun _ _ _ h => h) (Or.inl ⟨by rfl, ?h6⟩) (J0.out.two.one.below) ?_
    case h6 =>
      intro w hSw
      go_simp
      with_reducible rfl
    simp only [List.setIfInBounds_toArray, List.set_cons_zero, List.set_cons_succ]
    refine' take_at (i := 7) (d := 48) (v := _) rfl rfl (by kernel_rfl) (by kernel_rfl) (by kernel_rfl) (fun _ _ _ h => h) (Or.inl ⟨by rfl, ?h7⟩) (J0.out.two.one.below) ?_
    case h7 =>
      intro w hSw
      go_simp
      with_reducible rfl
    simp only [List.setIfInBounds_toArray, List.set_cons_zero, List.set_cons_succ]
    refine' take_at (i := 8) (d := 49) (v := _) rfl rfl (by kernel_rfl) (by kernel_rfl) (by kernel_rfl) (fun _ _ _ h => h) (Or.inl ⟨by rfl, ?h8⟩) (J0.out.two.one.below) ?_
    case h8 =>
      intro w hSw
      go_simp
      with_reducible rfl
    simp only [List.setIfInBounds_toArray, List.set_cons_zero, List.set_cons_succ]
    refine' take_at (i := 9) (d := 50) (v := _) rfl rfl (by kernel_rfl) (by kernel_rfl) (by kernel_rfl) (fun _ _ _ h => h) (Or.inl ⟨by rfl, ?h9⟩) (J0.out.two.one.below) ?_
    case h9 =>
      intro w hSw
      go_simp
      with_reducible rfl
    simp only [List.setIfInBounds_toArray, List.set_cons_zero, List.set_cons_succ]
    refine' take_at (i := 10) (d := 51) (v := _) rfl rfl (by kernel_rfl) (by kernel_rfl) (by kernel_rfl) (fun _ _ _ h => h) (Or.inl ⟨by rfl, ?h10⟩) (J0.out.two.one.below) ?_
    case h10 =>
      intro w hSw
      obtain ⟨i0, i1, i2, i3, i4⟩ := HC.out w hSw
      go_simp
      with_reducible rfl
    simp only [List.setIfInBounds_toArray, List.set_cons_zero, List.set_cons_succ]
    refine wpAnyH_ready (rs := [5, 12, 13]) (by kernel_rfl) (by simp) ?_
    refine AllReadyH.cons (o := _) rfl (fun KQ hKQ => ?_) (AllReadyH.cons (o := _) rfl (fun KQ hKQ => ?_) (AllReadyH.cons (o := _) rfl (fun KQ hKQ => ?_) AllReadyH.nil))
    · as_aux_lemma =>
        go_simp
        refine (J0.out.two.one.doo HS.out.1 HS.out.2.2.2 o 2 99 HO.out x t9 HX.out.1 HX.out.2.fine).mono ?_
        rintro e s1 ⟨Fa, va, rfl, hsq, hof, hM, hmv⟩
        have J1 : Hid (Bk14 LT W s1 q t9 Fa q2 t F2 false 0 [] false 0 []) := J0.out.left HS.out.1 hM hmv
        obtain ⟨aa1, ka1, ca1, rfl, hj1, hj2⟩ := hsq
        clear hof hM hmv hj1 hj2 J0
        unfold rv
        simp only []
        refine hKQ.out _ _ J1.out.two.one.below (fun _ => ?_)
        clear hKQ KQ
        refine wpAnyH_ready (rs := [11, 12, 13]) (by kernel_rfl) (by simp) ?_
        refine AllReadyH.cons (o := _) rfl (fun KQ hKQ => ?_) (AllReadyH.cons (o := _) rfl (fun KQ hKQ => ?_) (AllReadyH.cons (o := _) rfl (fun KQ hKQ => ?_) AllReadyH.nil))
        · as_aux_lemma =>
            go_simp
            refine (J1.out.two.two.doo HS.out.1 HS.out.2.2.2 o 2 99 HO.out x t9 HX.out.1 HX.out.2.fine).mono ?_
            rintro e s2 ⟨Fb, va, rfl, hsq, hof, hM, hmv⟩
            have J2 : Hid (Bk14 LT W s2 q t9 Fa q2 t9 Fb false 0 [] false 0 []) := J1.out.right HS.out.1 hM hmv
            obtain ⟨aa2, ka2, ca2, rfl, hj1, hj2⟩ := hsq
            clear hof hM hmv hj1 hj2 J1
            unfold rv
            simp only []
            refine hKQ.out _ _ J2.out.two.one.below (fun _ => ?_)
            clear hKQ KQ
            refine wpAnyH_ready (rs := [12, 13]) (by kernel_rfl) (by simp) ?_
            refine AllReadyH.cons (o := _) rfl (fun KQ hKQ => ?_) (AllReadyH.cons (o := _) rfl (fun KQ hKQ => ?_) AllReadyH.nil)
            · as_aux_lemma =>
                go_simp
                obtain ⟨qa, hqa⟩ : ∃ z, z = s2.heap.size := ⟨_, rfl⟩
                rw [← hqa]
                have J3 : Hid (Bk14 LT W (s2.alloc (.cells #[.int .i64 0, .string ⟨#[]⟩, .string ⟨#[]⟩, .slice none 0 0, .int .i64 0, .int .i64 0, .int .i64 0, .int .i64 0, .int .i64 0, .int .i64 0, .int .i64 0] 44)) q t9 Fa q2 t9 Fb true qa xz14 false 0 []) := by rw [hqa]; exact J2.out.boxA HS.out.1
                clear hqa J2
                generalize s2.alloc (.cells #[.int .i64 0, .string ⟨#[]⟩, .string ⟨#[]⟩, .slice none 0 0, .int .i64 0, .int .i64 0, .int .i64 0, .int .i64 0, .int .i64 0, .int .i64 0, .int .i64 0] 44) = s3 at *
                refine hKQ.out _ _ J3.out.two.one.below (fun _ => ?_)
                clear hKQ KQ
                refine wpAnyH_ready (rs := [13]) (by kernel_rfl) (by simp) ?_
                refine AllReadyH.cons (o := _) rfl (fun KQ hKQ => ?_) AllReadyH.nil
                go_simp
                obtain ⟨qb, hqb⟩ : ∃ z, z = s3.heap.size := ⟨_, rfl⟩
                rw [← hqb]
                have J4 : Hid (Bk14 LT W (s3.alloc (.cells #[.int .i64 0, .string ⟨#[]⟩, .string ⟨#[]⟩, .slice none 0 0, .int .i64 0, .int .i64 0, .int .i64 0, .int .i64 0, .int .i64 0, .int .i64 0, .int .i64 0] 44)) q t9 Fa q2 t9 Fb true qa xz14 true qb xz14) := by rw [hqb]; exact J3.out.boxB HS.out.1
                clear hqb J3
                generalize s3.alloc (.cells #[.int .i64 0, .string ⟨#[]⟩, .string ⟨#[]⟩, .slice none 0 0, .int .i64 0, .int .i64 0, .int .i64 0, .int .i64 0, .int .i64 0, .int .i64 0, .int .i64 0] 44) = s4 at *
                refine hKQ.out _ _ J4.out.two.one.below (fun _ => ?_)
                clear hKQ KQ
                refine wpAnyH_ready (rs := [14]) (by kernel_rfl) (by simp) ?_
                refine AllReadyH.cons (o := _) rfl (fun KQ hKQ => ?_) AllReadyH.nil
                refine wp_store_row 44 _ _ rfl qa #[.int .i64 x.err, .string x.path, .string x.data, (.slice aa1 ka1 ca1), .int .i64 x.made, .int .i64 x.changed, .int .i64 x.ver, .int .i64 x.kids, .int .i64 x.owner, .int .i64 x.len, .int .i64 x.cnt] rfl rfl 44 xz14.toArray (J4.out.ka rfl).cb (by kernel_rfl) rfl (by kernel_rfl) ?_
                go_simp
                have J5 : Hid (Bk14 LT W (s4.setRow qa #[.int .i64 x.err, .string x.path, .string x.data, (.slice aa1 ka1 ca1), .int .i64 x.made, .int .i64 x.changed, .int .i64 x.ver, .int .i64 x.kids, .int .i64 x.owner, .int .i64 x.len, .int .i64 x.cnt]) q t9 Fa q2 t9 Fb true qa (xc x (.slice aa1 ka1 ca1)) true qb xz14) := J4.out.setA' HS.out.1 (xc x (.slice aa1 ka1 ca1))
                clear J4
                generalize s4.setRow qa #[.int .i64 x.err, .string x.path, .string x.data, (.slice aa1 ka1 ca1), .int .i64 x.made, .int .i64 x.changed, .int .i64 x.ver, .int .i64 x.kids, .int .i64 x.owner, .int .i64 x.len, .int .i64 x.cnt] = s5 at *
                refine hKQ.out _ _ J5.out.two.one.below (fun _ => ?_)
                clear hKQ KQ
                refine wpAnyH_ready (rs := [15]) (by kernel_rfl) (by simp) ?_
                refine AllReadyH.cons (o := _) rfl (fun KQ hKQ => ?_) AllReadyH.nil
                refine wp_store_row 44 _ _ rfl qb #[.int .i64 x.err, .string x.path, .string x.data, (.slice aa2 ka2 ca2), .int .i64 x.made, .int .i64 x.changed, .int .i64 x.ver, .int .i64 x.kids, .int .i64 x.owner, .int .i64 x.len, .int .i64 x.cnt] rfl rfl 44 xz14.toArray (J5.out.kb rfl).cb (by kernel_rfl) rfl (by kernel_rfl) ?_
                go_simp
                have J6 : Hid (Bk14 LT W (s5.setRow qb #[.int .i64 x.err, .string x.path, .string x.data, (.slice aa2 ka2 ca2), .int .i64 x.made, .int .i64 x.changed, .int .i64 x.ver, .int .i64 x.kids, .int .i64 x.owner, .int .i64 x.len, .int .i64 x.cnt]) q t9 Fa q2 t9 Fb true qa (xc x (.slice aa1 ka1 ca1)) true qb (xc x (.slice aa2 ka2 ca2))) := J5.out.setB' HS.out.1 (xc x (.slice aa2 ka2 ca2))
                clear J5
                generalize s5.setRow qb #[.int .i64 x.err, .string x.path, .string x.data, (.slice aa2 ka2 ca2), .int .i64 x.made, .int .i64 x.changed, .int .i64 x.ver, .int .i64 x.kids, .int .i64 x.owner, .int .i64 x.len, .int .i64 x.cnt] = s6 at *
                refine hKQ.out _ _ J6.out.two.one.below (fun _ => ?_)
                clear hKQ KQ
                refine wpAnyH_done (by kernel_rfl) ?_ _
                obtain ⟨c0, c1, c2, c3, c4, c5, c6, c7, c8, c9, c10⟩ := xc_all14 (J6.out.ka rfl).cb
                obtain ⟨d0, d1, d2, d3, d4, d5, d6, d7, d8, d9, d10⟩ := xc_all14 (J6.out.kb rfl).cb
                have e1 : (x.path.toList == x.path.toList) = true := by simp
                go_wp2
                clear c0 c1 c2 c3 c4 c5 c6 c7 c8 c9 c10 d0 d1 d2 d3 d4 d5 d6 d7 d8 d9 d10
                go_roundw
                case rel => exact ⟨k + 1, t9, Fa, Fb, by omega, by go_num, J6.out.two, HX.out.2⟩
                case measure => simp [intOf]; omega
            · as_aux_lemma =>
                go_simp
                obtain ⟨qb, hqb⟩ : ∃ z, z = s2.heap.size := ⟨_, rfl⟩
                rw [← hqb]
                have J3 : Hid (Bk14 LT W (s2.alloc (.cells #[.int .i64 0, .string ⟨#[]⟩, .string ⟨#[]⟩, .slice none 0 0, .int .i64 0, .int .i64 0, .int .i64 0, .int .i64 0, .int .i64 0, .int .i64 0, .int .i64 0] 44)) q t9 Fa q2 t9 Fb false 0 [] true qb xz14) := by rw [hqb]; exact J2.out.boxB HS.out.1
                clear hqb J2
                generalize s2.alloc (.cells #[.int .i64 0, .string ⟨#[]⟩, .string ⟨#[]⟩, .slice none 0 0, .int .i64 0, .int .i64 0, .int .i64 0, .int .i64 0, .int .i64 0, .int .i64 0, .int .i64 0] 44) = s3 at *
                refine hKQ.out _ _ J3.out.two.one.below (fun _ => ?_)
                clear hKQ KQ
                refine wpAnyH_ready (rs := [12]) (by kernel_rfl) (by simp) ?_
                refine AllReadyH.cons (o := _) rfl (fun KQ hKQ => ?_) AllReadyH.nil
                go_simp
                obtain ⟨qa, hqa⟩ : ∃ z, z = s3.heap.size := ⟨_, rfl⟩
                rw [← hqa]
                have J4 : Hid (Bk14 LT W (s3.alloc (.cells #[.int .i64 0, .string ⟨#[]⟩, .string ⟨#[]⟩, .slice none 0 0, .int .i64 0, .int .i64 0, .int .i64 0, .int .i64 0, .int .i64 0, .int .i64 0, .int .i64 0] 44)) q t9 Fa q2 t9 Fb true qa xz14 true qb xz14) := by rw [hqa]; exact J3.out.boxA HS.out.1
                clear hqa J3
                generalize s3.alloc (.cells #[.int .i64 0, .string ⟨#[]⟩, .string ⟨#[]⟩, .slice none 0 0, .int .i64 0, .int .i64 0, .int .i64 0, .int .i64 0, .int .i64 0, .int .i64 0, .int .i64 0] 44) = s4 at *
                refine hKQ.out _ _ J4.out.two.one.below (fun _ => ?_)
                clear hKQ KQ
                refine wpAnyH_ready (rs := [14]) (by kernel_rfl) (by simp) ?_
                refine AllReadyH.cons (o := _) rfl (fun KQ hKQ => ?_) AllReadyH.nil
                refine wp_store_row 44 _ _ rfl qa #[.int .i64 x.err, .string x.path, .string x.data, (.slice aa1 ka1 ca1), .int .i64 x.made, .int .i64 x.changed, .int .i64 x.ver, .int .i64 x.kids, .int .i64 x.owner, .int .i64 x.len, .int .i64 x.cnt] rfl rfl 44 xz14.toArray (J4.out.ka rfl).cb (by kernel_rfl) rfl (by kernel_rfl) ?_
                go_simp
                have J5 : Hid (Bk14 LT W (s4.setRow qa #[.int .i64 x.err, .string x.path, .string x.data, (.slice aa1 ka1 ca1), .int .i64 x.made, .int .i64 x.changed, .int .i64 x.ver, .int .i64 x.kids, .int .i64 x.owner, .int .i64 x.len, .int .i64 x.cnt]) q t9 Fa q2 t9 Fb true qa (xc x (.slice aa1 ka1 ca1)) true qb xz14) := J4.out.setA' HS.out.1 (xc x (.slice aa1 ka1 ca1))
                clear J4
                generalize s4.setRow qa #[.int .i64 x.err, .string x.path, .string x.data, (.slice aa1 ka1 ca1), .int .i64 x.made, .int .i64 x.changed, .int .i64 x.ver, .int .i64 x.kids, .int .i64 x.owner, .int .i64 x.len, .int .i64 x.cnt] = s5 at *
                refine hKQ.out _ _ J5.out.two.one.below (fun _ => ?_)
                clear hKQ KQ
                refine wpAnyH_ready (rs := [15]) (by kernel_rfl) (by simp) ?_
                refine AllReadyH.cons (o := _) rfl (fun KQ hKQ => ?_) AllReadyH.nil
                refine wp_store_row 44 _ _ rfl qb #[.int .i64 x.err, .string x.path, .string x.data, (.slice aa2 ka2 ca2), .int .i64 x.made, .int .i64 x.changed, .int .i64 x.ver, .int .i64 x.kids, .int .i64 x.owner, .int .i64 x.len, .int .i64 x.cnt] rfl rfl 44 xz14.toArray (J5.out.kb rfl).cb (by kernel_rfl) rfl (by kernel_rfl) ?_
                go_simp
                have J6 : Hid (Bk14 LT W (s5.setRow qb #[.int .i64 x.err, .string x.path, .string x.data, (.slice aa2 ka2 ca2), .int .i64 x.made, .int .i64 x.changed, .int .i64 x.ver, .int .i64 x.kids, .int .i64 x.owner, .int .i64 x.len, .int .i64 x.cnt]) q t9 Fa q2 t9 Fb true qa (xc x (.slice aa1 ka1 ca1)) true qb (xc x (.slice aa2 ka2 ca2))) := J5.out.setB' HS.out.1 (xc x (.slice aa2 ka2 ca2))
                clear J5
                generalize s5.setRow qb #[.int .i64 x.err, .string x.path, .string x.data, (.slice aa2 ka2 ca2), .int .i64 x.made, .int .i64 x.changed, .int .i64 x.ver, .int .i64 x.kids, .int .i64 x.owner, .int .i64 x.len, .int .i64 x.cnt] = s6 at *
                refine hKQ.out _ _ J6.out.two.one.below (fun _ => ?_)
                clear hKQ KQ
                refine wpAnyH_done (by kernel_rfl) ?_ _
                obtain ⟨c0, c1, c2, c3, c4, c5, c6, c7, c8, c9, c10⟩ := xc_all14 (J6.out.ka rfl).cb
                obtain ⟨d0, d1, d2, d3, d4, d5, d6, d7, d8, d9, d10⟩ := xc_all14 (J6.out.kb rfl).cb
                have e1 : (x.path.toList == x.path.toList) = true := by simp
                go_wp2
                clear c0 c1 c2 c3 c4 c5 c6 c7 c8 c9 c10 d0 d1 d2 d3 d4 d5 d6 d7 d8 d9 d10
                go_roundw
                case rel => exact ⟨k + 1, t9, Fa, Fb, by omega, by go_num, J6.out.two, HX.out.2⟩
                case measure => simp [intOf]; omega
        · as_aux_lemma =>
            go_simp
            obtain ⟨qa, hqa⟩ : ∃ z, z = s1.heap.size := ⟨_, rfl⟩
            rw [← hqa]
            have J2 : Hid (Bk14 LT W (s1.alloc (.cells #[.int .i64 0, .string ⟨#[]⟩, .string ⟨#[]⟩, .slice none 0 0, .int .i64 0, .int .i64 0, .int .i64 0, .int .i64 0, .int .i64 0, .int .i64 0, .int .i64 0] 44)) q t9 Fa q2 t F2 true qa xz14 false 0 []) := by rw [hqa]; exact J1.out.boxA HS.out.1
            clear hqa J1
            generalize s1.alloc (.cells #[.int .i64 0, .string ⟨#[]⟩, .string ⟨#[]⟩, .slice none 0 0, .int .i64 0, .int .i64 0, .int .i64 0, .int .i64 0, .int .i64 0, .int .i64 0, .int .i64 0] 44) = s2 at *
            refine hKQ.out _ _ J2.out.two.one.below (fun _ => ?_)
            clear hKQ KQ
            refine wpAnyH_ready (rs := [11, 13]) (by kernel_rfl) (by simp) ?_
            refine AllReadyH.cons (o := _) rfl (fun KQ hKQ => ?_) (AllReadyH.cons (o := _) rfl (fun KQ hKQ => ?_) AllReadyH.nil)
            · as_aux_lemma =>
                go_simp
                refine (J2.out.two.two.doo HS.out.1 HS.out.2.2.2 o 2 99 HO.out x t9 HX.out.1 HX.out.2.fine).mono ?_
                rintro e s3 ⟨Fb, va, rfl, hsq, hof, hM, hmv⟩
                have J3 : Hid (Bk14 LT W s3 q t9 Fa q2 t9 Fb true qa xz14 false 0 []) := J2.out.right HS.out.1 hM hmv
                obtain ⟨aa2, ka2, ca2, rfl, hj1, hj2⟩ := hsq
                clear hof hM hmv hj1 hj2 J2
                unfold rv
                simp only []
                refine hKQ.out _ _ J3.out.two.one.below (fun _ => ?_)
                clear hKQ KQ
                refine wpAnyH_ready (rs := [13]) (by kernel_rfl) (by simp) ?_
                refine AllReadyH.cons (o := _) rfl (fun KQ hKQ => ?_) AllReadyH.nil
                go_simp
                obtain ⟨qb, hqb⟩ : ∃ z, z = s3.heap.size := ⟨_, rfl⟩
                rw [← hqb]
                have J4 : Hid (Bk14 LT W (s3.alloc (.cells #[.int .i64 0, .string ⟨#[]⟩, .string ⟨#[]⟩, .slice none 0 0, .int .i64 0, .int .i64 0, .int .i64 0, .int .i64 0, .int .i64 0, .int .i64 0, .int .i64 0] 44)) q t9 Fa q2 t9 Fb true qa xz14 true qb xz14) := by rw [hqb]; exact J3.out.boxB HS.out.1
                clear hqb J3
                generalize s3.alloc (.cells #[.int .i64 0, .string ⟨#[]⟩, .string ⟨#[]⟩, .slice none 0 0, .int .i64 0, .int .i64 0, .int .i64 0, .int .i64 0, .int .i64 0, .int .i64 0, .int .i64 0] 44) = s4 at *
                refine hKQ.out _ _ J4.out.two.one.below (fun _ => ?_)
                clear hKQ KQ
                refine wpAnyH_ready (rs := [14]) (by kernel_rfl) (by simp) ?_
                refine AllReadyH.cons (o := _) rfl (fun KQ hKQ => ?_) AllReadyH.nil
                refine wp_store_row 44 _ _ rfl qa #[.int .i64 x.err, .string x.path, .string x.data, (.slice aa1 ka1 ca1), .int .i64 x.made, .int .i64 x.changed, .int .i64 x.ver, .int .i64 x.kids, .int .i64 x.owner, .int .i64 x.len, .int .i64 x.cnt] rfl rfl 44 xz14.toArray (J4.out.ka rfl).cb (by kernel_rfl) rfl (by kernel_rfl) ?_
                go_simp
                have J5 : Hid (Bk14 LT W (s4.setRow qa #[.int .i64 x.err, .string x.path, .string x.data, (.slice aa1 ka1 ca1), .int .i64 x.made, .int .i64 x.changed, .int .i64 x.ver, .int .i64 x.kids, .int .i64 x.owner, .int .i64 x.len, .int .i64 x.cnt]) q t9 Fa q2 t9 Fb true qa (xc x (.slice aa1 ka1 ca1)) true qb xz14) := J4.out.setA' HS.out.1 (xc x (.slice aa1 ka1 ca1))
                clear J4
                generalize s4.setRow qa #[.int .i64 x.err, .string x.path, .string x.data, (.slice aa1 ka1 ca1), .int .i64 x.made, .int .i64 x.changed, .int .i64 x.ver, .int .i64 x.kids, .int .i64 x.owner, .int .i64 x.len, .int .i64 x.cnt] = s5 at *
                refine hKQ.out _ _ J5.out.two.one.below (fun _ => ?_)
                clear hKQ KQ
                refine wpAnyH_ready (rs := [15]) (by kernel_rfl) (by simp) ?_
                refine AllReadyH.cons (o := _) rfl (fun KQ hKQ => ?_) AllReadyH.nil
                refine wp_store_row 44 _ _ rfl qb #[.int .i64 x.err, .string x.path, .string x.data, (.slice aa2 ka2 ca2), .int .i64 x.made, .int .i64 x.changed, .int .i64 x.ver, .int .i64 x.kids, .int .i64 x.owner, .int .i64 x.len, .int .i64 x.cnt] rfl rfl 44 xz14.toArray (J5.out.kb rfl).cb (by kernel_rfl) rfl (by kernel_rfl) ?_
                go_simp
                have J6 : Hid (Bk14 LT W (s5.setRow qb #[.int .i64 x.err, .string x.path, .string x.data, (.slice aa2 ka2 ca2), .int .i64 x.made, .int .i64 x.changed, .int .i64 x.ver, .int .i64 x.kids, .int .i64 x.owner, .int .i64 x.len, .int .i64 x.cnt]) q t9 Fa q2 t9 Fb true qa (xc x (.slice aa1 ka1 ca1)) true qb (xc x (.slice aa2 ka2 ca2))) := J5.out.setB' HS.out.1 (xc x (.slice aa2 ka2 ca2))
                clear J5
                generalize s5.setRow qb #[.int .i64 x.err, .string x.path, .string x.data, (.slice aa2 ka2 ca2), .int .i64 x.made, .int .i64 x.changed, .int .i64 x.ver, .int .i64 x.kids, .int .i64 x.owner, .int .i64 x.len, .int .i64 x.cnt] = s6 at *
                refine hKQ.out _ _ J6.out.two.one.below (fun _ => ?_)
                clear hKQ KQ
                refine wpAnyH_done (by kernel_rfl) ?_ _
                obtain ⟨c0, c1, c2, c3, c4, c5, c6, c7, c8, c9, c10⟩ := xc_all14 (J6.out.ka rfl).cb
                obtain ⟨d0, d1, d2, d3, d4, d5, d6, d7, d8, d9, d10⟩ := xc_all14 (J6.out.kb rfl).cb
                have e1 : (x.path.toList == x.path.toList) = true := by simp
                go_wp2
                clear c0 c1 c2 c3 c4 c5 c6 c7 c8 c9 c10 d0 d1 d2 d3 d4 d5 d6 d7 d8 d9 d10
                go_roundw
                case rel => exact ⟨k + 1, t9, Fa, Fb, by omega, by go_num, J6.out.two, HX.out.2⟩
                case measure => simp [intOf]; omega
            · as_aux_lemma =>
                go_simp
                obtain ⟨qb, hqb⟩ : ∃ z, z = s2.heap.size := ⟨_, rfl⟩
                rw [← hqb]
                have J3 : Hid (Bk14 LT W (s2.alloc (.cells #[.int .i64 0, .string ⟨#[]⟩, .string ⟨#[]⟩, .slice none 0 0, .int .i64 0, .int .i64 0, .int .i64 0, .int .i64 0, .int .i64 0, .int .i64 0, .int .i64 0] 44)) q t9 Fa q2 t F2 true qa xz14 true qb xz14) := by rw [hqb]; exact J2.out.boxB HS.out.1
                clear hqb J2
                generalize s2.alloc (.cells #[.int .i64 0, .string ⟨#[]⟩, .string ⟨#[]⟩, .slice none 0 0, .int .i64 0, .int .i64 0, .int .i64 0, .int .i64 0, .int .i64 0, .int .i64 0, .int .i64 0] 44) = s3 at *
                refine hKQ.out _ _ J3.out.two.one.below (fun _ => ?_)
                clear hKQ KQ
                refine wpAnyH_ready (rs := [11]) (by kernel_rfl) (by simp) ?_
                refine AllReadyH.cons (o := _) rfl (fun KQ hKQ => ?_) AllReadyH.nil
                go_simp
                refine (J3.out.two.two.doo HS.out.1 HS.out.2.2.2 o 2 99 HO.out x t9 HX.out.1 HX.out.2.fine).mono ?_
                rintro e s4 ⟨Fb, va, rfl, hsq, hof, hM, hmv⟩
                have J4 : Hid (Bk14 LT W s4 q t9 Fa q2 t9 Fb true qa xz14 true qb xz14) := J3.out.right HS.out.1 hM hmv
                obtain ⟨aa2, ka2, ca2, rfl, hj1, hj2⟩ := hsq
                clear hof hM hmv hj1 hj2 J3
                unfold rv
                simp only []
                refine hKQ.out _ _ J4.out.two.one.below (fun _ => ?_)
                clear hKQ KQ
                refine wpAnyH_ready (rs := [14]) (by kernel_rfl) (by simp) ?_
                refine AllReadyH.cons (o := _) rfl (fun KQ hKQ => ?_) AllReadyH.nil
                refine wp_store_row 44 _ _ rfl qa #[.int .i64 x.err, .string x.path, .string x.data, (.slice aa1 ka1 ca1), .int .i64 x.made, .int .i64 x.changed, .int .i64 x.ver, .int .i64 x.kids, .int .i64 x.owner, .int .i64 x.len, .int .i64 x.cnt] rfl rfl 44 xz14.toArray (J4.out.ka rfl).cb (by kernel_rfl) rfl (by kernel_rfl) ?_
                go_simp
                have J5 : Hid (Bk14 LT W (s4.setRow qa #[.int .i64 x.err, .string x.path, .string x.data, (.slice aa1 ka1 ca1), .int .i64 x.made, .int .i64 x.changed, .int .i64 x.ver, .int .i64 x.kids, .int .i64 x.owner, .int .i64 x.len, .int .i64 x.cnt]) q t9 Fa q2 t9 Fb true qa (xc x (.slice aa1 ka1 ca1)) true qb xz14) := J4.out.setA' HS.out.1 (xc x (.slice aa1 ka1 ca1))
                clear J4
                generalize s4.setRow qa #[.int .i64 x.err, .string x.path, .string x.data, (.slice aa1 ka1 ca1), .int .i64 x.made, .int .i64 x.changed, .int .i64 x.ver, .int .i64 x.kids, .int .i64 x.owner, .int .i64 x.len, .int .i64 x.cnt] = s5 at *
                refine hKQ.out _ _ J5.out.two.one.below (fun _ => ?_)
                clear hKQ KQ
                refine wpAnyH_ready (rs := [15]) (by kernel_rfl) (by simp) ?_
                refine AllReadyH.cons (o := _) rfl (fun KQ hKQ => ?_) AllReadyH.nil
                refine wp_store_row 44 _ _ rfl qb #[.int .i64 x.err, .string x.path, .string x.data, (.slice aa2 ka2 ca2), .int .i64 x.made, .int .i64 x.changed, .int .i64 x.ver, .int .i64 x.kids, .int .i64 x.owner, .int .i64 x.len, .int .i64 x.cnt] rfl rfl 44 xz14.toArray (J5.out.kb rfl).cb (by kernel_rfl) rfl (by kernel_rfl) ?_
                go_simp
                have J6 : Hid (Bk14 LT W (s5.setRow qb #[.int .i64 x.err, .string x.path, .string x.data, (.slice aa2 ka2 ca2), .int .i64 x.made, .int .i64 x.changed, .int .i64 x.ver, .int .i64 x.kids, .int .i64 x.owner, .int .i64 x.len, .int .i64 x.cnt]) q t9 Fa q2 t9 Fb true qa (xc x (.slice aa1 ka1 ca1)) true qb (xc x (.slice aa2 ka2 ca2))) := J5.out.setB' HS.out.1 (xc x (.slice aa2 ka2 ca2))
                clear J5
                generalize s5.setRow qb #[.int .i64 x.err, .string x.path, .string x.data, (.slice aa2 ka2 ca2), .int .i64 x.made, .int .i64 x.changed, .int .i64 x.ver, .int .i64 x.kids, .int .i64 x.owner, .int .i64 x.len, .int .i64 x.cnt] = s6 at *
                refine hKQ.out _ _ J6.out.two.one.below (fun _ => ?_)
                clear hKQ KQ
                refine wpAnyH_done (by kernel_rfl) ?_ _
                obtain ⟨c0, c1, c2, c3, c4, c5, c6, c7, c8, c9, c10⟩ := xc_all14 (J6.out.ka rfl).cb
                obtain ⟨d0, d1, d2, d3, d4, d5, d6, d7, d8, d9, d10⟩ := xc_all14 (J6.out.kb rfl).cb
                have e1 : (x.path.toList == x.path.toList) = true := by simp
                go_wp2
                clear c0 c1 c2 c3 c4 c5 c6 c7 c8 c9 c10 d0 d1 d2 d3 d4 d5 d6 d7 d8 d9 d10
                go_roundw
                case rel => exact ⟨k + 1, t9, Fa, Fb, by omega, by go_num, J6.out.two, HX.out.2⟩
                case measure => simp [intOf]; omega
        · as_aux_lemma =>
            go_simp
            obtain ⟨qb, hqb⟩ : ∃ z, z = s1.heap.size := ⟨_, rfl⟩
            rw [← hqb]
            have J2 : Hid (Bk14 LT W (s1.alloc (.cells #[.int .i64 0, .string ⟨#[]⟩, .string ⟨#[]⟩, .slice none 0 0, .int .i64 0, .int .i64 0, .int .i64 0, .int .i64 0, .int .i64 0, .int .i64 0, .int .i64 0] 44)) q t9 Fa q2 t F2 false 0 [] true qb xz14) := by rw [hqb]; exact J1.out.boxB HS.out.1
            clear hqb J1
            generalize s1.alloc (.cells #[.int .i64 0, .string ⟨#[]⟩, .string ⟨#[]⟩, .slice none 0 0, .int .i64 0, .int .i64 0, .int .i64 0, .int .i64 0, .int .i64 0, .int .i64 0, .int .i64 0] 44) = s2 at *
            refine hKQ.out _ _ J2.out.two.one.below (fun _ => ?_)
            clear hKQ KQ
            refine wpAnyH_ready (rs := [11, 12]) (by kernel_rfl) (by simp) ?_
            refine AllReadyH.cons (o := _) rfl (fun KQ hKQ => ?_) (AllReadyH.cons (o := _) rfl (fun KQ hKQ => ?_) AllReadyH.nil)
            · as_aux_lemma =>
                go_simp
                refine (J2.out.two.two.doo HS.out.1 HS.out.2.2.2 o 2 99 HO.out x t9 HX.out.1 HX.out.2.fine).mono ?_
                rintro e s3 ⟨Fb, va, rfl, hsq, hof, hM, hmv⟩
                have J3 : Hid (Bk14 LT W s3 q t9 Fa q2 t9 Fb false 0 [] true qb xz14) := J2.out.right HS.out.1 hM hmv
                obtain ⟨aa2, ka2, ca2, rfl, hj1, hj2⟩ := hsq
                clear hof hM hmv hj1 hj2 J2
                unfold rv
                simp only []
                refine hKQ.out _ _ J3.out.two.one.below (fun _ => ?_)
                clear hKQ KQ
                refine wpAnyH_ready (rs := [12]) (by kernel_rfl) (by simp) ?_
                refine AllReadyH.cons (o := _) rfl (fun KQ hKQ => ?_) AllReadyH.nil
                go_simp
                obtain ⟨qa, hqa⟩ : ∃ z, z = s3.heap.size := ⟨_, rfl⟩
                rw [← hqa]
                have J4 : Hid (Bk14 LT W (s3.alloc (.cells #[.int .i64 0, .string ⟨#[]⟩, .string ⟨#[]⟩, .slice none 0 0, .int .i64 0, .int .i64 0, .int .i64 0, .int .i64 0, .int .i64 0, .int .i64 0, .int .i64 0] 44)) q t9 Fa q2 t9 Fb true qa xz14 true qb xz14) := by rw [hqa]; exact J3.out.boxA HS.out.1
                clear hqa J3
                generalize s3.alloc (.cells #[.int .i64 0, .string ⟨#[]⟩, .string ⟨#[]⟩, .slice none 0 0, .int .i64 0, .int .i64 0, .int .i64 0, .int .i64 0, .int .i64 0, .int .i64 0, .int .i64 0] 44) = s4 at *
                refine hKQ.out _ _ J4.out.two.one.below (fun _ => ?_)
                clear hKQ KQ
                refine wpAnyH_ready (rs := [14]) (by kernel_rfl) (by simp) ?_
                refine AllReadyH.cons (o := _) rfl (fun KQ hKQ => ?_) AllReadyH.nil
                refine wp_store_row 44 _ _ rfl qa #[.int .i64 x.err, .string x.path, .string x.data, (.slice aa1 ka1 ca1), .int .i64 x.made, .int .i64 x.changed, .int .i64 x.ver, .int .i64 x.kids, .int .i64 x.owner, .int .i64 x.len, .int .i64 x.cnt] rfl rfl 44 xz14.toArray (J4.out.ka rfl).cb (by kernel_rfl) rfl (by kernel_rfl) ?_
                go_simp
                have J5 : Hid (Bk14 LT W (s4.setRow qa #[.int .i64 x.err, .string x.path, .string x.data, (.slice aa1 ka1 ca1), .int .i64 x.made, .int .i64 x.changed, .int .i64 x.ver, .int .i64 x.kids, .int .i64 x.owner, .int .i64 x.len, .int .i64 x.cnt]) q t9 Fa q2 t9 Fb true qa (xc x (.slice aa1 ka1 ca1)) true qb xz14) := J4.out.setA' HS.out.1 (xc x (.slice aa1 ka1 ca1))
                clear J4
                generalize s4.setRow qa #[.int .i64 x.err, .string x.path, .string x.data, (.slice aa1 ka1 ca1), .int .i64 x.made, .int .i64 x.changed, .int .i64 x.ver, .int .i64 x.kids, .int .i64 x.owner, .int .i64 x.len, .int .i64 x.cnt] = s5 at *
                refine hKQ.out _ _ J5.out.two.one.below (fun _ => ?_)
                clear hKQ KQ
                refine wpAnyH_ready (rs := [15]) (by kernel_rfl) (by simp) ?_
                refine AllReadyH.cons (o := _) rfl (fun KQ hKQ => ?_) AllReadyH.nil
                refine wp_store_row 44 _ _ rfl qb #[.int .i64 x.err, .string x.path, .string x.data, (.slice aa2 ka2 ca2), .int .i64 x.made, .int .i64 x.changed, .int .i64 x.ver, .int .i64 x.kids, .int .i64 x.owner, .int .i64 x.len, .int .i64 x.cnt] rfl rfl 44 xz14.toArray (J5.out.kb rfl).cb (by kernel_rfl) rfl (by kernel_rfl) ?_
                go_simp
                have J6 : Hid (Bk14 LT W (s5.setRow qb #[.int .i64 x.err, .string x.path, .string x.data, (.slice aa2 ka2 ca2), .int .i64 x.made, .int .i64 x.changed, .int .i64 x.ver, .int .i64 x.kids, .int .i64 x.owner, .int .i64 x.len, .int .i64 x.cnt]) q t9 Fa q2 t9 Fb true qa (xc x (.slice aa1 ka1 ca1)) true qb (xc x (.slice aa2 ka2 ca2))) := J5.out.setB' HS.out.1 (xc x (.slice aa2 ka2 ca2))
                clear J5
                generalize s5.setRow qb #[.int .i64 x.err, .string x.path, .string x.data, (.slice aa2 ka2 ca2), .int .i64 x.made, .int .i64 x.changed, .int .i64 x.ver, .int .i64 x.kids, .int .i64 x.owner, .int .i64 x.len, .int .i64 x.cnt] = s6 at *
                refine hKQ.out _ _ J6.out.two.one.below (fun _ => ?_)
                clear hKQ KQ
                refine wpAnyH_done (by kernel_rfl) ?_ _
                obtain ⟨c0, c1, c2, c3, c4, c5, c6, c7, c8, c9, c10⟩ := xc_all14 (J6.out.ka rfl).cb
                obtain ⟨d0, d1, d2, d3, d4, d5, d6, d7, d8, d9, d10⟩ := xc_all14 (J6.out.kb rfl).cb
                have e1 : (x.path.toList == x.path.toList) = true := by simp
                go_wp2
                clear c0 c1 c2 c3 c4 c5 c6 c7 c8 c9 c10 d0 d1 d2 d3 d4 d5 d6 d7 d8 d9 d10
                go_roundw
                case rel => exact ⟨k + 1, t9, Fa, Fb, by omega, by go_num, J6.out.two, HX.out.2⟩
                case measure => simp [intOf]; omega
            · as_aux_lemma =>
                go_simp
                obtain ⟨qa, hqa⟩ : ∃ z, z = s2.heap.size := ⟨_, rfl⟩
                rw [← hqa]
                have J3 : Hid (Bk14 LT W (s2.alloc (.cells #[.int .i64 0, .string ⟨#[]⟩, .string ⟨#[]⟩, .slice none 0 0, .int .i64 0, .int .i64 0, .int .i64 0, .int .i64 0, .int .i64 0, .int .i64 0, .int .i64 0] 44)) q t9 Fa q2 t F2 true qa xz14 true qb xz14) := by rw [hqa]; exact J2.out.boxA HS.out.1
                clear hqa J2
                generalize s2.alloc (.cells #[.int .i64 0, .string ⟨#[]⟩, .string ⟨#[]⟩, .slice none 0 0, .int .i64 0, .int .i64 0, .int .i64 0, .int .i64 0, .int .i64 0, .int .i64 0, .int .i64 0] 44) = s3 at *
                refine hKQ.out _ _ J3.out.two.one.below (fun _ => ?_)
                clear hKQ KQ
                refine wpAnyH_ready (rs := [11]) (by kernel_rfl) (by simp) ?_
                refine AllReadyH.cons (o := _) rfl (fun KQ hKQ => ?_) AllReadyH.nil
                go_simp
                refine (J3.out.two.two.doo HS.out.1 HS.out.2.2.2 o 2 99 HO.out x t9 HX.out.1 HX.out.2.fine).mono ?_
                rintro e s4 ⟨Fb, va, rfl, hsq, hof, hM, hmv⟩
                have J4 : Hid (Bk14 LT W s4 q t9 Fa q2 t9 Fb true qa xz14 true qb xz14) := J3.out.right HS.out.1 hM hmv
                obtain ⟨aa2, ka2, ca2, rfl, hj1, hj2⟩ := hsq
                clear hof hM hmv hj1 hj2 J3
                unfold rv
                simp only []
                refine hKQ.out _ _ J4.out.two.one.below (fun _ => ?_)
                clear hKQ KQ
                refine wpAnyH_ready (rs := [14]) (by kernel_rfl) (by simp) ?_
                refine AllReadyH.cons (o := _) rfl (fun KQ hKQ => ?_) AllReadyH.nil
                refine wp_store_row 44 _ _ rfl qa #[.int .i64 x.err, .string x.path, .string x.data, (.slice aa1 ka1 ca1), .int .i64 x.made, .int .i64 x.changed, .int .i64 x.ver, .int .i64 x.kids, .int .i64 x.owner, .int .i64 x.len, .int .i64 x.cnt] rfl rfl 44 xz14.toArray (J4.out.ka rfl).cb (by kernel_rfl) rfl (by kernel_rfl) ?_
                go_simp
                have J5 : Hid (Bk14 LT W (s4.setRow qa #[.int .i64 x.err, .string x.path, .string x.data, (.slice aa1 ka1 ca1), .int .i64 x.made, .int .i64 x.changed, .int .i64 x.ver, .int .i64 x.kids, .int .i64 x.owner, .int .i64 x.len, .int .i64 x.cnt]) q t9 Fa q2 t9 Fb true qa (xc x (.slice aa1 ka1 ca1)) true qb xz14) := J4.out.setA' HS.out.1 (xc x (.slice aa1 ka1 ca1))
                clear J4
                generalize s4.setRow qa #[.int .i64 x.err, .string x.path, .string x.data, (.slice aa1 ka1 ca1), .int .i64 x.made, .int .i64 x.changed, .int .i64 x.ver, .int .i64 x.kids, .int .i64 x.owner, .int .i64 x.len, .int .i64 x.cnt] = s5 at *
                refine hKQ.out _ _ J5.out.two.one.below (fun _ => ?_)
                clear hKQ KQ
                refine wpAnyH_ready (rs := [15]) (by kernel_rfl) (by simp) ?_
                refine AllReadyH.cons (o := _) rfl (fun KQ hKQ => ?_) AllReadyH.nil
                refine wp_store_row 44 _ _ rfl qb #[.int .i64 x.err, .string x.path, .string x.data, (.slice aa2 ka2 ca2), .int .i64 x.made, .int .i64 x.changed, .int .i64 x.ver, .int .i64 x.kids, .int .i64 x.owner, .int .i64 x.len, .int .i64 x.cnt] rfl rfl 44 xz14.toArray (J5.out.kb rfl).cb (by kernel_rfl) rfl (by kernel_rfl) ?_
                go_simp
                have J6 : Hid (Bk14 LT W (s5.setRow qb #[.int .i64 x.err, .string x.path, .string x.data, (.slice aa2 ka2 ca2), .int .i64 x.made, .int .i64 x.changed, .int .i64 x.ver, .int .i64 x.kids, .int .i64 x.owner, .int .i64 x.len, .int .i64 x.cnt]) q t9 Fa q2 t9 Fb true qa (xc x (.slice aa1 ka1 ca1)) true qb (xc x (.slice aa2 ka2 ca2))) := J5.out.setB' HS.out.1 (xc x (.slice aa2 ka2 ca2))
                clear J5
                generalize s5.setRow qb #[.int .i64 x.err, .string x.path, .string x.data, (.slice aa2 ka2 ca2), .int .i64 x.made, .int .i64 x.changed, .int .i64 x.ver, .int .i64 x.kids, .int .i64 x.owner, .int .i64 x.len, .int .i64 x.cnt] = s6 at *
                refine hKQ.out _ _ J6.out.two.one.below (fun _ => ?_)
                clear hKQ KQ
                refine wpAnyH_done (by kernel_rfl) ?_ _
                obtain ⟨c0, c1, c2, c3, c4, c5, c6, c7, c8, c9, c10⟩ := xc_all14 (J6.out.ka rfl).cb
                obtain ⟨d0, d1, d2, d3, d4, d5, d6, d7, d8, d9, d10⟩ := xc_all14 (J6.out.kb rfl).cb
                have e1 : (x.path.toList == x.path.toList) = true := by simp
                go_wp2
                clear c0 c1 c2 c3 c4 c5 c6 c7 c8 c9 c10 d0 d1 d2 d3 d4 d5 d6 d7 d8 d9 d10
                go_roundw
                case rel => exact ⟨k + 1, t9, Fa, Fb, by omega, by go_num, J6.out.two, HX.out.2⟩
                case measure => simp [intOf]; omega
    · as_aux_lemma =>
        go_simp
        obtain ⟨qa, hqa⟩ : ∃ z, z = s0.heap.size := ⟨_, rfl⟩
        rw [← hqa]
        have J1 : Hid (Bk14 LT W (s0.alloc (.cells #[.int .i64 0, .string ⟨#[]⟩, .string ⟨#[]⟩, .slice none 0 0, .int .i64 0, .int .i64 0, .int .i64 0, .int .i64 0, .int .i64 0, .int .i64 0, .int .i64 0] 44)) q t F q2 t F2 true qa xz14 false 0 []) := by rw [hqa]; exact J0.out.boxA HS.out.1
        clear hqa J0
        generalize s0.alloc (.cells #[.int .i64 0, .string ⟨#[]⟩, .string ⟨#[]⟩, .slice none 0 0, .int .i64 0, .int .i64 0, .int .i64 0, .int .i64 0, .int .i64 0, .int .i64 0, .int .i64 0] 44) = s1 at *
        refine hKQ.out _ _ J1.out.two.one.below (fun _ => ?_)
        clear hKQ KQ
        refine wpAnyH_ready (rs := [5, 13]) (by kernel_rfl) (by simp) ?_
        refine AllReadyH.cons (o := _) rfl (fun KQ hKQ => ?_) (AllReadyH.cons (o := _) rfl (fun KQ hKQ => ?_) AllReadyH.nil)
        · as_aux_lemma =>
            go_simp
            refine (J1.out.two.one.doo HS.out.1 HS.out.2.2.2 o 2 99 HO.out x t9 HX.out.1 HX.out.2.fine).mono ?_
            rintro e s2 ⟨Fa, va, rfl, hsq, hof, hM, hmv⟩
            have J2 : Hid (Bk14 LT W s2 q t9 Fa q2 t F2 true qa xz14 false 0 []) := J1.out.left HS.out.1 hM hmv
            obtain ⟨aa1, ka1, ca1, rfl, hj1, hj2⟩ := hsq
            clear hof hM hmv hj1 hj2 J1
            unfold rv
            simp only []
            refine hKQ.out _ _ J2.out.two.one.below (fun _ => ?_)
            clear hKQ KQ
            refine wpAnyH_ready (rs := [11, 13]) (by kernel_rfl) (by simp) ?_
            refine AllReadyH.cons (o := _) rfl (fun KQ hKQ => ?_) (AllReadyH.cons (o := _) rfl (fun KQ hKQ => ?_) AllReadyH.nil)
            · as_aux_lemma =>
                go_simp
                refine (J2.out.two.two.doo HS.out.1 HS.out.2.2.2 o 2 99 HO.out x t9 HX.out.1 HX.out.2.fine).mono ?_
                rintro e s3 ⟨Fb, va, rfl, hsq, hof, hM, hmv⟩
                have J3 : Hid (Bk14 LT W s3 q t9 Fa q2 t9 Fb true qa xz14 false 0 []) := J2.out.right HS.out.1 hM hmv
                obtain ⟨aa2, ka2, ca2, rfl, hj1, hj2⟩ := hsq
                clear hof hM hmv hj1 hj2 J2
                unfold rv
                simp only []
                refine hKQ.out _ _ J3.out.two.one.below (fun _ => ?_)
                clear hKQ KQ
                refine wpAnyH_ready (rs := [13]) (by kernel_rfl) (by simp) ?_
                refine AllReadyH.cons (o := _) rfl (fun KQ hKQ => ?_) AllReadyH.nil
                go_simp
                obtain ⟨qb, hqb⟩ : ∃ z, z = s3.heap.size := ⟨_, rfl⟩
                rw [← hqb]
                have J4 : Hid (Bk14 LT W (s3.alloc (.cells #[.int .i64 0, .string ⟨#[]⟩, .string ⟨#[]⟩, .slice none 0 0, .int .i64 0, .int .i64 0, .int .i64 0, .int .i64 0, .int .i64 0, .int .i64 0, .int .i64 0] 44)) q t9 Fa q2 t9 Fb true qa xz14 true qb xz14) := by rw [hqb]; exact J3.out.boxB HS.out.1
                clear hqb J3
                generalize s3.alloc (.cells #[.int .i64 0, .string ⟨#[]⟩, .string ⟨#[]⟩, .slice none 0 0, .int .i64 0, .int .i64 0, .int .i64 0, .int .i64 0, .int .i64 0, .int .i64 0, .int .i64 0] 44) = s4 at *
                refine hKQ.out _ _ J4.out.two.one.below (fun _ => ?_)
                clear hKQ KQ
                refine wpAnyH_ready (rs := [14]) (by kernel_rfl) (by simp) ?_
                refine AllReadyH.cons (o := _) rfl (fun KQ hKQ => ?_) AllReadyH.nil
                refine wp_store_row 44 _ _ rfl qa #[.int .i64 x.err, .string x.path, .string x.data, (.slice aa1 ka1 ca1), .int .i64 x.made, .int .i64 x.changed, .int .i64 x.ver, .int .i64 x.kids, .int .i64 x.owner, .int .i64 x.len, .int .i64 x.cnt] rfl rfl 44 xz14.toArray (J4.out.ka rfl).cb (by kernel_rfl) rfl (by kernel_rfl) ?_
                go_simp
                have J5 : Hid (Bk14 LT W (s4.setRow qa #[.int .i64 x.err, .string x.path, .string x.data, (.slice aa1 ka1 ca1), .int .i64 x.made, .int .i64 x.changed, .int .i64 x.ver, .int .i64 x.kids, .int .i64 x.owner, .int .i64 x.len, .int .i64 x.cnt]) q t9 Fa q2 t9 Fb true qa (xc x (.slice aa1 ka1 ca1)) true qb xz14) := J4.out.setA' HS.out.1 (xc x (.slice aa1 ka1 ca1))
                clear J4
                generalize s4.setRow qa #[.int .i64 x.err, .string x.path, .string x.data, (.slice aa1 ka1 ca1), .int .i64 x.made, .int .i64 x.changed, .int .i64 x.ver, .int .i64 x.kids, .int .i64 x.owner, .int .i64 x.len, .int .i64 x.cnt] = s5 at *
                refine hKQ.out _ _ J5.out.two.one.below (fun _ => ?_)
                clear hKQ KQ
                refine wpAnyH_ready (rs := [15]) (by kernel_rfl) (by simp) ?_
                refine AllReadyH.cons (o := _) rfl (fun KQ hKQ => ?_) AllReadyH.nil
                refine wp_store_row 44 _ _ rfl qb #[.int .i64 x.err, .string x.path, .string x.data, (.slice aa2 ka2 ca2), .int .i64 x.made, .int .i64 x.changed, .int .i64 x.ver, .int .i64 x.kids, .int .i64 x.owner, .int .i64 x.len, .int .i64 x.cnt] rfl rfl 44 xz14.toArray (J5.out.kb rfl).cb (by kernel_rfl) rfl (by kernel_rfl) ?_
                go_simp
                have J6 : Hid (Bk14 LT W (s5.setRow qb #[.int .i64 x.err, .string x.path, .string x.data, (.slice aa2 ka2 ca2), .int .i64 x.made, .int .i64 x.changed, .int .i64 x.ver, .int .i64 x.kids, .int .i64 x.owner, .int .i64 x.len, .int .i64 x.cnt]) q t9 Fa q2 t9 Fb true qa (xc x (.slice aa1 ka1 ca1)) true qb (xc x (.slice aa2 ka2 ca2))) := J5.out.setB' HS.out.1 (xc x (.slice aa2 ka2 ca2))
                clear J5
                generalize s5.setRow qb #[.int .i64 x.err, .string x.path, .string x.data, (.slice aa2 ka2 ca2), .int .i64 x.made, .int .i64 x.changed, .int .i64 x.ver, .int .i64 x.kids, .int .i64 x.owner, .int .i64 x.len, .int .i64 x.cnt] = s6 at *
                refine hKQ.out _ _ J6.out.two.one.below (fun _ => ?_)
                clear hKQ KQ
                refine wpAnyH_done (by kernel_rfl) ?_ _
                obtain ⟨c0, c1, c2, c3, c4, c5, c6, c7, c8, c9, c10⟩ := xc_all14 (J6.out.ka rfl).cb
                obtain ⟨d0, d1, d2, d3, d4, d5, d6, d7, d8, d9, d10⟩ := xc_all14 (J6.out.kb rfl).cb
                have e1 : (x.path.toList == x.path.toList) = true := by simp
                go_wp2
                clear c0 c1 c2 c3 c4 c5 c6 c7 c8 c9 c10 d0 d1 d2 d3 d4 d5 d6 d7 d8 d9 d10
                go_roundw
                case rel => exact ⟨k + 1, t9, Fa, Fb, by omega, by go_num, J6.out.two, HX.out.2⟩
                case measure => simp [intOf]; omega
            · as_aux_lemma =>
                go_simp
                obtain ⟨qb, hqb⟩ : ∃ z, z = s2.heap.size := ⟨_, rfl⟩
                rw [← hqb]
                have J3 : Hid (Bk14 LT W (s2.alloc (.cells #[.int .i64 0, .string ⟨#[]⟩, .string ⟨#[]⟩, .slice none 0 0, .int .i64 0, .int .i64 0, .int .i64 0, .int .i64 0, .int .i64 0, .int .i64 0, .int .i64 0] 44)) q t9 Fa q2 t F2 true qa xz14 true qb xz14) := by rw [hqb]; exact J2.out.boxB HS.out.1
                clear hqb J2
                generalize s2.alloc (.cells #[.int .i64 0, .string ⟨#[]⟩, .string ⟨#[]⟩, .slice none 0 0, .int .i64 0, .int .i64 0, .int .i64 0, .int .i64 0, .int .i64 0, .int .i64 0, .int .i64 0] 44) = s3 at *
                refine hKQ.out _ _ J3.out.two.one.below (fun _ => ?_)
                clear hKQ KQ
                refine wpAnyH_ready (rs := [11]) (by kernel_rfl) (by simp) ?_
                refine AllReadyH.cons (o := _) rfl (fun KQ hKQ => ?_) AllReadyH.nil
                go_simp
                refine (J3.out.two.two.doo HS.out.1 HS.out.2.2.2 o 2 99 HO.out x t9 HX.out.1 HX.out.2.fine).mono ?_
                rintro e s4 ⟨Fb, va, rfl, hsq, hof, hM, hmv⟩
                have J4 : Hid (Bk14 LT W s4 q t9 Fa q2 t9 Fb true qa xz14 true qb xz14) := J3.out.right HS.out.1 hM hmv
                obtain ⟨aa2, ka2, ca2, rfl, hj1, hj2⟩ := hsq
                clear hof hM hmv hj1 hj2 J3
                unfold rv
                simp only []
                refine hKQ.out _ _ J4.out.two.one.below (fun _ => ?_)
                clear hKQ KQ
                refine wpAnyH_ready (rs := [14]) (by kernel_rfl) (by simp) ?_
                refine AllReadyH.cons (o := _) rfl (fun KQ hKQ => ?_) AllReadyH.nil
                refine wp_store_row 44 _ _ rfl qa #[.int .i64 x.err, .string x.path, .string x.data, (.slice aa1 ka1 ca1), .int .i64 x.made, .int .i64 x.changed, .int .i64 x.ver, .int .i64 x.kids, .int .i64 x.owner, .int .i64 x.len, .int .i64 x.cnt] rfl rfl 44 xz14.toArray (J4.out.ka rfl).cb (by kernel_rfl) rfl (by kernel_rfl) ?_
                go_simp
                have J5 : Hid (Bk14 LT W (s4.setRow qa #[.int .i64 x.err, .string x.path, .string x.data, (.slice aa1 ka1 ca1), .int .i64 x.made, .int .i64 x.changed, .int .i64 x.ver, .int .i64 x.kids, .int .i64 x.owner, .int .i64 x.len, .int .i64 x.cnt]) q t9 Fa q2 t9 Fb true qa (xc x (.slice aa1 ka1 ca1)) true qb xz14) := J4.out.setA' HS.out.1 (xc x (.slice aa1 ka1 ca1))
                clear J4
                generalize s4.setRow qa #[.int .i64 x.err, .string x.path, .string x.data, (.slice aa1 ka1 ca1), .int .i64 x.made, .int .i64 x.changed, .int .i64 x.ver, .int .i64 x.kids, .int .i64 x.owner, .int .i64 x.len, .int .i64 x.cnt] = s5 at *
                refine hKQ.out _ _ J5.out.two.one.below (fun _ => ?_)
                clear hKQ KQ
                refine wpAnyH_ready (rs := [15]) (by kernel_rfl) (by simp) ?_
                refine AllReadyH.cons (o := _) rfl (fun KQ hKQ => ?_) AllReadyH.nil
                refine wp_store_row 44 _ _ rfl qb #[.int .i64 x.err, .string x.path, .string x.data, (.slice aa2 ka2 ca2), .int .i64 x.made, .int .i64 x.changed, .int .i64 x.ver, .int .i64 x.kids, .int .i64 x.owner, .int .i64 x.len, .int .i64 x.cnt] rfl rfl 44 xz14.toArray (J5.out.kb rfl).cb (by kernel_rfl) rfl (by kernel_rfl) ?_
                go_simp
                have J6 : Hid (Bk14 LT W (s5.setRow qb #[.int .i64 x.err, .string x.path, .string x.data, (.slice aa2 ka2 ca2), .int .i64 x.made, .int .i64 x.changed, .int .i64 x.ver, .int .i64 x.kids, .int .i64 x.owner, .int .i64 x.len, .int .i64 x.cnt]) q t9 Fa q2 t9 Fb true qa (xc x (.slice aa1 ka1 ca1)) true qb (xc x (.slice aa2 ka2 ca2))) := J5.out.setB' HS.out.1 (xc x (.slice aa2 ka2 ca2))
                clear J5
                generalize s5.setRow qb #[.int .i64 x.err, .string x.path, .string x.data, (.slice aa2 ka2 ca2), .int .i64 x.made, .int .i64 x.changed, .int .i64 x.ver, .int .i64 x.kids, .int .i64 x.owner, .int .i64 x.len, .int .i64 x.cnt] = s6 at *
                refine hKQ.out _ _ J6.out.two.one.below (fun _ => ?_)
                clear hKQ KQ
                refine wpAnyH_done (by kernel_rfl) ?_ _
                obtain ⟨c0, c1, c2, c3, c4, c5, c6, c7, c8, c9, c10⟩ := xc_all14 (J6.out.ka rfl).cb
                obtain ⟨d0, d1, d2, d3, d4, d5, d6, d7, d8, d9, d10⟩ := xc_all14 (J6.out.kb rfl).cb
                have e1 : (x.path.toList == x.path.toList) = true := by simp
                go_wp2
                clear c0 c1 c2 c3 c4 c5 c6 c7 c8 c9 c10 d0 d1 d2 d3 d4 d5 d6 d7 d8 d9 d10
                go_roundw
                case rel => exact ⟨k + 1, t9, Fa, Fb, by omega, by go_num, J6.out.two, HX.out.2⟩
                case measure => simp [intOf]; omega
        · as_aux_lemma =>
            go_simp
            obtain ⟨qb, hqb⟩ : ∃ z, z = s1.heap.size := ⟨_, rfl⟩
            rw [← hqb]
            have J2 : Hid (Bk14 LT W (s1.alloc (.cells #[.int .i64 0, .string ⟨#[]⟩, .string ⟨#[]⟩, .slice none 0 0, .int .i64 0, .int .i64 0, .int .i64 0, .int .i64 0, .int .i64 0, .int .i64 0, .int .i64 0] 44)) q t F q2 t F2 true qa xz14 true qb xz14) := by rw [hqb]; exact J1.out.boxB HS.out.1
            clear hqb J1
            generalize s1.alloc (.cells #[.int .i64 0, .string ⟨#[]⟩, .string ⟨#[]⟩, .slice none 0 0, .int .i64 0, .int .i64 0, .int .i64 0, .int .i64 0, .int .i64 0, .int .i64 0, .int .i64 0] 44) = s2 at *
            refine hKQ.out _ _ J2.out.two.one.below (fun _ => ?_)
            clear hKQ KQ
            refine wpAnyH_ready (rs := [5]) (by kernel_rfl) (by simp) ?_
            refine AllReadyH.cons (o := _) rfl (fun KQ hKQ => ?_) AllReadyH.nil
            go_simp
            refine (J2.out.two.one.doo HS.out.1 HS.out.2.2.2 o 2 99 HO.out x t9 HX.out.1 HX.out.2.fine).mono ?_
            rintro e s3 ⟨Fa, va, rfl, hsq, hof, hM, hmv⟩
            have J3 : Hid (Bk14 LT W s3 q t9 Fa q2 t F2 true qa xz14 true qb xz14) := J2.out.left HS.out.1 hM hmv
            obtain ⟨aa1, ka1, ca1, rfl, hj1, hj2⟩ := hsq
            clear hof hM hmv hj1 hj2 J2
            unfold rv
            simp only []
            refine hKQ.out _ _ J3.out.two.one.below (fun _ => ?_)
            clear hKQ KQ
            refine wpAnyH_ready (rs := [11]) (by kernel_rfl) (by simp) ?_
            refine AllReadyH.cons (o := _) rfl (fun KQ hKQ => ?_) AllReadyH.nil
            go_simp
            refine (J3.out.two.two.doo HS.out.1 HS.out.2.2.2 o 2 99 HO.out x t9 HX.out.1 HX.out.2.fine).mono ?_
            rintro e s4 ⟨Fb, va, rfl, hsq, hof, hM, hmv⟩
            have J4 : Hid (Bk14 LT W s4 q t9 Fa q2 t9 Fb true qa xz14 true qb xz14) := J3.out.right HS.out.1 hM hmv
            obtain ⟨aa2, ka2, ca2, rfl, hj1, hj2⟩ := hsq
            clear hof hM hmv hj1 hj2 J3
            unfold rv
            simp only []
            refine hKQ.out _ _ J4.out.two.one.below (fun _ => ?_)
            clear hKQ KQ
            refine wpAnyH_ready (rs := [14]) (by kernel_rfl) (by simp) ?_
            refine AllReadyH.cons (o := _) rfl (fun KQ hKQ => ?_) AllReadyH.nil
            refine wp_store_row 44 _ _ rfl qa #[.int .i64 x.err, .string x.path, .string x.data, (.slice aa1 ka1 ca1), .int .i64 x.made, .int .i64 x.changed, .int .i64 x.ver, .int .i64 x.kids, .int .i64 x.owner, .int .i64 x.len, .int .i64 x.cnt] rfl rfl 44 xz14.toArray (J4.out.ka rfl).cb (by kernel_rfl) rfl (by kernel_rfl) ?_
            go_simp
            have J5 : Hid (Bk14 LT W (s4.setRow qa #[.int .i64 x.err, .string x.path, .string x.data, (.slice aa1 ka1 ca1), .int .i64 x.made, .int .i64 x.changed, .int .i64 x.ver, .int .i64 x.kids, .int .i64 x.owner, .int .i64 x.len, .int .i64 x.cnt]) q t9 Fa q2 t9 Fb true qa (xc x (.slice aa1 ka1 ca1)) true qb xz14) := J4.out.setA' HS.out.1 (xc x (.slice aa1 ka1 ca1))
            clear J4
            generalize s4.setRow qa #[.int .i64 x.err, .string x.path, .string x.data, (.slice aa1 ka1 ca1), .int .i64 x.made, .int .i64 x.changed, .int .i64 x.ver, .int .i64 x.kids, .int .i64 x.owner, .int .i64 x.len, .int .i64 x.cnt] = s5 at *
            refine hKQ.out _ _ J5.out.two.one.below (fun _ => ?_)
            clear hKQ KQ
            refine wpAnyH_ready (rs := [15]) (by kernel_rfl) (by simp) ?_
            refine AllReadyH.cons (o := _) rfl (fun KQ hKQ => ?_) AllReadyH.nil
            refine wp_store_row 44 _ _ rfl qb #[.int .i64 x.err, .string x.path, .string x.data, (.slice aa2 ka2 ca2), .int .i64 x.made, .int .i64 x.changed, .int .i64 x.ver, .int .i64 x.kids, .int .i64 x.owner, .int .i64 x.len, .int .i64 x.cnt] rfl rfl 44 xz14.toArray (J5.out.kb rfl).cb (by kernel_rfl) rfl (by kernel_rfl) ?_
            go_simp
            have J6 : Hid (Bk14 LT W (s5.setRow qb #[.int .i64 x.err, .string x.path, .string x.data, (.slice aa2 ka2 ca2), .int .i64 x.made, .int .i64 x.changed, .int .i64 x.ver, .int .i64 x.kids, .int .i64 x.owner, .int .i64 x.len, .int .i64 x.cnt]) q t9 Fa q2 t9 Fb true qa (xc x (.slice aa1 ka1 ca1)) true qb (xc x (.slice aa2 ka2 ca2))) := J5.out.setB' HS.out.1 (xc x (.slice aa2 ka2 ca2))
            clear J5
            generalize s5.setRow qb #[.int .i64 x.err, .string x.path, .string x.data, (.slice aa2 ka2 ca2), .int .i64 x.made, .int .i64 x.changed, .int .i64 x.ver, .int .i64 x.kids, .int .i64 x.owner, .int .i64 x.len, .int .i64 x.cnt] = s6 at *
            refine hKQ.out _ _ J6.out.two.one.below (fun _ => ?_)
            clear hKQ KQ
            refine wpAnyH_done (by kernel_rfl) ?_ _
            obtain ⟨c0, c1, c2, c3, c4, c5, c6, c7, c8, c9, c10⟩ := xc_all14 (J6.out.ka rfl).cb
            obtain ⟨d0, d1, d2, d3, d4, d5, d6, d7, d8, d9, d10⟩ := xc_all14 (J6.out.kb rfl).cb
            have e1 : (x.path.toList == x.path.toList) = true := by simp
            go_wp2
            clear c0 c1 c2 c3 c4 c5 c6 c7 c8 c9 c10 d0 d1 d2 d3 d4 d5 d6 d7 d8 d9 d10
            go_roundw
            case rel => exact ⟨k + 1, t9, Fa, Fb, by omega, by go_num, J6.out.two, HX.out.2⟩
            case measure => simp [intOf]; omega
    · as_aux_lemma =>
        go_simp
        obtain ⟨qb, hqb⟩ : ∃ z, z = s0.heap.size := ⟨_, rfl⟩
        rw [← hqb]
        have J1 : Hid (Bk14 LT W (s0.alloc (.cells #[.int .i64 0, .string ⟨#[]⟩, .string ⟨#[]⟩, .slice none 0 0, .int .i64 0, .int .i64 0, .int .i64 0, .int .i64 0, .int .i64 0, .int .i64 0, .int .i64 0] 44)) q t F q2 t F2 false 0 [] true qb xz14) := by rw [hqb]; exact J0.out.boxB HS.out.1
        clear hqb J0
        generalize s0.alloc (.cells #[.int .i64 0, .string ⟨#[]⟩, .string ⟨#[]⟩, .slice none 0 0, .int .i64 0, .int .i64 0, .int .i64 0, .int .i64 0, .int .i64 0, .int .i64 0, .int .i64 0] 44) = s1 at *
        refine hKQ.out _ _ J1.out.two.one.below (fun _ => ?_)
        clear hKQ KQ
        refine wpAnyH_ready (rs := [5, 12]) (by kernel_rfl) (by simp) ?_
        refine AllReadyH.cons (o := _) rfl (fun KQ hKQ => ?_) (AllReadyH.cons (o := _) rfl (fun KQ hKQ => ?_) AllReadyH.nil)
        · as_aux_lemma =>
            go_simp
            refine (J1.out.two.one.doo HS.out.1 HS.out.2.2.2 o 2 99 HO.out x t9 HX.out.1 HX.out.2.fine).mono ?_
            rintro e s2 ⟨Fa, va, rfl, hsq, hof, hM, hmv⟩
            have J2 : Hid (Bk14 LT W s2 q t9 Fa q2 t F2 false 0 [] true qb xz14) := J1.out.left HS.out.1 hM hmv
            obtain ⟨aa1, ka1, ca1, rfl, hj1, hj2⟩ := hsq
            clear hof hM hmv hj1 hj2 J1
            unfold rv
            simp only []
            refine hKQ.out _ _ J2.out.two.one.below (fun _ => ?_)
            clear hKQ KQ
            refine wpAnyH_ready (rs := [11, 12]) (by kernel_rfl) (by simp) ?_
            refine AllReadyH.cons (o := _) rfl (fun KQ hKQ => ?_) (AllReadyH.cons (o := _) rfl (fun KQ hKQ => ?_) AllReadyH.nil)
            · as_aux_lemma =>
                go_simp
                refine (J2.out.two.two.doo HS.out.1 HS.out.2.2.2 o 2 99 HO.out x t9 HX.out.1 HX.out.2.fine).mono ?_
                rintro e s3 ⟨Fb, va, rfl, hsq, hof, hM, hmv⟩
                have J3 : Hid (Bk14 LT W s3 q t9 Fa q2 t9 Fb false 0 [] true qb xz14) := J2.out.right HS.out.1 hM hmv
                obtain ⟨aa2, ka2, ca2, rfl, hj1, hj2⟩ := hsq
                clear hof hM hmv hj1 hj2 J2
                unfold rv
                simp only []
                refine hKQ.out _ _ J3.out.two.one.below (fun _ => ?_)
                clear hKQ KQ
                refine wpAnyH_ready (rs := [12]) (by kernel_rfl) (by simp) ?_
                refine AllReadyH.cons (o := _) rfl (fun KQ hKQ => ?_) AllReadyH.nil
                go_simp
                obtain ⟨qa, hqa⟩ : ∃ z, z = s3.heap.size := ⟨_, rfl⟩
                rw [← hqa]
                have J4 : Hid (Bk14 LT W (s3.alloc (.cells #[.int .i64 0, .string ⟨#[]⟩, .string ⟨#[]⟩, .slice none 0 0, .int .i64 0, .int .i64 0, .int .i64 0, .int .i64 0, .int .i64 0, .int .i64 0, .int .i64 0] 44)) q t9 Fa q2 t9 Fb true qa xz14 true qb xz14) := by rw [hqa]; exact J3.out.boxA HS.out.1
                clear hqa J3
                generalize s3.alloc (.cells #[.int .i64 0, .string ⟨#[]⟩, .string ⟨#[]⟩, .slice none 0 0, .int .i64 0, .int .i64 0, .int .i64 0, .int .i64 0, .int .i64 0, .int .i64 0, .int .i64 0] 44) = s4 at *
                refine hKQ.out _ _ J4.out.two.one.below (fun _ => ?_)
                clear hKQ KQ
                refine wpAnyH_ready (rs := [14]) (by kernel_rfl) (by simp) ?_
                refine AllReadyH.cons (o := _) rfl (fun KQ hKQ => ?_) AllReadyH.nil
                refine wp_store_row 44 _ _ rfl qa #[.int .i64 x.err, .string x.path, .string x.data, (.slice aa1 ka1 ca1), .int .i64 x.made, .int .i64 x.changed, .int .i64 x.ver, .int .i64 x.kids, .int .i64 x.owner, .int .i64 x.len, .int .i64 x.cnt] rfl rfl 44 xz14.toArray (J4.out.ka rfl).cb (by kernel_rfl) rfl (by kernel_rfl) ?_
                go_simp
                have J5 : Hid (Bk14 LT W (s4.setRow qa #[.int .i64 x.err, .string x.path, .string x.data, (.slice aa1 ka1 ca1), .int .i64 x.made, .int .i64 x.changed, .int .i64 x.ver, .int .i64 x.kids, .int .i64 x.owner, .int .i64 x.len, .int .i64 x.cnt]) q t9 Fa q2 t9 Fb true qa (xc x (.slice aa1 ka1 ca1)) true qb xz14) := J4.out.setA' HS.out.1 (xc x (.slice aa1 ka1 ca1))
                clear J4
                generalize s4.setRow qa #[.int .i64 x.err, .string x.path, .string x.data, (.slice aa1 ka1 ca1), .int .i64 x.made, .int .i64 x.changed, .int .i64 x.ver, .int .i64 x.kids, .int .i64 x.owner, .int .i64 x.len, .int .i64 x.cnt] = s5 at *
                refine hKQ.out _ _ J5.out.two.one.below (fun _ => ?_)
                clear hKQ KQ
                refine wpAnyH_ready (rs := [15]) (by kernel_rfl) (by simp) ?_
                refine AllReadyH.cons (o := _) rfl (fun KQ hKQ => ?_) AllReadyH.nil
                refine wp_store_row 44 _ _ rfl qb #[.int .i64 x.err, .string x.path, .string x.data, (.slice aa2 ka2 ca2), .int .i64 x.made, .int .i64 x.changed, .int .i64 x.ver, .int .i64 x.kids, .int .i64 x.owner, .int .i64 x.len, .int .i64 x.cnt] rfl rfl 44 xz14.toArray (J5.out.kb rfl).cb (by kernel_rfl) rfl (by kernel_rfl) ?_
                go_simp
                have J6 : Hid (Bk14 LT W (s5.setRow qb #[.int .i64 x.err, .string x.path, .string x.data, (.slice aa2 ka2 ca2), .int .i64 x.made, .int .i64 x.changed, .int .i64 x.ver, .int .i64 x.kids, .int .i64 x.owner, .int .i64 x.len, .int .i64 x.cnt]) q t9 Fa q2 t9 Fb true qa (xc x (.slice aa1 ka1 ca1)) true qb (xc x (.slice aa2 ka2 ca2))) := J5.out.setB' HS.out.1 (xc x (.slice aa2 ka2 ca2))
                clear J5
                generalize s5.setRow qb #[.int .i64 x.err, .string x.path, .string x.data, (.slice aa2 ka2 ca2), .int .i64 x.made, .int .i64 x.changed, .int .i64 x.ver, .int .i64 x.kids, .int .i64 x.owner, .int .i64 x.len, .int .i64 x.cnt] = s6 at *
                refine hKQ.out _ _ J6.out.two.one.below (fun _ => ?_)
                clear hKQ KQ
                refine wpAnyH_done (by kernel_rfl) ?_ _
                obtain ⟨c0, c1, c2, c3, c4, c5, c6, c7, c8, c9, c10⟩ := xc_all14 (J6.out.ka rfl).cb
                obtain ⟨d0, d1, d2, d3, d4, d5, d6, d7, d8, d9, d10⟩ := xc_all14 (J6.out.kb rfl).cb
                have e1 : (x.path.toList == x.path.toList) = true := by simp
                go_wp2
                clear c0 c1 c2 c3 c4 c5 c6 c7 c8 c9 c10 d0 d1 d2 d3 d4 d5 d6 d7 d8 d9 d10
                go_roundw
                case rel => exact ⟨k + 1, t9, Fa, Fb, by omega, by go_num, J6.out.two, HX.out.2⟩
                case measure => simp [intOf]; omega
            · as_aux_lemma =>
                go_simp
                obtain ⟨qa, hqa⟩ : ∃ z, z = s2.heap.size := ⟨_, rfl⟩
                rw [← hqa]
                have J3 : Hid (Bk14 LT W (s2.alloc (.cells #[.int .i64 0, .string ⟨#[]⟩, .string ⟨#[]⟩, .slice none 0 0, .int .i64 0, .int .i64 0, .int .i64 0, .int .i64 0, .int .i64 0, .int .i64 0, .int .i64 0] 44)) q t9 Fa q2 t F2 true qa xz14 true qb xz14) := by rw [hqa]; exact J2.out.boxA HS.out.1
                clear hqa J2
                generalize s2.alloc (.cells #[.int .i64 0, .string ⟨#[]⟩, .string ⟨#[]⟩, .slice none 0 0, .int .i64 0, .int .i64 0, .int .i64 0, .int .i64 0, .int .i64 0, .int .i64 0, .int .i64 0] 44) = s3 at *
                refine hKQ.out _ _ J3.out.two.one.below (fun _ => ?_)
                clear hKQ KQ
                refine wpAnyH_ready (rs := [11]) (by kernel_rfl) (by simp) ?_
                refine AllReadyH.cons (o := _) rfl (fun KQ hKQ => ?_) AllReadyH.nil
                go_simp
                refine (J3.out.two.two.doo HS.out.1 HS.out.2.2.2 o 2 99 HO.out x t9 HX.out.1 HX.out.2.fine).mono ?_
                rintro e s4 ⟨Fb, va, rfl, hsq, hof, hM, hmv⟩
                have J4 : Hid (Bk14 LT W s4 q t9 Fa q2 t9 Fb true qa xz14 true qb xz14) := J3.out.right HS.out.1 hM hmv
                obtain ⟨aa2, ka2, ca2, rfl, hj1, hj2⟩ := hsq
                clear hof hM hmv hj1 hj2 J3
                unfold rv
                simp only []
                refine hKQ.out _ _ J4.out.two.one.below (fun _ => ?_)
                clear hKQ KQ
                refine wpAnyH_ready (rs := [14]) (by kernel_rfl) (by simp) ?_
                refine AllReadyH.cons (o := _) rfl (fun KQ hKQ => ?_) AllReadyH.nil
                refine wp_store_row 44 _ _ rfl qa #[.int .i64 x.err, .string x.path, .string x.data, (.slice aa1 ka1 ca1), .int .i64 x.made, .int .i64 x.changed, .int .i64 x.ver, .int .i64 x.kids, .int .i64 x.owner, .int .i64 x.len, .int .i64 x.cnt] rfl rfl 44 xz14.toArray (J4.out.ka rfl).cb (by kernel_rfl) rfl (by kernel_rfl) ?_
                go_simp
                have J5 : Hid (Bk14 LT W (s4.setRow qa #[.int .i64 x.err, .string x.path, .string x.data, (.slice aa1 ka1 ca1), .int .i64 x.made, .int .i64 x.changed, .int .i64 x.ver, .int .i64 x.kids, .int .i64 x.owner, .int .i64 x.len, .int .i64 x.cnt]) q t9 Fa q2 t9 Fb true qa (xc x (.slice aa1 ka1 ca1)) true qb xz14) := J4.out.setA' HS.out.1 (xc x (.slice aa1 ka1 ca1))
                clear J4
                generalize s4.setRow qa #[.int .i64 x.err, .string x.path, .string x.data, (.slice aa1 ka1 ca1), .int .i64 x.made, .int .i64 x.changed, .int .i64 x.ver, .int .i64 x.kids, .int .i64 x.owner, .int .i64 x.len, .int .i64 x.cnt] = s5 at *
                refine hKQ.out _ _ J5.out.two.one.below (fun _ => ?_)
                clear hKQ KQ
                refine wpAnyH_ready (rs := [15]) (by kernel_rfl) (by simp) ?_
                refine AllReadyH.cons (o := _) rfl (fun KQ hKQ => ?_) AllReadyH.nil
                refine wp_store_row 44 _ _ rfl qb #[.int .i64 x.err, .string x.path, .string x.data, (.slice aa2 ka2 ca2), .int .i64 x.made, .int .i64 x.changed, .int .i64 x.ver, .int .i64 x.kids, .int .i64 x.owner, .int .i64 x.len, .int .i64 x.cnt] rfl rfl 44 xz14.toArray (J5.out.kb rfl).cb (by kernel_rfl) rfl (by kernel_rfl) ?_
                go_simp
                have J6 : Hid (Bk14 LT W (s5.setRow qb #[.int .i64 x.err, .string x.path, .string x.data, (.slice aa2 ka2 ca2), .int .i64 x.made, .int .i64 x.changed, .int .i64 x.ver, .int .i64 x.kids, .int .i64 x.owner, .int .i64 x.len, .int .i64 x.cnt]) q t9 Fa q2 t9 Fb true qa (xc x (.slice aa1 ka1 ca1)) true qb (xc x (.slice aa2 ka2 ca2))) := J5.out.setB' HS.out.1 (xc x (.slice aa2 ka2 ca2))
                clear J5
                generalize s5.setRow qb #[.int .i64 x.err, .string x.path, .string x.data, (.slice aa2 ka2 ca2), .int .i64 x.made, .int .i64 x.changed, .int .i64 x.ver, .int .i64 x.kids, .int .i64 x.owner, .int .i64 x.len, .int .i64 x.cnt] = s6 at *
                refine hKQ.out _ _ J6.out.two.one.below (fun _ => ?_)
                clear hKQ KQ
                refine wpAnyH_done (by kernel_rfl) ?_ _
                obtain ⟨c0, c1, c2, c3, c4, c5, c6, c7, c8, c9, c10⟩ := xc_all14 (J6.out.ka rfl).cb
                obtain ⟨d0, d1, d2, d3, d4, d5, d6, d7, d8, d9, d10⟩ := xc_all14 (J6.out.kb rfl).cb
                have e1 : (x.path.toList == x.path.toList) = true := by simp
                go_wp2
                clear c0 c1 c2 c3 c4 c5 c6 c7 c8 c9 c10 d0 d1 d2 d3 d4 d5 d6 d7 d8 d9 d10
                go_roundw
                case rel => exact ⟨k + 1, t9, Fa, Fb, by omega, by go_num, J6.out.two, HX.out.2⟩
                case measure => simp [intOf]; omega
        · as_aux_lemma =>
            go_simp
            obtain ⟨qa, hqa⟩ : ∃ z, z = s1.heap.size := ⟨_, rfl⟩
            rw [← hqa]
            have J2 : Hid (Bk14 LT W (s1.alloc (.cells #[.int .i64 0, .string ⟨#[]⟩, .string ⟨#[]⟩, .slice none 0 0, .int .i64 0, .int .i64 0, .int .i64 0, .int .i64 0, .int .i64 0, .int .i64 0, .int .i64 0] 44)) q t F q2 t F2 true qa xz14 true qb xz14) := by rw [hqa]; exact J1.out.boxA HS.out.1
            clear hqa J1
            generalize s1.alloc (.cells #[.int .i64 0, .string ⟨#[]⟩, .string ⟨#[]⟩, .slice none 0 0, .int .i64 0, .int .i64 0, .int .i64 0, .int .i64 0, .int .i64 0, .int .i64 0, .int .i64 0] 44) = s2 at *
            refine hKQ.out _ _ J2.out.two.one.below (fun _ => ?_)
            clear hKQ KQ
            refine wpAnyH_ready (rs := [5]) (by kernel_rfl) (by simp) ?_
            refine AllReadyH.cons (o := _) rfl (fun KQ hKQ => ?_) AllReadyH.nil
            go_simp
            refine (J2.out.two.one.doo HS.out.1 HS.out.2.2.2 o 2 99 HO.out x t9 HX.out.1 HX.out.2.fine).mono ?_
            rintro e s3 ⟨Fa, va, rfl, hsq, hof, hM, hmv⟩
            have J3 : Hid (Bk14 LT W s3 q t9 Fa q2 t F2 true qa xz14 true qb xz14) := J2.out.left HS.out.1 hM hmv
            obtain ⟨aa1, ka1, ca1, rfl, hj1, hj2⟩ := hsq
            clear hof hM hmv hj1 hj2 J2
            unfold rv
            simp only []
            refine hKQ.out _ _ J3.out.two.one.below (fun _ => ?_)
            clear hKQ KQ
            refine wpAnyH_ready (rs := [11]) (by kernel_rfl) (by simp) ?_
            refine AllReadyH.cons (o := _) rfl (fun KQ hKQ => ?_) AllReadyH.nil
            go_simp
            refine (J3.out.two.two.doo HS.out.1 HS.out.2.2.2 o 2 99 HO.out x t9 HX.out.1 HX.out.2.fine).mono ?_
            rintro e s4 ⟨Fb, va, rfl, hsq, hof, hM, hmv⟩
            have J4 : Hid (Bk14 LT W s4 q t9 Fa q2 t9 Fb true qa xz14 true qb xz14) := J3.out.right HS.out.1 hM hmv
            obtain ⟨aa2, ka2, ca2, rfl, hj1, hj2⟩ := hsq
            clear hof hM hmv hj1 hj2 J3
            unfold rv
            simp only []
            refine hKQ.out _ _ J4.out.two.one.below (fun _ => ?_)
            clear hKQ KQ
            refine wpAnyH_ready (rs := [14]) (by kernel_rfl) (by simp) ?_
            refine AllReadyH.cons (o := _) rfl (fun KQ hKQ => ?_) AllReadyH.nil
            refine wp_store_row 44 _ _ rfl qa #[.int .i64 x.err, .string x.path, .string x.data, (.slice aa1 ka1 ca1), .int .i64 x.made, .int .i64 x.changed, .int .i64 x.ver, .int .i64 x.kids, .int .i64 x.owner, .int .i64 x.len, .int .i64 x.cnt] rfl rfl 44 xz14.toArray (J4.out.ka rfl).cb (by kernel_rfl) rfl (by kernel_rfl) ?_
            go_simp
            have J5 : Hid (Bk14 LT W (s4.setRow qa #[.int .i64 x.err, .string x.path, .string x.data, (.slice aa1 ka1 ca1), .int .i64 x.made, .int .i64 x.changed, .int .i64 x.ver, .int .i64 x.kids, .int .i64 x.owner, .int .i64 x.len, .int .i64 x.cnt]) q t9 Fa q2 t9 Fb true qa (xc x (.slice aa1 ka1 ca1)) true qb xz14) := J4.out.setA' HS.out.1 (xc x (.slice aa1 ka1 ca1))
            clear J4
            generalize s4.setRow qa #[.int .i64 x.err, .string x.path, .string x.data, (.slice aa1 ka1 ca1), .int .i64 x.made, .int .i64 x.changed, .int .i64 x.ver, .int .i64 x.kids, .int .i64 x.owner, .int .i64 x.len, .int .i64 x.cnt] = s5 at *
            refine hKQ.out _ _ J5.out.two.one.below (fun _ => ?_)
            clear hKQ KQ
            refine wpAnyH_ready (rs := [15]) (by kernel_rfl) (by simp) ?_
            refine AllReadyH.cons (o := _) rfl (fun KQ hKQ => ?_) AllReadyH.nil
            refine wp_store_row 44 _ _ rfl qb #[.int .i64 x.err, .string x.path, .string x.data, (.slice aa2 ka2 ca2), .int .i64 x.made, .int .i64 x.changed, .int .i64 x.ver, .int .i64 x.kids, .int .i64 x.owner, .int .i64 x.len, .int .i64 x.cnt] rfl rfl 44 xz14.toArray (J5.out.kb rfl).cb (by kernel_rfl) rfl (by kernel_rfl) ?_
            go_simp
            have J6 : Hid (Bk14 LT W (s5.setRow qb #[.int .i64 x.err, .string x.path, .string x.data, (.slice aa2 ka2 ca2), .int .i64 x.made, .int .i64 x.changed, .int .i64 x.ver, .int .i64 x.kids, .int .i64 x.owner, .int .i64 x.len, .int .i64 x.cnt]) q t9 Fa q2 t9 Fb true qa (xc x (.slice aa1 ka1 ca1)) true qb (xc x (.slice aa2 ka2 ca2))) := J5.out.setB' HS.out.1 (xc x (.slice aa2 ka2 ca2))
            clear J5
            generalize s5.setRow qb #[.int .i64 x.err, .string x.path, .string x.data, (.slice aa2 ka2 ca2), .int .i64 x.made, .int .i64 x.changed, .int .i64 x.ver, .int .i64 x.kids, .int .i64 x.owner, .int .i64 x.len, .int .i64 x.cnt] = s6 at *
            refine hKQ.out _ _ J6.out.two.one.below (fun _ => ?_)
            clear hKQ KQ
            refine wpAnyH_done (by kernel_rfl) ?_ _
            obtain ⟨c0, c1, c2, c3, c4, c5, c6, c7, c8, c9, c10⟩ := xc_all14 (J6.out.ka rfl).cb
            obtain ⟨d0, d1, d2, d3, d4, d5, d6, d7, d8, d9, d10⟩ := xc_all14 (J6.out.kb rfl).cb
            have e1 : (x.path.toList == x.path.toList) = true := by simp
            go_wp2
            clear c0 c1 c2 c3 c4 c5 c6 c7 c8 c9 c10 d0 d1 d2 d3 d4 d5 d6 d7 d8 d9 d10
            go_roundw
            case rel => exact ⟨k + 1, t9, Fa, Fb, by omega, by go_num, J6.out.two, HX.out.2⟩
            case measure => simp [intOf]; omega
  · have hlt' : ¬ (k : Int) < (m : Int) := by omega
    go_upto_region 15 with fail
    refine wp_region_held_drew (S := fun w' => Below wr.heap.size wr w') (by kernel_rfl) (Below.refl _ _).drew (fun _ => ?_)
    refine wpAnyH_more (S' := fun w' => Below wr.drew.heap.size wr.drew w') (fun w' h => below_drew h) _ _ _ _ ?_
    have J0 : Hid (Two14 LT W wr.drew q t F q2 t F2) := M7.out.1.later HS.out.1 (Below.refl _ _).drew
    have HG : Hid (Tq.Gr t (a.length + k)) := M7.out.2
    clear M7
    generalize wr.drew = s0 at *
    obtain ⟨Z, hZ⟩ : ∃ Z : ByteArray, Z = ⟨(Tq.image t.l).toArray⟩ := ⟨_, rfl⟩
    have HZ : Hid (Z = ⟨(Tq.image t.l).toArray⟩) := hZ
    have hzz : (Z.toList == Z.toList) = true := by simp
    clear hZ
    refine' take_at (i := 0) (d := 72) (v := _) rfl rfl (by kernel_rfl) (by kernel_rfl) (by kernel_rfl) (fun _ _ _ h => h) (Or.inl ⟨by rfl, ?h0⟩) (Below.refl _ _) ?_
    case h0 =>
      intro w hSw
      go_simp
      with_reducible rfl
    simp only [List.setIfInBounds_toArray, List.set_cons_zero, List.set_cons_succ]
    refine' take_at (i := 1) (d := 73) (v := _) rfl rfl (by kernel_rfl) (by kernel_rfl) (by kernel_rfl) (fun _ _ _ h => h) (Or.inl ⟨by rfl, ?h1⟩) (Below.refl _ _) ?_
    case h1 =>
      intro w hSw
      go_simp
      with_reducible rfl
    simp only [List.setIfInBounds_toArray, List.set_cons_zero, List.set_cons_succ]
    refine wpAnyH_ready (rs := [2]) (by kernel_rfl) (by simp) ?_
    refine AllReadyH.cons (o := _) rfl (fun KQ hKQ => ?_) AllReadyH.nil
    go_simp
    refine (HS.out.2.2.1.same q t F q2 t F2 s0 J0.out.one.ld J0.out.one.fine J0.out.two.ld J0.out.two.fine).mono ?_
    rintro e s1 ⟨R, rfl, hR, hb⟩
    obtain rfl : R = true := hR.2 rfl
    have J1 : Hid (Two14 LT W s1 q t F q2 t F2) := J0.out.later HS.out.1 hb
    clear hR J0
    simp only []
    refine hKQ.out _ _ hb (fun _ => ?_)
    refine wpAnyH_more (S' := fun w' => Below s1.heap.size s1 w') (fun w' h => hb.trans (h.mono hb.size)) _ _ _ _ ?_
    clear hKQ KQ hb
    refine' take_at (i := 3) (d := 75) (v := _) rfl rfl (by kernel_rfl) (by kernel_rfl) (by kernel_rfl) (fun _ _ _ h => h) (Or.inl ⟨by rfl, ?h3⟩) (Below.refl _ _) ?_
    case h3 =>
      intro w hSw
      go_simp
      with_reducible rfl
    simp only [List.setIfInBounds_toArray, List.set_cons_zero, List.set_cons_succ]
    refine' take_at (i := 4) (d := 76) (v := _) rfl rfl (by kernel_rfl) (by kernel_rfl) (by kernel_rfl) (fun _ _ _ h => h) (Or.inl ⟨by rfl, ?h4⟩) (Below.refl _ _) ?_
    case h4 =>
      intro w hSw
      go_simp
      with_reducible rfl
    simp only [List.setIfInBounds_toArray, List.set_cons_zero, List.set_cons_succ]
    refine' take_at (i := 7) (d := 79) (v := _) rfl rfl (by kernel_rfl) (by kernel_rfl) (by kernel_rfl) (fun _ _ _ h => h) (Or.inl ⟨by rfl, ?h7⟩) (Below.refl _ _) ?_
    case h7 =>
      intro w hSw
      go_simp
      with_reducible rfl
    simp only [List.setIfInBounds_toArray, List.set_cons_zero, List.set_cons_succ]
    refine wpAnyH_ready (rs := [5]) (by kernel_rfl) (by simp) ?_
    refine AllReadyH.cons (o := _) rfl (fun KQ hKQ => ?_) AllReadyH.nil
    go_simp
    refine (J1.out.one.put14 HS.out.1 HS.out.2.2.1 HG.out).mono ?_
    rintro e s2 ⟨a2, n2, c2, rfl, hn, ho, hM, hb⟩
    have J2 : Hid (Two14 LT W s2 q t F q2 t F2 ∧ Bs s2 (.slice a2 n2 c2) (Tq.image t.l)) := ⟨J1.out.later HS.out.1 hb, Bs.own ho⟩
    clear hn ho hM J1
    simp only []
    refine hKQ.out _ _ hb (fun _ => ?_)
    refine wpAnyH_more (S' := fun w' => Below s2.heap.size s2 w') (fun w' h => hb.trans (h.mono hb.size)) _ _ _ _ ?_
    clear hKQ KQ hb
    refine' take_at (i := 6) (d := 78) (v := _) rfl rfl (by kernel_rfl) (by kernel_rfl) (by kernel_rfl) (fun _ _ _ h => h) (Or.inl ⟨by rfl, ?h6⟩) (Below.refl _ _) ?_
    case h6 =>
      intro w hSw
      have hcv := (J2.out.2.below hSw).conv
      rw [← HZ.out] at hcv
      go_simp
      with_reducible rfl
    simp only [List.setIfInBounds_toArray, List.set_cons_zero, List.set_cons_succ]
    refine wpAnyH_ready (rs := [8]) (by kernel_rfl) (by simp) ?_
    refine AllReadyH.cons (o := _) rfl (fun KQ hKQ => ?_) AllReadyH.nil
    go_simp
    refine (J2.out.1.two.put14 HS.out.1 HS.out.2.2.1 HG.out).mono ?_
    rintro e s3 ⟨a3, n3, c3, rfl, hn, ho, hM, hb⟩
    have J3 : Hid (Below W.heap.size W s3 ∧ Bs s3 (.slice a3 n3 c3) (Tq.image t.l)) := ⟨hM.below, Bs.own ho⟩
    clear hn ho hM J2
    simp only []
    refine hKQ.out _ _ hb (fun _ => ?_)
    refine wpAnyH_more (S' := fun w' => Below s3.heap.size s3 w') (fun w' h => hb.trans (h.mono hb.size)) _ _ _ _ ?_
    clear hKQ KQ hb
    refine' take_at (i := 9) (d := 81) (v := _) rfl rfl (by kernel_rfl) (by kernel_rfl) (by kernel_rfl) (fun _ _ _ h => h) (Or.inl ⟨by rfl, ?h9⟩) (Below.refl _ _) ?_
    case h9 =>
      intro w hSw
      have hcv := (J3.out.2.below hSw).conv
      rw [← HZ.out] at hcv
      go_simp
      with_reducible rfl
    simp only [List.setIfInBounds_toArray, List.set_cons_zero, List.set_cons_succ]
    refine' take_at (i := 10) (d := 82) (v := _) rfl rfl (by kernel_rfl) (by kernel_rfl) (by kernel_rfl) (fun _ _ _ h => h) (Or.inl ⟨by rfl, ?h10⟩) (Below.refl _ _) ?_
    case h10 =>
      intro w hSw
      go_simp
      with_reducible rfl
    simp only [List.setIfInBounds_toArray, List.set_cons_zero, List.set_cons_succ]
    refine' take_at (i := 11) (d := 83) (v := _) rfl rfl (by kernel_rfl) (by kernel_rfl) (by kernel_rfl) (fun _ _ _ h => h) (Or.inl ⟨by rfl, ?h11⟩) (Below.refl _ _) ?_
    case h11 =>
      intro w hSw
      go_simp
      with_reducible rfl
    simp only [List.setIfInBounds_toArray, List.set_cons_zero, List.set_cons_succ]
    refine' take_at (i := 12) (d := 4) (v := _) rfl rfl (by kernel_rfl) (by kernel_rfl) (by kernel_rfl) (fun _ _ _ h => h) (Or.inl ⟨by rfl, ?h12⟩) (Below.refl _ _) ?_
    case h12 =>
      intro w hSw
      go_simp
      with_reducible rfl
    simp only [List.setIfInBounds_toArray, List.set_cons_zero, List.set_cons_succ]
    refine wpAnyH_done (by kernel_rfl) ?_ _
    go_wp2
    go_ret
    exact ⟨rfl, J3.out.1⟩
end Go.Proofs.YtpidafpaffpnaaaGreatDoor
