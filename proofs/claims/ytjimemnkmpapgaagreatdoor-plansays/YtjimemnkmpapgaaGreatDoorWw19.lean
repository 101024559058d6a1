/- What the landed plan's small calls answer: Local, First, isBusy, byWeight; cmp.Compare of numbers. What the landed plan's places and place answer: slices.Clone, IndexFunc, DeleteFunc, Index of numbers. What the landed plan's places, place and Ops answer. What the landed plan's Verdict answers: slices.MinFunc of votes. -/
import Derived.Test.YtjimemnkmpapgaaGreatDoorPn19
import Derived.Test.YtjimemnkmpapgaaGreatDoorTakeAt
import Derived.BigQuiet
import Derived.Deep.DeepCutAuto
import Derived.Test.YtjimemnkmpapgaaGreatDoorBs19
import Derived.Laws.Tables
namespace Go.Proofs.YtjimemnkmpapgaaGreatDoor
open Go.RowKit

set_option maxRecDepth 20000 in
set_option maxHeartbeats 1000000 in
theorem first_any19 (p : Pn.St) (u a b : Value) (w : World) (h : Pv w p u a b) : Calls Tryz.prog 13 #[pv p u a b] w fun e w' => e = .returned (.int .i64 (Pn.first p)) ∧ Below w.heap.size w w' := by
  have H : Hid (Pv w p u a b) := h
  obtain ⟨_, ⟨ax, ac, rfl⟩, _⟩ := h.forms
  obtain ⟨N, hN⟩ : ∃ N, N = p.sh.length := ⟨_, rfl⟩
  have HN : Hid (N = p.sh.length) := hN
  rw [← hN] at H ⊢
  clear h hN
  unfold pv
  have HB : Hid (Below w.heap.size w (w.alloc (.cells #[.int .i64 p.s, .int .i64 p.n, u, .slice ax N ac, b] 33))) := (Below.refl _ w).alloc (Nat.le_refl _) _
  go_enter Tryz.func13, Tryz.ntmps13
  by_cases h0 : N = 0
  · have hb0 : ((N : Int) == 0) = true := by simp [h0]
    have HF : Hid (Pn.first p = -1) := by
      have h : p.sh = [] := List.length_eq_zero_iff.1 (by rw [← HN.out]; exact h0)
      exact (show Pn.first p = -1 by unfold Pn.first; rw [h]; rfl)
    clear h0
    go_wp2
    go_ret
    exact ⟨by rw [HF.out]; rfl, HB.out⟩
  · have hb0 : ((N : Int) == 0) = false := by simp [h0]
    have hlt : 0 < N := by omega
    have hlt' : (0 : Int) < (N : Int) := by omega
    obtain ⟨z, hz⟩ : ∃ z, p.sh[0]? = some z := ⟨p.sh[0]'(by rw [← HN.out]; exact hlt), List.getElem?_eq_getElem _⟩
    obtain ⟨g, o, rfl, hc⟩ := H.out.sh.at hz
    have c0 : (w.alloc (.cells #[.int .i64 p.s, .int .i64 p.n, u, .slice (some ⟨g, o, none⟩) N ac, b] 33)).cell? ⟨g, o, none⟩ = some (.int .i64 z) := Below.kept HB.out (by have := hc 0 _ rfl; simpa [KI] using this)
    have HF : Hid (Pn.first p = z) := by
      refine (show Pn.first p = z from ?_)
      unfold Pn.first
      cases e : p.sh with
      | nil => rw [e] at hz; cases hz
      | cons x l => rw [e] at hz; exact Option.some.inj hz
    clear h0 hz hc
    go_wp2
    go_ret
    exact ⟨by rw [HF.out]; rfl, HB.out⟩

set_option maxRecDepth 20000 in
set_option maxHeartbeats 1000000 in
theorem local_any19 (p : Pn.St) (u a b : Value) (w : World) (h : Pv w p u a b) : Calls Tryz.prog 18 #[pv p u a b] w fun e w' => e = .returned (.bool (decide (p.sh.length = 1))) ∧ Below w.heap.size w w' := by
  obtain ⟨_, ⟨ax, ac, rfl⟩, _⟩ := h.forms
  obtain ⟨N, hN⟩ : ∃ N, N = p.sh.length := ⟨_, rfl⟩
  rw [← hN] at h ⊢
  clear h hN
  unfold pv
  have HB : Hid (Below w.heap.size w (w.alloc (.cells #[.int .i64 p.s, .int .i64 p.n, u, .slice ax N ac, b] 33))) := (Below.refl _ w).alloc (Nat.le_refl _) _
  go_enter Tryz.func18, Tryz.ntmps18
  by_cases h1 : N = 1
  · have hb1 : ((N : Int) == 1) = true := by simp [h1]
    have hd : decide (N = 1) = true := by simp [h1]
    rw [hd]
    clear h1 hd
    go_wp2
    go_ret
    exact ⟨rfl, HB.out⟩
  · have hb1 : ((N : Int) == 1) = false := by simp; omega
    have hd : decide (N = 1) = false := by simp [h1]
    rw [hd]
    clear h1 hd
    go_wp2
    go_ret
    exact ⟨rfl, HB.out⟩

def cmpI (a b : Int) : Int := if a < b then -1 else if b < a then 1 else 0
theorem cmpI_neg (a b : Int) : cmpI a b < 0 ↔ decide (a < b) = true := by
  unfold cmpI
  by_cases h : a < b
  · rw [if_pos h]
    exact ⟨fun _ => decide_eq_true h, fun _ => by decide⟩
  · rw [if_neg h]
    refine ⟨fun k => ?_, fun k => absurd (of_decide_eq_true k) h⟩
    split at k <;> exact absurd k (by decide)
set_option maxRecDepth 20000 in
set_option maxHeartbeats 1000000 in
theorem nanI_any19 (a : Int) (w : World) : Calls Tryz.prog 77 #[.int .i64 a] w fun e w' => e = .returned (.bool false) ∧ w' = w := by
  have hne : (a != a) = false := by simp
  go_enter Tryz.func77, Tryz.ntmps77
  go_wp2
  go_ret
  exact ⟨rfl, rfl⟩
set_option maxRecDepth 20000 in
set_option maxHeartbeats 1000000 in
theorem cmpI_any19 (a b : Int) (w : World) : Calls Tryz.prog 57 #[.int .i64 a, .int .i64 b] w fun e w' => e = .returned (.int .i64 (cmpI a b)) ∧ w' = w := by
  go_enter Tryz.func57, Tryz.ntmps57
  go_wp2_with fail
  refine (nanI_any19 a w).mono ?_
  rintro e w' ⟨rfl, hw⟩
  rw [hw]
  clear hw
  go_wp2_with fail
  refine (nanI_any19 b w).mono ?_
  rintro e w' ⟨rfl, hw⟩
  rw [hw]
  clear hw
  by_cases h1 : a < b
  · have HE : Hid (cmpI a b = -1) := (show cmpI a b = -1 by unfold cmpI; rw [if_pos h1])
    go_wp2
    go_ret
    exact ⟨by rw [HE.out]; rfl, rfl⟩
  · by_cases h2 : b < a
    · have HE : Hid (cmpI a b = 1) := (show cmpI a b = 1 by unfold cmpI; rw [if_neg h1, if_pos h2])
      go_wp2
      go_ret
      exact ⟨by rw [HE.out]; rfl, rfl⟩
    · have HE : Hid (cmpI a b = 0) := (show cmpI a b = 0 by unfold cmpI; rw [if_neg h1, if_neg h2])
      go_wp2
      go_ret
      exact ⟨by rw [HE.out]; rfl, rfl⟩

set_option maxRecDepth 20000 in
set_option maxHeartbeats 1000000 in
theorem busy_any19 (x : Pn.V) (w : World) : Calls Tryz.prog 56 #[.agg #[.int .i64 x.err, .int .i64 x.at_]] w fun e w' => e = .returned (.bool (decide (x.err = 12))) ∧ Below w.heap.size w w' := by
  have HB : Hid (Below w.heap.size w (w.alloc (.cells #[.int .i64 x.err, .int .i64 x.at_] 42))) := (Below.refl _ w).alloc (Nat.le_refl _) _
  go_enter Tryz.func56, Tryz.ntmps56
  by_cases h : x.err = 12
  · have hb : (x.err == 12) = true := by simp [h]
    have hd : decide (x.err = 12) = true := by simp [h]
    rw [hd]
    clear h hd
    go_wp2
    go_ret
    exact ⟨rfl, HB.out⟩
  · have hb : (x.err == 12) = false := by simp [h]
    have hd : decide (x.err = 12) = false := by simp [h]
    rw [hd]
    clear h hd
    go_wp2
    go_ret
    exact ⟨rfl, HB.out⟩

set_option maxRecDepth 20000 in
set_option maxHeartbeats 4000000 in
theorem weight_any19 (x y : Pn.V) (w : World) : Calls Tryz.prog 37 #[.agg #[.int .i64 x.err, .int .i64 x.at_], .agg #[.int .i64 y.err, .int .i64 y.at_]] w fun e w' => (∃ r, e = .returned (.int .i64 r) ∧ (r < 0 ↔ Pn.less x y = true)) ∧ Below w.heap.size w w' := by
  obtain ⟨bx, hbx⟩ : ∃ z, z = decide (x.err = 12) := ⟨_, rfl⟩
  obtain ⟨by_, hby⟩ : ∃ z, z = decide (y.err = 12) := ⟨_, rfl⟩
  have HX : Hid (∀ w, Calls Tryz.prog 56 #[.agg #[.int .i64 x.err, .int .i64 x.at_]] w fun e w' => e = .returned (.bool bx) ∧ Below w.heap.size w w') := fun w => by rw [hbx]; exact busy_any19 x w
  have HY : Hid (∀ w, Calls Tryz.prog 56 #[.agg #[.int .i64 y.err, .int .i64 y.at_]] w fun e w' => e = .returned (.bool by_) ∧ Below w.heap.size w w') := fun w => by rw [hby]; exact busy_any19 y w
  have HL : Hid (Pn.less x y = if bx != by_ then bx else decide (x.at_ < y.at_)) := (show _ = _ by unfold Pn.less; rw [hbx, hby])
  clear hbx hby
  obtain ⟨q, hq⟩ : ∃ q, q = w.heap.size := ⟨_, rfl⟩
  obtain ⟨r, hr⟩ : ∃ r, r = w.heap.size + 1 := ⟨_, rfl⟩
  have H0 : Hid (Below w.heap.size w ((w.alloc (.cells #[.int .i64 x.err, .int .i64 x.at_] 42)).alloc (.cells #[.int .i64 y.err, .int .i64 y.at_] 42)) ∧ Cb ((w.alloc (.cells #[.int .i64 x.err, .int .i64 x.at_] 42)).alloc (.cells #[.int .i64 y.err, .int .i64 y.at_] 42)) q [.int .i64 x.err, .int .i64 x.at_] 42 ∧ Cb ((w.alloc (.cells #[.int .i64 x.err, .int .i64 x.at_] 42)).alloc (.cells #[.int .i64 y.err, .int .i64 y.at_] 42)) r [.int .i64 y.err, .int .i64 y.at_] 42) := by
    have h1 := (Below.refl _ w).alloc (Nat.le_refl _) (.cells #[.int .i64 x.err, .int .i64 x.at_] 42)
    have h2 := (Below.refl _ (w.alloc (.cells #[.int .i64 x.err, .int .i64 x.at_] 42))).alloc (Nat.le_refl _) (.cells #[.int .i64 y.err, .int .i64 y.at_] 42)
    have h3 := Cb.made (w.alloc (.cells #[.int .i64 x.err, .int .i64 x.at_] 42)) [.int .i64 y.err, .int .i64 y.at_] 42
    rw [World.size_alloc] at h3
    rw [hq, hr]
    exact ⟨h1.trans (h2.mono h1.size), (Cb.made w [.int .i64 x.err, .int .i64 x.at_] _).below h2, h3⟩
  go_enter Tryz.func37, Tryz.ntmps37
  go_upto_region 1 with fail
  rw [← hr, ← hq]
  clear hq hr
  generalize ((w.alloc (.cells #[.int .i64 x.err, .int .i64 x.at_] 42)).alloc (.cells #[.int .i64 y.err, .int .i64 y.at_] 42)) = w0 at *
  refine wp_region_held_drew (S := fun w' => Below w0.heap.size w0 w') (by kernel_rfl) (Below.refl _ w0).drew (fun _ => ?_)
  have H1 : Hid (Below w0.heap.size w0 w0.drew) := (Below.refl _ w0).drew
  generalize w0.drew = w1 at *
  refine' take_at (i := 0) (d := 7) (v := _) rfl rfl (by kernel_rfl) (by kernel_rfl) (by kernel_rfl) (fun _ _ _ h => h) (Or.inl ⟨by rfl, ?h0⟩) (H1.out) ?_
  case h0 =>
    intro w hSw
    have t1 := (H0.out.2.1.below hSw).cell 0
    have t2 := (H0.out.2.1.below hSw).cell 1
    have t3 := (H0.out.2.2.below hSw).cell 0
    have t4 := (H0.out.2.2.below hSw).cell 1
    simp only [List.getElem?_cons_zero, List.getElem?_cons_succ] at t1 t2 t3 t4
    go_simp
    with_reducible rfl
  simp only [List.setIfInBounds_toArray, List.set_cons_zero, List.set_cons_succ]
  refine' take_at (i := 2) (d := 9) (v := _) rfl rfl (by kernel_rfl) (by kernel_rfl) (by kernel_rfl) (fun _ _ _ h => h) (Or.inl ⟨by rfl, ?h2⟩) (H1.out) ?_
  case h2 =>
    intro w hSw
    have t1 := (H0.out.2.1.below hSw).cell 0
    have t2 := (H0.out.2.1.below hSw).cell 1
    have t3 := (H0.out.2.2.below hSw).cell 0
    have t4 := (H0.out.2.2.below hSw).cell 1
    simp only [List.getElem?_cons_zero, List.getElem?_cons_succ] at t1 t2 t3 t4
    go_simp
    with_reducible rfl
  simp only [List.setIfInBounds_toArray, List.set_cons_zero, List.set_cons_succ]
  refine wpAnyH_ready (rs := [1]) (by kernel_rfl) (by simp) ?_
  refine AllReadyH.cons (o := _) rfl (fun KQ hKQ => ?_) AllReadyH.nil
  go_simp
  refine (HX.out w1).mono ?_
  rintro e w2 ⟨rfl, hb⟩
  have H2 : Hid (Below w0.heap.size w0 w2) := H1.out.trans (hb.mono H1.out.size)
  clear hb
  refine hKQ.out _ _ H2.out (fun _ => ?_)
  clear hKQ KQ
  refine wpAnyH_ready (rs := [3]) (by kernel_rfl) (by simp) ?_
  refine AllReadyH.cons (o := _) rfl (fun KQ hKQ => ?_) AllReadyH.nil
  go_simp
  refine (HY.out w2).mono ?_
  rintro e w3 ⟨rfl, hb⟩
  have H3 : Hid (Below w.heap.size w w3) := H0.out.1.trans ((H2.out.trans (hb.mono H2.out.size)).mono H0.out.1.size)
  have H3' : Hid (Below w0.heap.size w0 w3) := H2.out.trans (hb.mono H2.out.size)
  clear hb H2 H1
  refine hKQ.out _ _ H3'.out (fun _ => ?_)
  clear hKQ KQ
  refine' take_at (i := 4) (d := 5) (v := _) rfl rfl (by kernel_rfl) (by kernel_rfl) (by kernel_rfl) (fun _ _ _ h => h) (Or.inl ⟨by rfl, ?h4⟩) (H3'.out) ?_
  case h4 =>
    intro w hSw
    go_simp
    with_reducible rfl
  simp only [List.setIfInBounds_toArray, List.set_cons_zero, List.set_cons_succ]
  refine' take_at (i := 5) (d := 6) (v := _) rfl rfl (by kernel_rfl) (by kernel_rfl) (by kernel_rfl) (fun _ _ _ h => h) (Or.inl ⟨by rfl, ?h5⟩) (H3'.out) ?_
  case h5 =>
    intro w hSw
    go_simp
    with_reducible rfl
  simp only [List.setIfInBounds_toArray, List.set_cons_zero, List.set_cons_succ]
  refine wpAnyH_done (by kernel_rfl) ?_ _
  clear HX HY
  have d1 : w3.cell? ⟨q, 1, none⟩ = some (.int .i64 x.at_) := (H0.out.2.1.below H3'.out).cell 1
  have d2 : w3.cell? ⟨r, 1, none⟩ = some (.int .i64 y.at_) := (H0.out.2.2.below H3'.out).cell 1
  cases bx with
  | true =>
    cases by_ with
    | true =>
      have HR : Hid (Pn.less x y = decide (x.at_ < y.at_)) := HL.out
      go_wp2_with fail
      refine (cmpI_any19 x.at_ y.at_ w3).mono ?_
      rintro e w4 ⟨rfl, hw⟩
      rw [hw]
      clear hw
      go_wp2
      go_ret
      exact ⟨⟨_, rfl, by rw [HR.out]; exact cmpI_neg _ _⟩, H3.out⟩
    | false =>
      have HR : Hid (Pn.less x y = true) := HL.out
      go_wp2
      go_ret
      exact ⟨⟨_, rfl, by rw [HR.out]; exact ⟨fun _ => rfl, fun _ => (by decide)⟩⟩, H3.out⟩
  | false =>
    cases by_ with
    | true =>
      have HR : Hid (Pn.less x y = false) := HL.out
      go_wp2
      go_ret
      exact ⟨⟨_, rfl, by rw [HR.out]; exact ⟨fun h => absurd h (by decide), fun h => (by cases h)⟩⟩, H3.out⟩
    | false =>
      have HR : Hid (Pn.less x y = decide (x.at_ < y.at_)) := HL.out
      go_wp2_with fail
      refine (cmpI_any19 x.at_ y.at_ w3).mono ?_
      rintro e w4 ⟨rfl, hw⟩
      rw [hw]
      clear hw
      go_wp2
      go_ret
      exact ⟨⟨_, rfl, by rw [HR.out]; exact cmpI_neg _ _⟩, H3.out⟩
end Go.Proofs.YtjimemnkmpapgaaGreatDoor
namespace Go.Proofs.YtjimemnkmpapgaaGreatDoor
open Go.RowKit

set_option maxRecDepth 20000 in
set_option maxHeartbeats 2000000 in
theorem cloneI_any19 (v : Value) (zs : List Int) (w : World) (hv : KI.At w v zs) (hne : zs ≠ []) (hl : zs.length ≤ 900) :
    Calls Tryz.prog 60 #[v] w fun e w' => ∃ g c, e = .returned (.slice (some ⟨g, 0, none⟩) zs.length c) ∧ KI.At w' (.slice (some ⟨g, 0, none⟩) zs.length c) zs ∧ w.heap.size ≤ g ∧ Below w.heap.size w w' := by
  obtain ⟨a, c, rfl, _, hp⟩ := hv.form
  obtain ⟨g0, b0, rfl⟩ := hp (List.length_pos_iff.2 hne)
  obtain ⟨N, hN⟩ : ∃ N, N = zs.length := ⟨_, rfl⟩
  rw [← hN] at hv ⊢
  have HV : Hid (KI.At w (.slice (some ⟨g0, b0, none⟩) N c) zs ∧ zs.length ≤ 900 ∧ zs ≠ [] ∧ N = zs.length) := ⟨hv, hl, hne, hN⟩
  clear hv hl hp hne hN
  have hq : ∀ W : World, (binOp .eql 27 (.slice (some ⟨g0, b0, none⟩) N c) (.slice none 0 0)).run Tryz.prog W = .ok (.bool false) W := fun W => Lib.run_eql_slice_nil W _ _ (some ⟨g0, b0, none⟩) N c 0 0 Tryz.underlying27
  have HB : Hid (Below w.heap.size w (w.alloc (.cells #[] 3))) := (Below.refl _ w).alloc (Nat.le_refl _) _
  go_enter Tryz.func60, Tryz.ntmps60
  go_wp2_with (at_builtin; refine KI.ok.appL rfl _ _ rfl w.heap.size (.slice (some ⟨w.heap.size, 0, none⟩) 0 0) (.slice (some ⟨g0, b0, none⟩) N c) [] zs (w.alloc (.cells #[] 3)) rfl rfl (World.ownsRow_made w #[] 0 (Nat.le_refl _) (by decide) rfl) (by simp) (HV.out.1.below ((Below.refl _ w).alloc (Nat.le_refl _) _)) (KI.one _) (by have := HV.out.2.1; simp only [List.length_nil]; omega) ?_)
  intro v' w2 hrow hb _ _
  have H2 : Hid (w2.ownsRow w.heap.size 3 1 v' zs.length (KI.cs zs) ∧ Below w.heap.size w w2) := ⟨hrow, HB.out.trans hb⟩
  clear hrow hb
  go_wp2
  go_ret
  obtain ⟨a, cc, e, _, hg⟩ := row_form H2.out.1
  obtain ⟨g, rfl⟩ := hg (List.length_pos_iff.2 HV.out.2.2.1)
  have h1 := KI.ok.row H2.out.1
  have h2 := (H2.out.1.lt g (by rw [e]; rfl)).1
  rw [e] at h1
  rw [← HV.out.2.2.2] at h1 e
  exact ⟨g, cc, by rw [← e]; rfl, h1, h2, H2.out.2⟩

set_option maxRecDepth 20000 in
set_option maxHeartbeats 1000000 in
theorem isNone_any19 (z : Int) (sb M c : Nat) (a : Option Addr) (w : World) (hc : w.cell? ⟨sb, 2, none⟩ = some (.slice a M c)) (h0 : 0 ≤ z) (h1 : z < (M : Int)) :
    Calls Tryz.prog 58 #[.int .i64 z, .pointer (some ⟨sb, 0, none⟩)] w fun e w' => e = .returned (.bool false) ∧ Below w.heap.size w w' := by
  have h0' : ¬ z < 0 := by omega
  have h1' : ¬ (M : Int) ≤ z := by omega
  clear h0 h1
  go_enter Tryz.func58, Tryz.ntmps58
  go_wp2
  go_ret
  exact ⟨rfl, Below.refl _ _⟩

set_option maxRecDepth 20000 in
set_option maxHeartbeats 4000000 in
theorem indexI_any19 (g o N c : Nat) (zs : List Int) (sb M cc : Nat) (a : Option Addr) (w : World) (h : KI.At w (.slice (some ⟨g, o, none⟩) N c) zs) (hN : N = zs.length) (hl : N ≤ 1000) (hc : w.cell? ⟨sb, 2, none⟩ = some (.slice a M cc)) (hz : ∀ z ∈ zs, 0 ≤ z ∧ z < (M : Int)) :
    Calls Tryz.prog 78 #[.slice (some ⟨g, o, none⟩) N c, (Value.func (.func 58) #[] #[.pointer (some ⟨sb, 0, none⟩)])] w fun e w' => e = .returned (.int .i64 (-1)) ∧ Below w.heap.size w w' := by
  have H0 : Hid (N = zs.length ∧ (∀ w', Below w.heap.size w w' → KI.At w' (.slice (some ⟨g, o, none⟩) N c) zs ∧ w'.cell? ⟨sb, 2, none⟩ = some (.slice a M cc)) ∧ ∀ z ∈ zs, 0 ≤ z ∧ z < (M : Int)) := ⟨hN, fun w' hb => ⟨h.below hb, Below.kept hb hc⟩, hz⟩
  clear h hN hc hz
  go_enter Tryz.func78, Tryz.ntmps78
  go_wp2
  go_loopw [8] (fun i wx => ∃ k : Nat, k ≤ N ∧ i = .int .i64 (k : Int) ∧ Below w.heap.size w wx) (fun i _ => N - (intOf i).toNat)
  case atStart => exact ⟨0, Nat.zero_le _, rfl, Below.refl _ _⟩
  case round =>
    obtain ⟨k, hk, rfl, hb⟩ := hrel
    have HW : Hid (Below w.heap.size w wr) := hb
    clear hb
    by_cases hlt : k < N
    · have hlt' : (k : Int) < (N : Int) := by omega
      have hk0 : (0 : Int) ≤ (k : Int) := by omega
      have hwk : IntKind.wrap .i64 ((k : Int) + 1) = (k : Int) + 1 := by rw [IntKind.wrap_i64]; omega
      obtain ⟨x, hx⟩ : ∃ x, zs[k]? = some x := ⟨zs[k]'(by rw [← H0.out.1]; exact hlt), List.getElem?_eq_getElem _⟩
      have hr := (H0.out.2.1 _ HW.out).1.on hx 0 _ rfl
      have hr : wr.cell? ⟨g, o + k, none⟩ = some (.int .i64 x) := by simpa [KI] using hr
      have HX : Hid (0 ≤ x ∧ x < (M : Int)) := H0.out.2.2 x (List.mem_of_getElem? hx)
      clear hx
      go_wp2_with fail
      refine (isNone_any19 x sb M cc a wr (H0.out.2.1 _ HW.out).2 HX.out.1 HX.out.2).mono ?_
      rintro e w2 ⟨rfl, hb2⟩
      have H2 : Hid (Below w.heap.size w w2) := HW.out.trans (hb2.mono HW.out.size)
      clear hb2 hr
      go_wp2
      go_roundw
      case rel => exact ⟨k + 1, by omega, by go_num, H2.out⟩
      case measure => simp [intOf]; omega
    · have hlt' : ¬ (k : Int) < (N : Int) := by omega
      go_wp2
      go_ret
      exact ⟨rfl, HW.out⟩

set_option maxRecDepth 20000 in
set_option maxHeartbeats 4000000 in
theorem delI_any19 (g o N c : Nat) (zs : List Int) (sb M cc : Nat) (a : Option Addr) (w : World) (h : KI.At w (.slice (some ⟨g, o, none⟩) N c) zs) (hN : N = zs.length) (hl : N ≤ 1000) (hc : w.cell? ⟨sb, 2, none⟩ = some (.slice a M cc)) (hz : ∀ z ∈ zs, 0 ≤ z ∧ z < (M : Int)) :
    Calls Tryz.prog 59 #[.slice (some ⟨g, o, none⟩) N c, (Value.func (.func 58) #[] #[.pointer (some ⟨sb, 0, none⟩)])] w fun e w' => e = .returned (.slice (some ⟨g, o, none⟩) N c) ∧ Below w.heap.size w w' := by
  have H0 : Hid (Calls Tryz.prog 78 #[.slice (some ⟨g, o, none⟩) N c, (Value.func (.func 58) #[] #[.pointer (some ⟨sb, 0, none⟩)])] w fun e w' => e = .returned (.int .i64 (-1)) ∧ Below w.heap.size w w') := indexI_any19 g o N c zs sb M cc a w h hN hl hc hz
  clear h hN hl hc hz
  go_enter Tryz.func59, Tryz.ntmps59
  go_wp2_with fail
  refine H0.out.mono ?_
  rintro e w2 ⟨rfl, hb2⟩
  have H2 : Hid (Below w.heap.size w w2) := hb2
  clear hb2
  go_wp2
  go_ret
  exact ⟨rfl, H2.out⟩

set_option maxRecDepth 20000 in
set_option maxHeartbeats 4000000 in
theorem idx_any19 (v : Value) (zs : List Int) (x : Int) (w : World) (h : KI.At w v zs) (hl : zs.length ≤ 1000) :
    Calls Tryz.prog 40 #[v, .int .i64 x] w fun e w' => e = .returned (.int .i64 (Pn.pos zs x)) ∧ Below w.heap.size w w' := by
  obtain ⟨a, c, rfl, _, _⟩ := h.form
  obtain ⟨N, hN⟩ : ∃ N, N = zs.length := ⟨_, rfl⟩
  rw [← hN] at h ⊢
  have H0 : Hid (N = zs.length ∧ KI.At w (.slice a N c) zs) := ⟨hN, h⟩
  have hN1 : N ≤ 1000 := by omega
  clear h hN hl
  go_enter Tryz.func40, Tryz.ntmps40
  go_wp2
  go_loopw [8] (fun i wx => ∃ k : Nat, k ≤ N ∧ i = .int .i64 (k : Int) ∧ Below w.heap.size w wx ∧ ∀ y ∈ zs.take k, y ≠ x) (fun i _ => N - (intOf i).toNat)
  case atStart => exact ⟨0, Nat.zero_le _, rfl, Below.refl _ _, fun y hy => by simp at hy⟩
  case round =>
    obtain ⟨k, hk, rfl, hb, hy⟩ := hrel
    have HW : Hid (Below w.heap.size w wr ∧ ∀ y ∈ zs.take k, y ≠ x) := ⟨hb, hy⟩
    clear hb hy
    by_cases hlt : k < N
    · have hlt' : (k : Int) < (N : Int) := by omega
      have hk0 : (0 : Int) ≤ (k : Int) := by omega
      have hwk : IntKind.wrap .i64 ((k : Int) + 1) = (k : Int) + 1 := by rw [IntKind.wrap_i64]; omega
      obtain ⟨z, hz⟩ : ∃ z, zs[k]? = some z := ⟨zs[k]'(by rw [← H0.out.1]; exact hlt), List.getElem?_eq_getElem _⟩
      obtain ⟨g, o, rfl, hr⟩ := (H0.out.2.below HW.out.1).at hz
      have hr : wr.cell? ⟨g, o + k, none⟩ = some (.int .i64 z) := by simpa [KI] using hr 0 _ rfl
      by_cases hxz : z = x
      · have hb0 : (x == z) = true := by simp [hxz]
        have HR : Hid (Pn.pos zs x = (k : Int)) := (show Pn.pos zs x = (k : Int) by
          have := Pn.posA_yes 0 zs x k (by rw [hz, hxz]) HW.out.2
          unfold Pn.pos
          rw [this]
          omega)
        clear hz hxz
        go_wp2
        go_ret
        exact ⟨by rw [HR.out]; rfl, HW.out.1⟩
      · have hb0 : (x == z) = false := by simp; exact fun e => hxz e.symm
        have HR : Hid (∀ y ∈ zs.take (k + 1), y ≠ x) := fun y hy => by
          rw [List.take_add_one, hz] at hy
          rcases List.mem_append.1 hy with hy | hy
          · exact HW.out.2 y hy
          · simp at hy
            rw [hy]
            exact hxz
        clear hz hxz
        go_wp2
        go_roundw
        case rel => exact ⟨k + 1, by omega, by go_num, HW.out.1, HR.out⟩
        case measure => simp [intOf]; omega
    · have hlt' : ¬ (k : Int) < (N : Int) := by omega
      have HR : Hid (Pn.pos zs x = -1) := (show Pn.pos zs x = -1 by
        have h := HW.out.2
        rw [List.take_of_length_le (by rw [← H0.out.1]; omega)] at h
        exact Pn.posA_no 0 zs x h)
      go_wp2
      go_ret
      exact ⟨by rw [HR.out]; rfl, HW.out.1⟩
end Go.Proofs.YtjimemnkmpapgaaGreatDoor
namespace Go.Proofs.YtjimemnkmpapgaaGreatDoor
open Go.RowKit

set_option maxRecDepth 20000 in
set_option maxHeartbeats 4000000 in
theorem places_any19 (p : Pn.St) (u a b : Value) (i : Int) (w : World) (h : Pv w p u a b) (ok : Pn.Ok p) :
    Calls Tryz.prog 38 #[pv p u a b, .int .i64 i] w fun e w' => ∃ r, e = .returned r ∧ KI.At w' r (Pn.plAt p i) ∧ (∀ k, r.ownBlock = some k → w.heap.size ≤ k) ∧ Below w.heap.size w w' := by
  obtain ⟨⟨ux, uc, rfl⟩, ⟨ax, ac, rfl⟩, ⟨bx, bc, rfl⟩⟩ := h.forms
  obtain ⟨NO, hNO⟩ : ∃ N, N = p.os.length := ⟨_, rfl⟩
  obtain ⟨NS, hNS⟩ : ∃ N, N = p.sh.length := ⟨_, rfl⟩
  obtain ⟨NP, hNP⟩ : ∃ N, N = p.pl.length := ⟨_, rfl⟩
  rw [← hNO, ← hNS, ← hNP] at h
  rw [← hNO, ← hNS, ← hNP]
  have H : Hid (Pv w p (.slice ux NO uc) (.slice ax NS ac) (.slice bx NP bc) ∧ Pn.Ok p ∧ NO = p.os.length ∧ NP = p.pl.length) := ⟨h, ok, hNO, hNP⟩
  have hP4 : NP ≤ 4 := by have := ok.few; have := ok.len; omega
  clear h ok hNO hNS hNP
  unfold pv
  obtain ⟨q, hq⟩ : ∃ q, q = w.heap.size := ⟨_, rfl⟩
  have H0 : Hid (Below w.heap.size w (w.alloc (.cells #[.int .i64 p.s, .int .i64 p.n, .slice ux NO uc, .slice ax NS ac, .slice bx NP bc] 33)) ∧ Cb (w.alloc (.cells #[.int .i64 p.s, .int .i64 p.n, .slice ux NO uc, .slice ax NS ac, .slice bx NP bc] 33)) q [.int .i64 p.s, .int .i64 p.n, .slice ux NO uc, .slice ax NS ac, .slice bx NP bc] 33) := by
    rw [hq]
    exact ⟨(Below.refl _ w).alloc (Nat.le_refl _) _, Cb.made w [.int .i64 p.s, .int .i64 p.n, .slice ux NO uc, .slice ax NS ac, .slice bx NP bc] _⟩
  go_enter Tryz.func38, Tryz.ntmps38
  by_cases h0 : i < 0
  · have HE : Hid (Pn.plAt p i = []) := (show Pn.plAt p i = [] by unfold Pn.plAt; rw [if_neg (by omega)])
    go_wp2
    go_ret
    exact ⟨_, rfl, by rw [HE.out]; exact Kd.At.nil _, fun k hk => (by cases hk), H0.out.1⟩
  · by_cases h1 : (NP : Int) ≤ i
    · have HE : Hid (Pn.plAt p i = []) := (show Pn.plAt p i = [] by
        unfold Pn.plAt
        rw [if_pos (by omega), List.getElem?_eq_none (by have := H.out.2.2.2; omega)]
        rfl)
      go_wp2
      go_ret
      exact ⟨_, rfl, by rw [HE.out]; exact Kd.At.nil _, fun k hk => (by cases hk), H0.out.1⟩
    · obtain ⟨k, rfl⟩ : ∃ k : Nat, i = (k : Int) := ⟨i.toNat, by omega⟩
      have hk0 : (0 : Int) ≤ (k : Int) := by omega
      have hk1 : (k : Int) < (NP : Int) := by omega
      obtain ⟨l, hl⟩ : ∃ l, p.pl[k]? = some l := ⟨p.pl[k]'(by have := H.out.2.2.2; omega), List.getElem?_eq_getElem _⟩
      have HL : Hid (Pn.plAt p (k : Int) = l ∧ l ≠ [] ∧ l.length ≤ 16 ∧ ∀ z ∈ l, 0 ≤ z ∧ z < (NO : Int)) := by
        have hm := List.mem_of_getElem? hl
        refine ⟨?_, H.out.2.1.ne l hm, H.out.2.1.plen hm, ?_⟩
        · unfold Pn.plAt
          rw [if_pos hk0, show ((k : Int)).toNat = k by omega, hl]
          rfl
        · rw [H.out.2.2.1]
          exact H.out.2.1.rng l hm
      obtain ⟨g, o, x, rfl, hx, hA⟩ := (H.out.1.below H0.out.1).at hl
      have HA : Hid (KI.At (w.alloc (.cells #[.int .i64 p.s, .int .i64 p.n, .slice ux NO uc, .slice ax NS ac, .slice (some ⟨g, o, none⟩) NP bc] 33)) x l) := hA
      clear hl hA
      go_upto_region 4 with fail
      rw [← hq]
      clear hq
      generalize (w.alloc (.cells #[.int .i64 p.s, .int .i64 p.n, .slice ux NO uc, .slice ax NS ac, .slice (some ⟨g, o, none⟩) NP bc] 33)) = w1 at *
      have d2 : w1.cell? ⟨q, 4, none⟩ = some (.slice (some ⟨g, o, none⟩) NP bc) := H0.out.2.cell 4
      go_wp2_with fail
      refine (cloneI_any19 x l w1 HA.out HL.out.2.1 (by have := HL.out.2.2.1; omega)).mono ?_
      rintro e w2 ⟨g2, c2, rfl, hA2, hg2, hb2⟩
      obtain ⟨L, hL⟩ : ∃ L, L = l.length := ⟨_, rfl⟩
      rw [← hL] at hA2 ⊢
      have H2 : Hid (KI.At w2 (.slice (some ⟨g2, 0, none⟩) L c2) l ∧ Below w.heap.size w w2 ∧ w2.cell? ⟨q, 2, none⟩ = some (.slice ux NO uc) ∧ L = l.length) := ⟨hA2, H0.out.1.trans (hb2.mono H0.out.1.size), Below.kept hb2 (H0.out.2.cell 2), hL⟩
      have HG2 : Hid (w.heap.size ≤ g2) := Nat.le_trans H0.out.1.size hg2
      clear hA2 hb2 d2 hx hL HA hg2
      go_wp2_with fail
      refine (delI_any19 g2 0 L c2 l q NO uc ux w2 H2.out.1 H2.out.2.2.2 (by have := HL.out.2.2.1; have := H2.out.2.2.2; omega) H2.out.2.2.1 HL.out.2.2.2).mono ?_
      rintro e w3 ⟨rfl, hb3⟩
      have H3 : Hid (KI.At w3 (.slice (some ⟨g2, 0, none⟩) L c2) l ∧ Below w.heap.size w w3) := ⟨H2.out.1.below hb3, H2.out.2.1.trans (hb3.mono H2.out.2.1.size)⟩
      clear hb3 H2
      go_wp2
      go_ret
      exact ⟨_, rfl, by rw [HL.out.1]; exact H3.out.1, fun k hk => (by rw [← Option.some.inj hk]; exact HG2.out), H3.out.2⟩

theorem Pn.plAt_nat (p : Pn.St) (i : Nat) : Pn.plAt p (i : Int) = (p.pl[i]?).getD [] := by
  unfold Pn.plAt
  rw [if_pos (by omega), show ((i : Int)).toNat = i by omega]
set_option maxRecDepth 20000 in
set_option maxHeartbeats 4000000 in
theorem place_any19 (p : Pn.St) (u a b : Value) (i : Nat) (z : Int) (w : World) (h : Pv w p u a b) (ok : Pn.Ok p) :
    Calls Tryz.prog 35 #[pv p u a b, .int .i64 (i : Int), .int .i64 z] w fun e w' => e = .returned (.int .i64 (Pn.place p.pl i z)) ∧ Below w.heap.size w w' := by
  have H : Hid (Pv w p u a b ∧ Pn.Ok p) := ⟨h, ok⟩
  clear h ok
  unfold pv
  obtain ⟨q, hq⟩ : ∃ q, q = w.heap.size := ⟨_, rfl⟩
  have H0 : Hid (Below w.heap.size w (w.alloc (.cells #[.int .i64 p.s, .int .i64 p.n, u, a, b] 33)) ∧ Cb (w.alloc (.cells #[.int .i64 p.s, .int .i64 p.n, u, a, b] 33)) q [.int .i64 p.s, .int .i64 p.n, u, a, b] 33) := by
    rw [hq]
    exact ⟨(Below.refl _ w).alloc (Nat.le_refl _) _, Cb.made w [.int .i64 p.s, .int .i64 p.n, u, a, b] _⟩
  go_enter Tryz.func35, Tryz.ntmps35
  go_wp2_with fail
  refine (places_any19 p u a b (i : Int) _ (H.out.1.below H0.out.1) H.out.2).mono ?_
  rintro e w2 ⟨r, rfl, hr, _, hb2⟩
  obtain ⟨l, hl⟩ : ∃ l, l = (p.pl[i]?).getD [] := ⟨_, rfl⟩
  rw [Pn.plAt_nat, ← hl] at hr
  obtain ⟨rx, rc, rfl, _, _⟩ := hr.form
  obtain ⟨L, hL⟩ : ∃ L, L = l.length := ⟨_, rfl⟩
  rw [← hL] at hr ⊢
  have H2 : Hid (KI.At w2 (.slice rx L rc) l ∧ Below w.heap.size w w2 ∧ L = l.length) := ⟨hr, H0.out.1.trans (hb2.mono H0.out.1.size), hL⟩
  have HP : Hid (Pn.place p.pl i z = if 0 ≤ z then (l[z.toNat]?).getD (-1) else -1) := (show _ = _ by unfold Pn.place; rw [← hl])
  clear hr hb2 hq hl hL H0
  by_cases h0 : z < 0
  · have HR : Hid (Pn.place p.pl i z = -1) := (show _ = _ by rw [HP.out, if_neg (by omega)])
    go_wp2
    go_ret
    exact ⟨by rw [HR.out]; rfl, H2.out.2.1⟩
  · by_cases h1 : (L : Int) ≤ z
    · have HR : Hid (Pn.place p.pl i z = -1) := (show _ = _ by
        rw [HP.out, if_pos (by omega), List.getElem?_eq_none (by have := H2.out.2.2; omega)]
        rfl)
      go_wp2
      go_ret
      exact ⟨by rw [HR.out]; rfl, H2.out.2.1⟩
    · obtain ⟨k, rfl⟩ : ∃ k : Nat, z = (k : Int) := ⟨z.toNat, by omega⟩
      have hk0 : (0 : Int) ≤ (k : Int) := by omega
      have hk1 : (k : Int) < (L : Int) := by omega
      obtain ⟨y, hy⟩ : ∃ y, l[k]? = some y := ⟨l[k]'(by have := H2.out.2.2; omega), List.getElem?_eq_getElem _⟩
      have HR : Hid (Pn.place p.pl i (k : Int) = y) := (show _ = _ by
        rw [HP.out, if_pos hk0, show ((k : Int)).toNat = k by omega, hy]
        rfl)
      obtain ⟨g, o, rfl, hc⟩ := H2.out.1.at hy
      have hc : w2.cell? ⟨g, o + k, none⟩ = some (.int .i64 y) := by simpa [KI] using hc 0 _ rfl
      clear hy
      go_wp2
      go_ret
      exact ⟨by rw [HR.out]; rfl, H2.out.2.1⟩

set_option maxRecDepth 20000 in
set_option maxHeartbeats 8000000 in
theorem ops_any19 (p : Pn.St) (u a b : Value) (z : Int) (w : World) (h : Pv w p u a b) (ok : Pn.Ok p) :
    Calls Tryz.prog 14 #[pv p u a b, .int .i64 z] w fun e w' => ∃ v, e = .returned v ∧ Ol w' v (Pn.opsOf p z) ∧ Below w.heap.size w w' := by
  have H : Hid (Pv w p u a b ∧ Pn.Ok p) := ⟨h, ok⟩
  clear h ok
  unfold pv
  obtain ⟨q, hq⟩ : ∃ q, q = w.heap.size := ⟨_, rfl⟩
  have H0 : Hid (Below w.heap.size w (w.alloc (.cells #[.int .i64 p.s, .int .i64 p.n, u, a, b] 33)) ∧ Cb (w.alloc (.cells #[.int .i64 p.s, .int .i64 p.n, u, a, b] 33)) q [.int .i64 p.s, .int .i64 p.n, u, a, b] 33) := by
    rw [hq]
    exact ⟨(Below.refl _ w).alloc (Nat.le_refl _) _, Cb.made w [.int .i64 p.s, .int .i64 p.n, u, a, b] _⟩
  go_enter Tryz.func14, Tryz.ntmps14
  obtain ⟨x0, hx0⟩ : ∃ x, x = Pn.pos p.sh z := ⟨_, rfl⟩
  obtain ⟨l, hl⟩ : ∃ l, l = Pn.plAt p x0 := ⟨_, rfl⟩
  obtain ⟨⟨ux, uc, hu⟩, _, _⟩ := H.out.1.forms
  obtain ⟨NO, hNO⟩ : ∃ N, N = p.os.length := ⟨_, rfl⟩
  rw [← hNO] at hu
  subst hu
  have HL : Hid (Pn.opsOf p z = Pn.opsAt p.os l ∧ l.length ≤ 16 ∧ ∀ y ∈ l, 0 ≤ y ∧ y < (NO : Int)) := by
    have hP : l = if 0 ≤ x0 then (p.pl[x0.toNat]?).getD [] else [] := hl
    refine ⟨?_, ?_, ?_⟩
    · unfold Pn.opsOf
      rw [← hx0]
      by_cases h : x0 = -1
      · rw [if_pos h, hP, h]
        rfl
      · rw [if_neg h, hP]
        rcases Pn.posA_low 0 p.sh z with h1 | ⟨j, h1, _⟩
        · exact absurd (hx0.trans h1) h
        · have h2 : x0 = ((0 + j : Nat) : Int) := hx0.trans h1
          rw [if_pos (by omega)]
    · rw [hP]
      split
      · cases e : p.pl[x0.toNat]? with
        | none => simp
        | some l' => exact H.out.2.plen (List.mem_of_getElem? e)
      · simp
    · rw [hP, hNO]
      split
      · cases e : p.pl[x0.toNat]? with
        | none => simp
        | some l' => exact H.out.2.rng l' (List.mem_of_getElem? e)
      · simp
  have hb0 := H0.out.1
  have HX : Hid (∀ w', Calls Tryz.prog 40 #[a, .int .i64 z] w' (fun e w'' => e = .returned (.int .i64 x0) ∧ Below w'.heap.size w' w'') ∨ ¬ KI.At w' a p.sh) := fun w' => by
    by_cases k : KI.At w' a p.sh
    · refine Or.inl ?_
      rw [hx0]
      exact idx_any19 a p.sh z w' k (by have := H.out.2.few; omega)
    · exact Or.inr k
  clear hNO hb0 hx0
  go_upto_region 2 with fail
  rw [← hq]
  clear hq
  generalize (w.alloc (.cells #[.int .i64 p.s, .int .i64 p.n, .slice ux NO uc, a, b] 33)) = w0 at *
  refine wp_region_held_drew (S := fun w' => Below w0.heap.size w0 w') (by kernel_rfl) (Below.refl _ w0).drew (fun _ => ?_)
  have H1 : Hid (Below w0.heap.size w0 w0.drew) := (Below.refl _ w0).drew
  generalize w0.drew = w1 at *
  refine' take_at (i := 0) (d := 8) (v := _) rfl rfl (by kernel_rfl) (by kernel_rfl) (by kernel_rfl) (fun _ _ _ h => h) (Or.inl ⟨by rfl, ?h0⟩) (H1.out) ?_
  case h0 =>
    intro w hSw
    have t := H0.out.2.below hSw
    have t0 := t.cell 0
    have t1 := t.cell 1
    have t2 := t.cell 2
    have t3 := t.cell 3
    have t4 := t.cell 4
    simp only [List.getElem?_cons_zero, List.getElem?_cons_succ] at t0 t1 t2 t3 t4
    go_simp
    with_reducible rfl
  simp only [List.setIfInBounds_toArray, List.set_cons_zero, List.set_cons_succ]
  refine' take_at (i := 1) (d := 9) (v := _) rfl rfl (by kernel_rfl) (by kernel_rfl) (by kernel_rfl) (fun _ _ _ h => h) (Or.inl ⟨by rfl, ?h1⟩) (H1.out) ?_
  case h1 =>
    intro w hSw
    have t := H0.out.2.below hSw
    have t0 := t.cell 0
    have t1 := t.cell 1
    have t2 := t.cell 2
    have t3 := t.cell 3
    have t4 := t.cell 4
    simp only [List.getElem?_cons_zero, List.getElem?_cons_succ] at t0 t1 t2 t3 t4
    go_simp
    with_reducible rfl
  simp only [List.setIfInBounds_toArray, List.set_cons_zero, List.set_cons_succ]
  refine' take_at (i := 2) (d := 10) (v := _) rfl rfl (by kernel_rfl) (by kernel_rfl) (by kernel_rfl) (fun _ _ _ h => h) (Or.inl ⟨by rfl, ?h2⟩) (H1.out) ?_
  case h2 =>
    intro w hSw
    have t := H0.out.2.below hSw
    have t0 := t.cell 0
    have t1 := t.cell 1
    have t2 := t.cell 2
    have t3 := t.cell 3
    have t4 := t.cell 4
    simp only [List.getElem?_cons_zero, List.getElem?_cons_succ] at t0 t1 t2 t3 t4
    go_simp
    with_reducible rfl
  simp only [List.setIfInBounds_toArray, List.set_cons_zero, List.set_cons_succ]
  refine' take_at (i := 3) (d := 11) (v := _) rfl rfl (by kernel_rfl) (by kernel_rfl) (by kernel_rfl) (fun _ _ _ h => h) (Or.inl ⟨by rfl, ?h3⟩) (H1.out) ?_
  case h3 =>
    intro w hSw
    have t := H0.out.2.below hSw
    have t0 := t.cell 0
    have t1 := t.cell 1
    have t2 := t.cell 2
    have t3 := t.cell 3
    have t4 := t.cell 4
    simp only [List.getElem?_cons_zero, List.getElem?_cons_succ] at t0 t1 t2 t3 t4
    go_simp
    with_reducible rfl
  simp only [List.setIfInBounds_toArray, List.set_cons_zero, List.set_cons_succ]
  refine' take_at (i := 7) (d := 15) (v := _) rfl rfl (by kernel_rfl) (by kernel_rfl) (by kernel_rfl) (fun _ _ _ h => h) (Or.inl ⟨by rfl, ?h7⟩) (H1.out) ?_
  case h7 =>
    intro w hSw
    have t := H0.out.2.below hSw
    have t0 := t.cell 0
    have t1 := t.cell 1
    have t2 := t.cell 2
    have t3 := t.cell 3
    have t4 := t.cell 4
    simp only [List.getElem?_cons_zero, List.getElem?_cons_succ] at t0 t1 t2 t3 t4
    go_simp
    with_reducible rfl
  simp only [List.setIfInBounds_toArray, List.set_cons_zero, List.set_cons_succ]
  refine wpAnyH_ready (rs := [4]) (by kernel_rfl) (by simp) ?_
  refine AllReadyH.cons (o := _) rfl (fun KQ hKQ => ?_) AllReadyH.nil
  go_simp
  refine (((HX.out w1).resolve_right fun k => k (H.out.1.sh.below (H0.out.1.trans (H1.out.mono H0.out.1.size)))).mono ?_)
  rintro e w2 ⟨rfl, hb⟩
  have H2 : Hid (Below w0.heap.size w0 w2) := H1.out.trans (hb.mono H1.out.size)
  clear hb
  refine hKQ.out _ _ H2.out (fun _ => ?_)
  clear hKQ KQ
  refine wpAnyH_ready (rs := [5]) (by kernel_rfl) (by simp) ?_
  refine AllReadyH.cons (o := _) rfl (fun KQ hKQ => ?_) AllReadyH.nil
  go_simp
  refine (places_any19 p (.slice ux NO uc) a b x0 w2 (H.out.1.below (H0.out.1.trans (H2.out.mono H0.out.1.size))) H.out.2).mono ?_
  rintro e w3 ⟨r, rfl, hr, _, hb⟩
  rw [← hl] at hr
  obtain ⟨rx, rc, rfl, _, _⟩ := hr.form
  obtain ⟨L, hL⟩ : ∃ L, L = l.length := ⟨_, rfl⟩
  rw [← hL] at hr ⊢
  have H3 : Hid (Below w0.heap.size w0 w3 ∧ KI.At w3 (.slice rx L rc) l ∧ L = l.length) := ⟨H2.out.trans (hb.mono H2.out.size), hr, hL⟩
  clear hb hr hL
  refine hKQ.out _ _ H3.out.1 (fun _ => ?_)
  clear hKQ KQ
  refine' take_at (i := 6) (d := 14) (v := _) rfl rfl (by kernel_rfl) (by kernel_rfl) (by kernel_rfl) (fun _ _ _ h => h) (Or.inl ⟨by rfl, ?h6⟩) (H3.out.1) ?_
  case h6 =>
    intro w hSw
    go_simp
    with_reducible rfl
  simp only [List.setIfInBounds_toArray, List.set_cons_zero, List.set_cons_succ]
  refine wpAnyH_done (by kernel_rfl) ?_ _
  have H4 : Hid (Below w.heap.size w w3 ∧ Ol w3 (.slice ux NO uc) p.os ∧ KI.At w3 (.slice rx L rc) l ∧ w3.cell? ⟨q, 2, none⟩ = some (.slice ux NO uc) ∧ L = l.length ∧ L ≤ 16) := ⟨H0.out.1.trans (H3.out.1.mono H0.out.1.size), H.out.1.os.below (H0.out.1.trans (H3.out.1.mono H0.out.1.size)), H3.out.2.1, Below.kept H3.out.1 (H0.out.2.cell 2), H3.out.2.2, by have := HL.out.2.1; have := H3.out.2.2; omega⟩
  clear H1 H2 H3 HX hl H0
  go_wp2
  go_loopw [5, 15] (fun v i wx => ∃ k : Nat, k ≤ L ∧ i = .int .i64 (k : Int) ∧ wx.ownsRow w3.heap.size 38 5 v (Pn.opsAt p.os (l.take k)).length (KO.cs (Pn.opsAt p.os (l.take k))) ∧ Below w3.heap.size w3 wx) (fun _ i _ => L - (intOf i).toNat)
  case atStart => exact ⟨0, Nat.zero_le _, rfl, World.ownsRow_nil _ _ _ _, Below.refl _ _⟩
  case round =>
    obtain ⟨k, hk, rfl, hr, hb⟩ := hrel
    have HW : Hid (wr.ownsRow w3.heap.size 38 5 u5 (Pn.opsAt p.os (l.take k)).length (KO.cs (Pn.opsAt p.os (l.take k))) ∧ Below w3.heap.size w3 wr) := ⟨hr, hb⟩
    clear hr hb
    by_cases hlt : k < L
    · have hlt' : (k : Int) < (L : Int) := by omega
      have hk0 : (0 : Int) ≤ (k : Int) := by omega
      have hwk : IntKind.wrap .i64 ((k : Int) + 1) = (k : Int) + 1 := by rw [IntKind.wrap_i64]; have := H4.out.2.2.2.2.2; omega
      obtain ⟨y, hy⟩ : ∃ y, l[k]? = some y := ⟨l[k]'(by have := H4.out.2.2.2.2.1; omega), List.getElem?_eq_getElem _⟩
      have hyr := HL.out.2.2 y (List.mem_of_getElem? hy)
      obtain ⟨n, rfl⟩ : ∃ n : Nat, y = (n : Int) := ⟨y.toNat, by omega⟩
      have hn0 : (0 : Int) ≤ (n : Int) := hyr.1
      have hn1 : (n : Int) < (NO : Int) := hyr.2
      obtain ⟨au, nu, cu, hu, hnu, _⟩ := H4.out.2.1
      simp only [Value.slice.injEq] at hu
      obtain ⟨o, ho⟩ : ∃ o, p.os[n]? = some o := ⟨p.os[n]'(by omega), List.getElem?_eq_getElem _⟩
      obtain ⟨g, b0, rfl, hc⟩ := (H4.out.2.2.1.below HW.out.2).at hy
      have hc : wr.cell? ⟨g, b0 + k, none⟩ = some (.int .i64 (n : Int)) := by simpa [KI] using hc 0 _ rfl
      obtain ⟨gu, bu, rfl, hcs⟩ := ((KO.of_ol H4.out.2.1).below HW.out.2).at ho
      have d0 : wr.cell? ⟨gu, bu + n * 5, none⟩ = some (.int .i64 o.kind) := hcs 0 _ rfl
      have d1 : wr.cell? ⟨gu, bu + n * 5 + 1, none⟩ = some (.string o.path) := hcs 1 _ rfl
      have d2 : wr.cell? ⟨gu, bu + n * 5 + 2, none⟩ = some (.string o.data) := hcs 2 _ rfl
      have d3 : wr.cell? ⟨gu, bu + n * 5 + 3, none⟩ = some (.int .i64 o.ver) := hcs 3 _ rfl
      have d4 : wr.cell? ⟨gu, bu + n * 5 + 4, none⟩ = some (.int .i64 o.flags) := hcs 4 _ rfl
      have e2 : wr.cell? ⟨q, 2, none⟩ = some (.slice (some ⟨gu, bu, none⟩) NO uc) := Below.kept HW.out.2 H4.out.2.2.2.1
      have HS : Hid (Pn.opsAt p.os (l.take (k + 1)) = Pn.opsAt p.os (l.take k) ++ [o] ∧ (Pn.opsAt p.os (l.take k)).length ≤ 16) := by
        refine ⟨?_, ?_⟩
        · rw [List.take_add_one, hy]
          exact Pn.opsAt_snoc p.os (l.take k) (n : Int) o (by rw [show ((n : Int)).toNat = n by omega]; exact ho)
        · rw [Pn.opsAt_len (fun z hz => by have := HL.out.2.2 z (List.mem_of_mem_take hz); omega), List.length_take]
          have := HL.out.2.1
          omega
      clear hy ho hcs hyr hu hnu
      obtain ⟨xb, hxb⟩ : ∃ z, z = wr.heap.size := ⟨_, rfl⟩
      have H5 : Hid (Below w3.heap.size w3 (wr.alloc (.cells #[.int .i64 o.kind, .string o.path, .string o.data, .int .i64 o.ver, .int .i64 o.flags] 38)) ∧ Cb (wr.alloc (.cells #[.int .i64 o.kind, .string o.path, .string o.data, .int .i64 o.ver, .int .i64 o.flags] 38)) xb (oc o) 38 ∧ (wr.alloc (.cells #[.int .i64 o.kind, .string o.path, .string o.data, .int .i64 o.ver, .int .i64 o.flags] 38)).ownsRow w3.heap.size 38 5 u5 (Pn.opsAt p.os (l.take k)).length (KO.cs (Pn.opsAt p.os (l.take k)))) := by
        have hb2 := (Below.refl _ wr).alloc (Nat.le_refl _) (.cells #[.int .i64 o.kind, .string o.path, .string o.data, .int .i64 o.ver, .int .i64 o.flags] 38)
        rw [hxb]
        exact ⟨HW.out.2.trans (hb2.mono HW.out.2.size), Cb.made wr (oc o) _, HW.out.1.alloc _⟩
      go_wp2_with (at_builtin; rw [← hxb]; refine KO.ok.appL rfl _ _ rfl w3.heap.size u5 (.slice (some ⟨xb, 0, none⟩) 1 1) (Pn.opsAt p.os (l.take k)) [o] (wr.alloc (.cells #[.int .i64 o.kind, .string o.path, .string o.data, .int .i64 o.ver, .int .i64 o.flags] 38)) rfl rfl H5.out.2.2 H5.out.1.size (Kd.one_at H5.out.2.1) (KO.one _) (by have := HS.out.2; simp; omega) ?_)
      clear hxb d0 d1 d2 d3 d4 e2 hc
      generalize (wr.alloc (.cells #[.int .i64 o.kind, .string o.path, .string o.data, .int .i64 o.ver, .int .i64 o.flags] 38)) = w5 at *
      intro v6 w6 hr6 hb6 _ _
      have hr6 : w6.ownsRow w3.heap.size 38 5 v6 (Pn.opsAt p.os (l.take (k + 1))).length (KO.cs (Pn.opsAt p.os (l.take (k + 1)))) := by
        rw [HS.out.1, List.length_append]
        exact hr6
      have H6 : Hid (w6.ownsRow w3.heap.size 38 5 v6 (Pn.opsAt p.os (l.take (k + 1))).length (KO.cs (Pn.opsAt p.os (l.take (k + 1)))) ∧ Below w3.heap.size w3 w6) := ⟨hr6, H5.out.1.trans hb6⟩
      clear hr6 hb6 H5
      go_wp2
      go_roundw
      case rel => exact ⟨k + 1, by omega, by go_num, H6.out.1, H6.out.2⟩
      case measure => simp [intOf]; omega
    · have hlt' : ¬ (k : Int) < (L : Int) := by omega
      have HE : Hid (Ol wr u5 (Pn.opsOf p z) ∧ Below w.heap.size w wr) := by
        have h := HW.out.1
        rw [List.take_of_length_le (by have := H4.out.2.2.2.2.1; omega), ← HL.out.1] at h
        exact ⟨KO.ol h, H4.out.1.trans (HW.out.2.mono H4.out.1.size)⟩
      go_wp2
      go_ret
      exact ⟨_, rfl, HE.out.1, HE.out.2⟩
end Go.Proofs.YtjimemnkmpapgaaGreatDoor
namespace Go.Proofs.YtjimemnkmpapgaaGreatDoor
open Go.RowKit

theorem results_cell19 {P : Program} {fn : Func} {p : Tmp} {ty : TypeId} (h : fn.results = #[.cell p ty]) (tmps : Array Value) (w : World) (g : Nat) (t : TypeId) (cs : Array Value) (fr : Nat × Nat) (d : TypeDesc)
    (hp : tmps.getD p undef = .pointer (some ⟨g, 0, none⟩)) (hg : w.heap[g]? = some (.cells cs t fr))
    (hu : P.underlying ty = some d) (hd : (match d with | .struct _ | .array _ _ => true | _ => false) = true) (hi : (P.info? ty).map (·.size) = some cs.size) :
    (results fn tmps).run P w = .ok (.agg cs) w := by
  have hp' : tmps[p]?.getD undef = .pointer (some ⟨g, 0, none⟩) := by simpa using hp
  simp [results, h, hp', asAddr, run_loadVar_row w g t ty cs fr d hg hu hd hi]
theorem Pn.least_snoc (m x : Pn.V) (l : List Pn.V) : Pn.least m (l ++ [x]) = if Pn.less x (Pn.least m l) then x else Pn.least m l := by
  induction l generalizing m with
  | nil => rfl
  | cons y l ih => exact ih _
set_option maxRecDepth 20000 in
set_option maxHeartbeats 4000000 in
theorem minF_any19 (g o N c : Nat) (v0 : Pn.V) (l : List Pn.V) (w : World) (h : KV.At w (.slice (some ⟨g, o, none⟩) N c) (v0 :: l)) (hN : N = l.length + 1) (hl : N ≤ 1000) :
    Calls Tryz.prog 36 #[.slice (some ⟨g, o, none⟩) N c, .func (.func 37) #[] #[]] w fun e w' => e = .returned (.agg #[.int .i64 (Pn.least v0 l).err, .int .i64 (Pn.least v0 l).at_]) ∧ Below w.heap.size w w' := by
  have H0 : Hid (N = l.length + 1 ∧ (∀ w', Below w.heap.size w w' → KV.At w' (.slice (some ⟨g, o, none⟩) N c) (v0 :: l))) := ⟨hN, fun w' hb => h.below hb⟩
  have h1 : ¬ (N : Int) < 1 := by omega
  have h2 : (0 : Int) < (N : Int) := by omega
  have hba : Below w.heap.size w (w.alloc (.cells #[.int .i64 0, .int .i64 0] 42)) := (Below.refl _ w).alloc (Nat.le_refl _) _
  have c0 : (w.alloc (.cells #[.int .i64 0, .int .i64 0] 42)).cell? ⟨g, o, none⟩ = some (.int .i64 v0.err) := Below.kept hba (by simpa [KV] using h.on (j := 0) rfl 0 _ rfl)
  have c1 : (w.alloc (.cells #[.int .i64 0, .int .i64 0] 42)).cell? ⟨g, o + 1, none⟩ = some (.int .i64 v0.at_) := Below.kept hba (by simpa [KV] using h.on (j := 0) rfl 1 _ rfl)
  clear hba
  clear h hN
  go_enter Tryz.func36, Tryz.ntmps36
  go_wp2
  obtain ⟨q, hq⟩ : ∃ q, q = w.heap.size := ⟨_, rfl⟩
  obtain ⟨r, hr⟩ : ∃ r, r = w.heap.size + 1 := ⟨_, rfl⟩
  have H1 : Hid (Below w.heap.size w ((w.alloc (.cells #[.int .i64 0, .int .i64 0] 42)).alloc (.cells #[.int .i64 v0.err, .int .i64 v0.at_] 42)) ∧ Cb ((w.alloc (.cells #[.int .i64 0, .int .i64 0] 42)).alloc (.cells #[.int .i64 v0.err, .int .i64 v0.at_] 42)) q [.int .i64 0, .int .i64 0] 42 ∧ Cb ((w.alloc (.cells #[.int .i64 0, .int .i64 0] 42)).alloc (.cells #[.int .i64 v0.err, .int .i64 v0.at_] 42)) r (vc v0) 42 ∧ q ≠ r ∧ w.heap.size ≤ r ∧ w.heap.size ≤ q) := by
    have h1 := (Below.refl _ w).alloc (Nat.le_refl _) (.cells #[.int .i64 0, .int .i64 0] 42)
    have h2 := (Below.refl _ (w.alloc (.cells #[.int .i64 0, .int .i64 0] 42))).alloc (Nat.le_refl _) (.cells #[.int .i64 v0.err, .int .i64 v0.at_] 42)
    have h3 := Cb.made (w.alloc (.cells #[.int .i64 0, .int .i64 0] 42)) (vc v0) 42
    rw [World.size_alloc] at h3
    rw [hq, hr]
    exact ⟨h1.trans (h2.mono h1.size), (Cb.made w [.int .i64 0, .int .i64 0] _).below h2, h3, by omega, by omega, by omega⟩
  rw [← hr, ← hq]
  clear c0 c1 hq hr
  generalize ((w.alloc (.cells #[.int .i64 0, .int .i64 0] 42)).alloc (.cells #[.int .i64 v0.err, .int .i64 v0.at_] 42)) = w1 at *
  go_loopw [6] (fun i wx => ∃ k : Nat, k ≤ l.length ∧ i = .int .i64 ((k : Int) + 1) ∧ Below w.heap.size w wx ∧ Cb wx q [.int .i64 0, .int .i64 0] 42 ∧ Cb wx r (vc (Pn.least v0 (l.take k))) 42) (fun i _ => N - (intOf i).toNat)
  case atStart => exact ⟨0, Nat.zero_le _, rfl, H1.out.1, H1.out.2.1, H1.out.2.2.1⟩
  case round =>
    obtain ⟨k, hk, rfl, hb, hcq, hcr⟩ := hrel
    obtain ⟨m, hm⟩ : ∃ m, m = Pn.least v0 (l.take k) := ⟨_, rfl⟩
    rw [← hm] at hcr
    have HW : Hid (Below w.heap.size w wr ∧ Cb wr q [.int .i64 0, .int .i64 0] 42 ∧ Cb wr r (vc m) 42 ∧ m = Pn.least v0 (l.take k)) := ⟨hb, hcq, hcr, hm⟩
    clear hb hcq hcr hm
    by_cases hlt : k + 1 < N
    · have hlt' : (k : Int) + 1 < (N : Int) := by omega
      have hk0 : (0 : Int) ≤ (k : Int) + 1 := by omega
      have hwk : IntKind.wrap .i64 ((k : Int) + 1 + 1) = (k : Int) + 1 + 1 := by rw [IntKind.wrap_i64]; omega
      obtain ⟨x, hx⟩ : ∃ x, l[k]? = some x := ⟨l[k]'(by have := H0.out.1; omega), List.getElem?_eq_getElem _⟩
      have HX : Hid (Pn.least v0 (l.take (k + 1)) = if Pn.less x m then x else m) := (show _ = _ by rw [List.take_add_one, hx, HW.out.2.2.2]; exact Pn.least_snoc v0 x _)
      have HC : Hid (∀ w', Below w.heap.size w w' → w'.cell? ⟨g, o + (k + 1) * 2, none⟩ = some (.int .i64 x.err) ∧ w'.cell? ⟨g, o + (k + 1) * 2 + 1, none⟩ = some (.int .i64 x.at_)) := fun w' hb => by
        have h := (H0.out.2 w' hb).on (j := k + 1) (x := x) (by simpa using hx)
        exact ⟨h 0 _ rfl, h 1 _ rfl⟩
      clear hx
      obtain ⟨kn, hkn⟩ : ∃ kn : Nat, kn = k + 1 := ⟨_, rfl⟩
      rw [← hkn] at HC
      have e1 : (k : Int) + 1 = (kn : Int) := by omega
      rw [e1] at hlt' hk0 hwk ⊢
      have HK : Hid ((k : Int) + 1 = (kn : Int)) := e1
      clear hkn e1 hlt
      have hm0 := HW.out.2.2.1.cell 0
      have hm1 := HW.out.2.2.1.cell 1
      go_upto_region 7 with fail
      refine wp_region_held_drew (S := fun w' => Below wr.heap.size wr w') (by kernel_rfl) (Below.refl _ wr).drew (fun _ => ?_)
      have H2 : Hid (Below wr.heap.size wr wr.drew) := (Below.refl _ wr).drew
      generalize wr.drew = w2 at *
      refine' take_at (i := 0) (d := 20) (v := _) rfl rfl (by kernel_rfl) (by kernel_rfl) (by kernel_rfl) (fun _ _ _ h => h) (Or.inl ⟨by rfl, ?h0⟩) (H2.out) ?_
      case h0 =>
        intro w hSw
        have t := HC.out _ (HW.out.1.trans (hSw.mono HW.out.1.size))
        have t0 := t.1
        have t1 := t.2
        have t2 := (HW.out.2.2.1.below hSw).cell 0
        have t3 := (HW.out.2.2.1.below hSw).cell 1
        simp only [vc, List.getElem?_cons_zero, List.getElem?_cons_succ] at t2 t3
        go_simp
        with_reducible rfl
      simp only [List.setIfInBounds_toArray, List.set_cons_zero, List.set_cons_succ]
      refine' take_at (i := 1) (d := 21) (v := _) rfl rfl (by kernel_rfl) (by kernel_rfl) (by kernel_rfl) (fun _ _ _ h => h) (Or.inl ⟨by rfl, ?h1⟩) (H2.out) ?_
      case h1 =>
        intro w hSw
        have t := HC.out _ (HW.out.1.trans (hSw.mono HW.out.1.size))
        have t0 := t.1
        have t1 := t.2
        have t2 := (HW.out.2.2.1.below hSw).cell 0
        have t3 := (HW.out.2.2.1.below hSw).cell 1
        simp only [vc, List.getElem?_cons_zero, List.getElem?_cons_succ] at t2 t3
        go_simp
        with_reducible rfl
      simp only [List.setIfInBounds_toArray, List.set_cons_zero, List.set_cons_succ]
      refine' take_at (i := 2) (d := 22) (v := _) rfl rfl (by kernel_rfl) (by kernel_rfl) (by kernel_rfl) (fun _ _ _ h => h) (Or.inl ⟨by rfl, ?h2⟩) (H2.out) ?_
      case h2 =>
        intro w hSw
        have t := HC.out _ (HW.out.1.trans (hSw.mono HW.out.1.size))
        have t0 := t.1
        have t1 := t.2
        have t2 := (HW.out.2.2.1.below hSw).cell 0
        have t3 := (HW.out.2.2.1.below hSw).cell 1
        simp only [vc, List.getElem?_cons_zero, List.getElem?_cons_succ] at t2 t3
        go_simp
        with_reducible rfl
      simp only [List.setIfInBounds_toArray, List.set_cons_zero, List.set_cons_succ]
      refine' take_at (i := 3) (d := 23) (v := _) rfl rfl (by kernel_rfl) (by kernel_rfl) (by kernel_rfl) (fun _ _ _ h => h) (Or.inl ⟨by rfl, ?h3⟩) (H2.out) ?_
      case h3 =>
        intro w hSw
        have t := HC.out _ (HW.out.1.trans (hSw.mono HW.out.1.size))
        have t0 := t.1
        have t1 := t.2
        have t2 := (HW.out.2.2.1.below hSw).cell 0
        have t3 := (HW.out.2.2.1.below hSw).cell 1
        simp only [vc, List.getElem?_cons_zero, List.getElem?_cons_succ] at t2 t3
        go_simp
        with_reducible rfl
      simp only [List.setIfInBounds_toArray, List.set_cons_zero, List.set_cons_succ]
      refine' take_at (i := 4) (d := 24) (v := _) rfl rfl (by kernel_rfl) (by kernel_rfl) (by kernel_rfl) (fun _ _ _ h => h) (Or.inl ⟨by rfl, ?h4⟩) (H2.out) ?_
      case h4 =>
        intro w hSw
        have t := HC.out _ (HW.out.1.trans (hSw.mono HW.out.1.size))
        have t0 := t.1
        have t1 := t.2
        have t2 := (HW.out.2.2.1.below hSw).cell 0
        have t3 := (HW.out.2.2.1.below hSw).cell 1
        simp only [vc, List.getElem?_cons_zero, List.getElem?_cons_succ] at t2 t3
        go_simp
        with_reducible rfl
      simp only [List.setIfInBounds_toArray, List.set_cons_zero, List.set_cons_succ]
      refine' take_at (i := 5) (d := 25) (v := _) rfl rfl (by kernel_rfl) (by kernel_rfl) (by kernel_rfl) (fun _ _ _ h => h) (Or.inl ⟨by rfl, ?h5⟩) (H2.out) ?_
      case h5 =>
        intro w hSw
        have t := HC.out _ (HW.out.1.trans (hSw.mono HW.out.1.size))
        have t0 := t.1
        have t1 := t.2
        have t2 := (HW.out.2.2.1.below hSw).cell 0
        have t3 := (HW.out.2.2.1.below hSw).cell 1
        simp only [vc, List.getElem?_cons_zero, List.getElem?_cons_succ] at t2 t3
        go_simp
        with_reducible rfl
      simp only [List.setIfInBounds_toArray, List.set_cons_zero, List.set_cons_succ]
      refine wpAnyH_ready (rs := [6]) (by kernel_rfl) (by simp) ?_
      refine AllReadyH.cons (o := _) rfl (fun KQ hKQ => ?_) AllReadyH.nil
      go_simp
      refine (weight_any19 x m w2).mono ?_
      rintro e w3 ⟨⟨s, rfl, hs⟩, hb⟩
      have H3 : Hid (Below wr.heap.size wr w3 ∧ (s < 0 ↔ Pn.less x m = true)) := ⟨H2.out.trans (hb.mono H2.out.size), hs⟩
      clear hb hs
      refine hKQ.out _ _ H3.out.1 (fun _ => ?_)
      clear hKQ KQ
      refine' take_at (i := 7) (d := 27) (v := _) rfl rfl (by kernel_rfl) (by kernel_rfl) (by kernel_rfl) (fun _ _ _ h => h) (Or.inl ⟨by rfl, ?h7⟩) (H3.out.1) ?_
      case h7 =>
        intro w hSw
        go_simp
        with_reducible rfl
      simp only [List.setIfInBounds_toArray, List.set_cons_zero, List.set_cons_succ]
      refine wpAnyH_done (by kernel_rfl) ?_ _
      have H4 : Hid (Below w.heap.size w w3 ∧ Cb w3 q [.int .i64 0, .int .i64 0] 42 ∧ Cb w3 r (vc m) 42) := ⟨HW.out.1.trans (H3.out.1.mono HW.out.1.size), HW.out.2.1.below H3.out.1, HW.out.2.2.1.below H3.out.1⟩
      by_cases h0 : s < 0
      · have HE : Hid (Pn.least v0 (l.take (k + 1)) = x) := (show _ = _ by rw [HX.out, if_pos (H3.out.2.1 h0)])
        obtain ⟨d0, d1⟩ := HC.out w3 H4.out.1
        go_wp2_with (refine wpList_store_row rfl 42 _ _ rfl r (vc x).toArray rfl rfl 42 _ H4.out.2.2 (by kernel_rfl) rfl (by kernel_rfl) ?_)
        have H5 : Hid (Below w.heap.size w (w3.setRow r (vc x).toArray) ∧ Cb (w3.setRow r (vc x).toArray) q [.int .i64 0, .int .i64 0] 42 ∧ Cb (w3.setRow r (vc x).toArray) r (vc x) 42) := ⟨rowed_below H4.out.1 (Nat.le_refl _) H1.out.2.2.2.2.1 _, H4.out.2.1.rowed_other H1.out.2.2.2.1 _, H4.out.2.2.rowed _⟩
        clear d0 d1 h0
        generalize w3.setRow r (vc x).toArray = w5 at *
        go_roundw
        case rel => exact ⟨k + 1, by have := HK.out; have := H0.out.1; omega, by rw [← HK.out]; go_num, H5.out.1, H5.out.2.1, by rw [HE.out]; exact H5.out.2.2⟩
        case measure => simp [intOf]; have := HK.out; omega
      · have HE : Hid (Pn.least v0 (l.take (k + 1)) = m) := (show _ = _ by rw [HX.out, if_neg (fun e => h0 (H3.out.2.2 e))])
        go_wp2
        go_roundw
        case rel => exact ⟨k + 1, by have := HK.out; have := H0.out.1; omega, by rw [← HK.out]; go_num, H4.out.1, H4.out.2.1, by rw [HE.out]; exact H4.out.2.2⟩
        case measure => simp [intOf]; have := HK.out; omega
    · have hlt' : ¬ (k : Int) + 1 < (N : Int) := by omega
      have HE : Hid (m = Pn.least v0 l) := (show _ = _ by rw [HW.out.2.2.2, List.take_of_length_le (by have := H0.out.1; omega)])
      have hm0 := HW.out.2.2.1.cell 0
      have hm1 := HW.out.2.2.1.cell 1
      simp only [vc, List.getElem?_cons_zero, List.getElem?_cons_succ] at hm0 hm1
      go_wp2_with (refine wpList_store_row rfl 42 _ _ rfl q (vc m).toArray rfl rfl 42 _ HW.out.2.1 (by kernel_rfl) rfl (by kernel_rfl) ?_)
      have H5 : Hid (Below w.heap.size w (wr.setRow q (vc m).toArray) ∧ Cb (wr.setRow q (vc m).toArray) q (vc m) 42) := ⟨rowed_below HW.out.1 (Nat.le_refl _) H1.out.2.2.2.2.2 _, HW.out.2.1.rowed _⟩
      clear hm0 hm1
      generalize wr.setRow q (vc m).toArray = w5 at *
      refine bodyPost_ret (v := .agg (vc m).toArray) ?_ rfl ⟨by rw [← HE.out]; rfl, H5.out.1⟩
      exact (results_cell19 (p := 4) rfl _ _ q 42 _ (0, 0) _ rfl H5.out.2 Tryz.underlying42 rfl (by kernel_rfl)).trans rfl

theorem Pn.against_snoc (pl : List (List Int)) : ∀ (i : Nat) (vs : List Pn.V) (v : Pn.V), Pn.against pl i (vs ++ [v]) = Pn.against pl i vs ++ if v.err = 0 then [] else [⟨v.err, Pn.place pl (i + vs.length) v.at_⟩]
  | i, [], v => by
    simp only [List.nil_append, List.length_nil, Nat.add_zero]
    unfold Pn.against
    split <;> rfl
  | i, x :: vs, v => by
    have e : i + (vs.length + 1) = i + 1 + vs.length := by omega
    simp only [List.cons_append, List.length_cons]
    unfold Pn.against
    by_cases h : x.err = 0
    · rw [if_pos h, if_pos h, Pn.against_snoc pl (i + 1) vs v, e]
    · rw [if_neg h, if_neg h, Pn.against_snoc pl (i + 1) vs v, e]
      rfl
theorem Pn.against_len (pl : List (List Int)) : ∀ (i : Nat) (vs : List Pn.V), (Pn.against pl i vs).length ≤ vs.length
  | _, [] => Nat.le_refl _
  | i, x :: vs => by
    unfold Pn.against
    have := Pn.against_len pl (i + 1) vs
    split <;> simp <;> omega
set_option maxRecDepth 20000 in
set_option maxHeartbeats 8000000 in
theorem verdict_any19 (p : Pn.St) (u a b v : Value) (vs : List Pn.V) (w : World) (h : Pv w p u a b) (ok : Pn.Ok p) (hv : KV.At w v vs) (hl : vs.length ≤ 1000) :
    Calls Tryz.prog 11 #[pv p u a b, v] w fun e w' => e = .returned (.tuple #[.int .i64 (Pn.verdict p vs).1, .int .i64 (Pn.verdict p vs).2]) ∧ Below w.heap.size w w' := by
  obtain ⟨_, ⟨ax, ac, rfl⟩, _⟩ := h.forms
  obtain ⟨NS, hNS⟩ : ∃ N, N = p.sh.length := ⟨_, rfl⟩
  rw [← hNS] at h ⊢
  obtain ⟨vx, vc', rfl, _, _⟩ := hv.form
  obtain ⟨N, hN⟩ : ∃ N, N = vs.length := ⟨_, rfl⟩
  rw [← hN] at hv ⊢
  have H : Hid (Pv w p u (.slice ax NS ac) b ∧ Pn.Ok p ∧ KV.At w (.slice vx N vc') vs ∧ N = vs.length ∧ NS = p.sh.length) := ⟨h, ok, hv, hN, hNS⟩
  have hN1 : N ≤ 1000 := by omega
  clear h ok hv hl hN hNS
  unfold pv
  obtain ⟨q, hq⟩ : ∃ q, q = w.heap.size := ⟨_, rfl⟩
  have H0 : Hid (Below w.heap.size w (w.alloc (.cells #[.int .i64 p.s, .int .i64 p.n, u, .slice ax NS ac, b] 33)) ∧ Cb (w.alloc (.cells #[.int .i64 p.s, .int .i64 p.n, u, .slice ax NS ac, b] 33)) q [.int .i64 p.s, .int .i64 p.n, u, .slice ax NS ac, b] 33) := by
    rw [hq]
    exact ⟨(Below.refl _ w).alloc (Nat.le_refl _) _, Cb.made w [.int .i64 p.s, .int .i64 p.n, u, .slice ax NS ac, b] _⟩
  go_enter Tryz.func11, Tryz.ntmps11
  by_cases hne : N = NS
  · have hb0 : ((N : Int) != (NS : Int)) = false := by simp [hne]
    have HE : Hid (Pn.verdict p vs = Pn.told (Pn.against p.pl 0 vs)) := (show _ = _ by unfold Pn.verdict; rw [if_pos (by rw [← H.out.2.2.2.1, ← H.out.2.2.2.2]; exact hne)])
    clear hne
    go_wp2
    rw [← hq]
    clear hq hb0
    generalize (w.alloc (.cells #[.int .i64 p.s, .int .i64 p.n, u, .slice ax NS ac, b] 33)) = w0 at *
    go_loopw [6, 18] (fun r i wx => ∃ k : Nat, k ≤ N ∧ i = .int .i64 (k : Int) ∧ wx.ownsRow w0.heap.size 42 2 r (Pn.against p.pl 0 (vs.take k)).length (KV.cs (Pn.against p.pl 0 (vs.take k))) ∧ Below w0.heap.size w0 wx) (fun _ i _ => N - (intOf i).toNat)
    case atStart => exact ⟨0, Nat.zero_le _, rfl, World.ownsRow_nil _ _ _ _, Below.refl _ _⟩
    case round =>
      obtain ⟨k, hk, rfl, hr, hb⟩ := hrel
      have HW : Hid (wr.ownsRow w0.heap.size 42 2 u6 (Pn.against p.pl 0 (vs.take k)).length (KV.cs (Pn.against p.pl 0 (vs.take k))) ∧ Below w0.heap.size w0 wr) := ⟨hr, hb⟩
      clear hr hb
      by_cases hlt : k < N
      · have hlt' : (k : Int) < (N : Int) := by omega
        have hk0 : (0 : Int) ≤ (k : Int) := by omega
        have hwk : IntKind.wrap .i64 ((k : Int) + 1) = (k : Int) + 1 := by rw [IntKind.wrap_i64]; omega
        obtain ⟨x, hx⟩ : ∃ x, vs[k]? = some x := ⟨vs[k]'(by have := H.out.2.2.2.1; omega), List.getElem?_eq_getElem _⟩
        obtain ⟨g, o, rfl, hc⟩ := ((H.out.2.2.1.below H0.out.1).below HW.out.2).at hx
        have d0 : wr.cell? ⟨g, o + k * 2, none⟩ = some (.int .i64 x.err) := hc 0 _ rfl
        have d1 : wr.cell? ⟨g, o + k * 2 + 1, none⟩ = some (.int .i64 x.at_) := hc 1 _ rfl
        have HS : Hid (Pn.against p.pl 0 (vs.take (k + 1)) = Pn.against p.pl 0 (vs.take k) ++ (if x.err = 0 then [] else [⟨x.err, Pn.place p.pl k x.at_⟩]) ∧ (Pn.against p.pl 0 (vs.take k)).length ≤ 1000) := by
          refine ⟨?_, ?_⟩
          · rw [List.take_add_one, hx]
            have h := Pn.against_snoc p.pl 0 (vs.take k) x
            rw [List.length_take, Nat.min_eq_left (by have := H.out.2.2.2.1; omega), Nat.zero_add] at h
            exact h
          · have h := Pn.against_len p.pl 0 (vs.take k)
            rw [List.length_take] at h
            omega
        clear hx hc
        obtain ⟨xb, hxb⟩ : ∃ z, z = wr.heap.size := ⟨_, rfl⟩
        have H2 : Hid (Below w0.heap.size w0 (wr.alloc (.cells #[.int .i64 x.err, .int .i64 x.at_] 42)) ∧ Cb (wr.alloc (.cells #[.int .i64 x.err, .int .i64 x.at_] 42)) xb (vc x) 42 ∧ (wr.alloc (.cells #[.int .i64 x.err, .int .i64 x.at_] 42)).ownsRow w0.heap.size 42 2 u6 (Pn.against p.pl 0 (vs.take k)).length (KV.cs (Pn.against p.pl 0 (vs.take k))) ∧ u6.ownBlock ≠ some xb) := by
          have hb2 := (Below.refl _ wr).alloc (Nat.le_refl _) (.cells #[.int .i64 x.err, .int .i64 x.at_] 42)
          rw [hxb]
          exact ⟨HW.out.2.trans (hb2.mono HW.out.2.size), Cb.made wr (vc x) _, HW.out.1.alloc _, fun e => by have := (HW.out.1.lt _ e).2; omega⟩
        by_cases he : x.err = 0
        · have hb0 : (x.err != 0) = false := by simp [he]
          have HE2 : Hid (Pn.against p.pl 0 (vs.take (k + 1)) = Pn.against p.pl 0 (vs.take k)) := (show _ = _ by rw [HS.out.1, if_pos he, List.append_nil])
          clear he
          go_upto_region 7 with fail
          rw [← hxb]
          clear hxb d0 d1
          generalize (wr.alloc (.cells #[.int .i64 x.err, .int .i64 x.at_] 42)) = w2 at *
          have d0 : w2.cell? ⟨xb, 0, none⟩ = some (.int .i64 x.err) := H2.out.2.1.cell 0
          go_wp2
          go_roundw
          case rel => exact ⟨k + 1, by omega, by go_num, by rw [HE2.out]; exact H2.out.2.2.1, H2.out.1⟩
          case measure => simp [intOf]; omega
        · have hb0 : (x.err != 0) = true := by simp [he]
          obtain ⟨z, hz⟩ : ∃ z, z = Pn.place p.pl k x.at_ := ⟨_, rfl⟩
          have HE2 : Hid (Pn.against p.pl 0 (vs.take (k + 1)) = Pn.against p.pl 0 (vs.take k) ++ [⟨x.err, z⟩]) := (show _ = _ by rw [HS.out.1, if_neg he, hz])
          clear he
          go_upto_region 7 with fail
          rw [← hxb]
          clear hxb d0 d1
          generalize (wr.alloc (.cells #[.int .i64 x.err, .int .i64 x.at_] 42)) = w2 at *
          have d0 : w2.cell? ⟨xb, 0, none⟩ = some (.int .i64 x.err) := H2.out.2.1.cell 0
          go_upto_region 8 with fail
          refine wp_region_held_drew (S := fun w' => Below w0.heap.size w0 w' ∧ w'.cell? ⟨xb, 0, none⟩ = some (.int .i64 x.err) ∧ w'.cell? ⟨xb, 1, none⟩ = some (.int .i64 x.at_)) (by kernel_rfl) ⟨H2.out.1.drew, H2.out.2.1.cell 0, H2.out.2.1.cell 1⟩ (fun _ => ?_)
          have H3 : Hid (Below w0.heap.size w0 w2.drew ∧ Cb w2.drew xb (vc x) 42 ∧ w2.drew.ownsRow w0.heap.size 42 2 u6 (Pn.against p.pl 0 (vs.take k)).length (KV.cs (Pn.against p.pl 0 (vs.take k)))) := ⟨H2.out.1.drew, H2.out.2.1, H2.out.2.2.1⟩
          have hoff : u6.ownBlock ≠ some xb := H2.out.2.2.2
          clear d0 H2
          generalize w2.drew = w3 at *
          refine' take_at (i := 0) (d := 26) (v := _) rfl rfl (by kernel_rfl) (by kernel_rfl) (by kernel_rfl) (fun _ _ _ h => h) (Or.inl ⟨by rfl, ?h0⟩) (⟨H3.out.1, H3.out.2.1.cell 0, H3.out.2.1.cell 1⟩) ?_
          case h0 =>
            intro w hSw
            have t := H0.out.2.below hSw.1
            have t0 := t.cell 0
            have t1 := t.cell 1
            have t2 := t.cell 2
            have t3 := t.cell 3
            have t4 := t.cell 4
            have t5 := hSw.2.1
            have t6 := hSw.2.2
            simp only [List.getElem?_cons_zero, List.getElem?_cons_succ] at t0 t1 t2 t3 t4
            go_simp
            with_reducible rfl
          simp only [List.setIfInBounds_toArray, List.set_cons_zero, List.set_cons_succ]
          refine' take_at (i := 1) (d := 27) (v := _) rfl rfl (by kernel_rfl) (by kernel_rfl) (by kernel_rfl) (fun _ _ _ h => h) (Or.inl ⟨by rfl, ?h1⟩) (⟨H3.out.1, H3.out.2.1.cell 0, H3.out.2.1.cell 1⟩) ?_
          case h1 =>
            intro w hSw
            have t := H0.out.2.below hSw.1
            have t0 := t.cell 0
            have t1 := t.cell 1
            have t2 := t.cell 2
            have t3 := t.cell 3
            have t4 := t.cell 4
            have t5 := hSw.2.1
            have t6 := hSw.2.2
            simp only [List.getElem?_cons_zero, List.getElem?_cons_succ] at t0 t1 t2 t3 t4
            go_simp
            with_reducible rfl
          simp only [List.setIfInBounds_toArray, List.set_cons_zero, List.set_cons_succ]
          refine' take_at (i := 2) (d := 28) (v := _) rfl rfl (by kernel_rfl) (by kernel_rfl) (by kernel_rfl) (fun _ _ _ h => h) (Or.inl ⟨by rfl, ?h2⟩) (⟨H3.out.1, H3.out.2.1.cell 0, H3.out.2.1.cell 1⟩) ?_
          case h2 =>
            intro w hSw
            have t := H0.out.2.below hSw.1
            have t0 := t.cell 0
            have t1 := t.cell 1
            have t2 := t.cell 2
            have t3 := t.cell 3
            have t4 := t.cell 4
            have t5 := hSw.2.1
            have t6 := hSw.2.2
            simp only [List.getElem?_cons_zero, List.getElem?_cons_succ] at t0 t1 t2 t3 t4
            go_simp
            with_reducible rfl
          simp only [List.setIfInBounds_toArray, List.set_cons_zero, List.set_cons_succ]
          refine' take_at (i := 3) (d := 29) (v := _) rfl rfl (by kernel_rfl) (by kernel_rfl) (by kernel_rfl) (fun _ _ _ h => h) (Or.inl ⟨by rfl, ?h3⟩) (⟨H3.out.1, H3.out.2.1.cell 0, H3.out.2.1.cell 1⟩) ?_
          case h3 =>
            intro w hSw
            have t := H0.out.2.below hSw.1
            have t0 := t.cell 0
            have t1 := t.cell 1
            have t2 := t.cell 2
            have t3 := t.cell 3
            have t4 := t.cell 4
            have t5 := hSw.2.1
            have t6 := hSw.2.2
            simp only [List.getElem?_cons_zero, List.getElem?_cons_succ] at t0 t1 t2 t3 t4
            go_simp
            with_reducible rfl
          simp only [List.setIfInBounds_toArray, List.set_cons_zero, List.set_cons_succ]
          refine' take_at (i := 4) (d := 30) (v := _) rfl rfl (by kernel_rfl) (by kernel_rfl) (by kernel_rfl) (fun _ _ _ h => h) (Or.inl ⟨by rfl, ?h4⟩) (⟨H3.out.1, H3.out.2.1.cell 0, H3.out.2.1.cell 1⟩) ?_
          case h4 =>
            intro w hSw
            have t := H0.out.2.below hSw.1
            have t0 := t.cell 0
            have t1 := t.cell 1
            have t2 := t.cell 2
            have t3 := t.cell 3
            have t4 := t.cell 4
            have t5 := hSw.2.1
            have t6 := hSw.2.2
            simp only [List.getElem?_cons_zero, List.getElem?_cons_succ] at t0 t1 t2 t3 t4
            go_simp
            with_reducible rfl
          simp only [List.setIfInBounds_toArray, List.set_cons_zero, List.set_cons_succ]
          refine' take_at (i := 5) (d := 31) (v := _) rfl rfl (by kernel_rfl) (by kernel_rfl) (by kernel_rfl) (fun _ _ _ h => h) (Or.inl ⟨by rfl, ?h5⟩) (⟨H3.out.1, H3.out.2.1.cell 0, H3.out.2.1.cell 1⟩) ?_
          case h5 =>
            intro w hSw
            have t := H0.out.2.below hSw.1
            have t0 := t.cell 0
            have t1 := t.cell 1
            have t2 := t.cell 2
            have t3 := t.cell 3
            have t4 := t.cell 4
            have t5 := hSw.2.1
            have t6 := hSw.2.2
            simp only [List.getElem?_cons_zero, List.getElem?_cons_succ] at t0 t1 t2 t3 t4
            go_simp
            with_reducible rfl
          simp only [List.setIfInBounds_toArray, List.set_cons_zero, List.set_cons_succ]
          refine' take_at (i := 6) (d := 32) (v := _) rfl rfl (by kernel_rfl) (by kernel_rfl) (by kernel_rfl) (fun _ _ _ h => h) (Or.inl ⟨by rfl, ?h6⟩) (⟨H3.out.1, H3.out.2.1.cell 0, H3.out.2.1.cell 1⟩) ?_
          case h6 =>
            intro w hSw
            have t := H0.out.2.below hSw.1
            have t0 := t.cell 0
            have t1 := t.cell 1
            have t2 := t.cell 2
            have t3 := t.cell 3
            have t4 := t.cell 4
            have t5 := hSw.2.1
            have t6 := hSw.2.2
            simp only [List.getElem?_cons_zero, List.getElem?_cons_succ] at t0 t1 t2 t3 t4
            go_simp
            with_reducible rfl
          simp only [List.setIfInBounds_toArray, List.set_cons_zero, List.set_cons_succ]
          refine wpAnyH_ready (rs := [7]) (by kernel_rfl) (by simp) ?_
          refine AllReadyH.cons (o := _) rfl (fun KQ hKQ => ?_) AllReadyH.nil
          go_simp
          refine (place_any19 p u (.slice ax NS ac) b k x.at_ w3 ((H.out.1.below H0.out.1).below H3.out.1) H.out.2.1).mono ?_
          rintro e w4 ⟨rfl, hb⟩
          rw [← hz]
          have H4 : Hid (Below w0.heap.size w0 w4 ∧ Cb w4 xb (vc x) 42 ∧ w4.ownsRow w0.heap.size 42 2 u6 (Pn.against p.pl 0 (vs.take k)).length (KV.cs (Pn.against p.pl 0 (vs.take k)))) := ⟨H3.out.1.trans (hb.mono H3.out.1.size), H3.out.2.1.below hb, row_stays H3.out.2.2 fun j hj => hb.block j (H3.out.2.2.lt j hj).2⟩
          clear hb hz H3
          refine hKQ.out _ _ ⟨H4.out.1, H4.out.2.1.cell 0, H4.out.2.1.cell 1⟩ (fun _ => ?_)
          clear hKQ KQ
          refine' take_at (i := 8) (d := 34) (v := _) rfl rfl (by kernel_rfl) (by kernel_rfl) (by kernel_rfl) (fun _ _ _ h => h) (Or.inl ⟨by rfl, ?h8⟩) (⟨H4.out.1, H4.out.2.1.cell 0, H4.out.2.1.cell 1⟩) ?_
          case h8 =>
            intro w hSw
            go_simp
            with_reducible rfl
          simp only [List.setIfInBounds_toArray, List.set_cons_zero, List.set_cons_succ]
          refine wpAnyH_ready (rs := [9]) (by kernel_rfl) (by simp) ?_
          refine AllReadyH.cons (o := _) rfl (fun KQ hKQ => ?_) AllReadyH.nil
          go_simp
          obtain ⟨sb, hsb⟩ : ∃ s, s = w4.heap.size := ⟨_, rfl⟩
          rw [← hsb]
          have H5 : Hid (Below w0.heap.size w0 (w4.alloc (.cells #[.int .i64 x.err, .int .i64 z] 42)) ∧ Cb (w4.alloc (.cells #[.int .i64 x.err, .int .i64 z] 42)) xb (vc x) 42 ∧ (w4.alloc (.cells #[.int .i64 x.err, .int .i64 z] 42)).ownsRow w0.heap.size 42 2 u6 (Pn.against p.pl 0 (vs.take k)).length (KV.cs (Pn.against p.pl 0 (vs.take k))) ∧ Cb (w4.alloc (.cells #[.int .i64 x.err, .int .i64 z] 42)) sb (vc ⟨x.err, z⟩) 42) := by
            have hb2 := (Below.refl _ w4).alloc (Nat.le_refl _) (.cells #[.int .i64 x.err, .int .i64 z] 42)
            rw [hsb]
            exact ⟨H4.out.1.trans (hb2.mono H4.out.1.size), H4.out.2.1.below hb2, H4.out.2.2.alloc _, Cb.made w4 (vc ⟨x.err, z⟩) _⟩
          clear hsb H4
          generalize (w4.alloc (.cells #[.int .i64 x.err, .int .i64 z] 42)) = w5 at *
          refine hKQ.out _ _ ⟨H5.out.1, H5.out.2.1.cell 0, H5.out.2.1.cell 1⟩ (fun _ => ?_)
          clear hKQ KQ
          refine wpAnyH_ready (rs := [10]) (by kernel_rfl) (by simp) ?_
          refine AllReadyH.cons (o := _) rfl (fun KQ hKQ => ?_) AllReadyH.nil
          refine KV.ok.appD _ _ rfl 36 rfl w0.heap.size u6 (.slice (some ⟨sb, 0, none⟩) 1 1) (Pn.against p.pl 0 (vs.take k)) [⟨x.err, z⟩] w5 rfl rfl H5.out.2.2.1 H5.out.1.size (Kd.one_at H5.out.2.2.2) (KV.one _) (by have := HS.out.2; simp; omega) ?_
          intro v6 w6 hr6 hb6 hg6 _
          have H6 : Hid (w6.ownsRow w0.heap.size 42 2 v6 (Pn.against p.pl 0 (vs.take (k + 1))).length (KV.cs (Pn.against p.pl 0 (vs.take (k + 1)))) ∧ Below w0.heap.size w0 w6 ∧ Cb w6 xb (vc x) 42) := ⟨by rw [HE2.out]; exact hr6, H5.out.1.trans hb6, H5.out.2.1.keep (hg6.block xb H5.out.2.1.lt (fun e => hoff e.symm))⟩
          clear hr6 hb6 hg6 H5
          refine hKQ.out _ _ ⟨H6.out.2.1, H6.out.2.2.cell 0, H6.out.2.2.cell 1⟩ (fun _ => ?_)
          clear hKQ KQ
          refine' take_at (i := 11) (d := 6) (v := _) rfl rfl (by kernel_rfl) (by kernel_rfl) (by kernel_rfl) (fun _ _ _ h => h) (Or.inl ⟨by rfl, ?h11⟩) (⟨H6.out.2.1, H6.out.2.2.cell 0, H6.out.2.2.cell 1⟩) ?_
          case h11 =>
            intro w hSw
            go_simp
            with_reducible rfl
          simp only [List.setIfInBounds_toArray, List.set_cons_zero, List.set_cons_succ]
          refine wpAnyH_done (by kernel_rfl) ?_ _
          go_wp2
          go_roundw
          case rel => exact ⟨k + 1, by omega, by go_num, H6.out.1, H6.out.2.1⟩
          case measure => simp [intOf]; omega
      · have hlt' : ¬ (k : Int) < (N : Int) := by omega
        obtain ⟨ags, hags⟩ : ∃ l, l = Pn.against p.pl 0 vs := ⟨_, rfl⟩
        have HE2 : Hid (wr.ownsRow w0.heap.size 42 2 u6 ags.length (KV.cs ags) ∧ Below w.heap.size w wr ∧ Pn.verdict p vs = Pn.told ags ∧ ags.length ≤ 1000) := by
          have h := HW.out.1
          rw [List.take_of_length_le (by have := H.out.2.2.2.1; omega), ← hags] at h
          refine ⟨h, H0.out.1.trans (HW.out.2.mono H0.out.1.size), by rw [HE.out, hags], ?_⟩
          have h := Pn.against_len p.pl 0 vs
          rw [← hags] at h
          have := H.out.2.2.2.1
          omega
        clear hags HW HE
        cases ags with
        | nil =>
          obtain ⟨a2, c2, rfl, _, _⟩ := row_form HE2.out.1
          have HV : Hid (Pn.verdict p vs = (0, -1)) := HE2.out.2.2.1
          go_wp2
          go_ret2
          exact ⟨by rw [HV.out]; rfl, HE2.out.2.1⟩
        | cons x0 l =>
          obtain ⟨a2, c2, rfl, _, hp⟩ := row_form HE2.out.1
          obtain ⟨g2, rfl⟩ := hp (by simp)
          obtain ⟨M, hM⟩ : ∃ M, M = (x0 :: l).length := ⟨_, rfl⟩
          have HV : Hid (Pn.verdict p vs = ((Pn.least x0 l).err, (Pn.least x0 l).at_)) := HE2.out.2.2.1
          have HA : Hid (KV.At wr (.slice (some ⟨g2, 0, none⟩) M c2) (x0 :: l) ∧ M = l.length + 1 ∧ M ≤ 1000) := by
            have h := KV.ok.row HE2.out.1
            rw [← hM] at h
            exact ⟨h, hM, by rw [hM]; exact HE2.out.2.2.2⟩
          rw [← hM]
          have hM0 : ((M : Int) == 0) = false := by have := HA.out.2.1; simp; omega
          clear hM hp
          obtain ⟨m, hm⟩ : ∃ m, m = Pn.least x0 l := ⟨_, rfl⟩
          go_wp2_with fail
          refine (minF_any19 g2 0 M c2 x0 l wr HA.out.1 HA.out.2.1 HA.out.2.2).mono ?_
          rintro e w2 ⟨rfl, hb⟩
          rw [← hm]
          have H2 : Hid (Below w.heap.size w w2 ∧ Pn.verdict p vs = (m.err, m.at_)) := ⟨HE2.out.2.1.trans (hb.mono HE2.out.2.1.size), by rw [HV.out, hm]⟩
          clear hb hm
          obtain ⟨tb, htb⟩ : ∃ z, z = w2.heap.size := ⟨_, rfl⟩
          have H3 : Hid (Below w.heap.size w (w2.alloc (.cells #[.int .i64 m.err, .int .i64 m.at_] 42)) ∧ Cb (w2.alloc (.cells #[.int .i64 m.err, .int .i64 m.at_] 42)) tb (vc m) 42) := by
            have hb2 := (Below.refl _ w2).alloc (Nat.le_refl _) (.cells #[.int .i64 m.err, .int .i64 m.at_] 42)
            rw [htb]
            exact ⟨H2.out.1.trans (hb2.mono H2.out.1.size), Cb.made w2 (vc m) _⟩
          go_upto_region 13 with fail
          rw [← htb]
          clear htb
          generalize (w2.alloc (.cells #[.int .i64 m.err, .int .i64 m.at_] 42)) = w3 at *
          have d0 : w3.cell? ⟨tb, 0, none⟩ = some (.int .i64 m.err) := H3.out.2.cell 0
          have d1 : w3.cell? ⟨tb, 1, none⟩ = some (.int .i64 m.at_) := H3.out.2.cell 1
          go_quiet (fail)
          have H4 : Hid (Below w.heap.size w (w3.drewN nq)) := below_drewN H3.out.1 _
          generalize w3.drewN nq = w4 at *
          go_wp2
          go_ret2
          exact ⟨by rw [H2.out.2]; rfl, H4.out⟩
  · have hb0 : ((N : Int) != (NS : Int)) = true := by simp; omega
    have HE : Hid (Pn.verdict p vs = (1, -1)) := (show _ = _ by unfold Pn.verdict; rw [if_neg (by rw [← H.out.2.2.2.1, ← H.out.2.2.2.2]; exact hne)])
    clear hne
    go_wp2
    go_ret2
    exact ⟨by rw [HE.out]; rfl, H0.out.1⟩
end Go.Proofs.YtjimemnkmpapgaaGreatDoor
