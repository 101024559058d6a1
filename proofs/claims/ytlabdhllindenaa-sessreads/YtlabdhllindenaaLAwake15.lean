/- What the statements' own ids and awake answer. -/
import Derived.Test.YtlabdhllindenaaSpecs15
import Derived.Test.YtlabdhllindenaaTakeAt
import Derived.BigQuiet
import Derived.Deep.DeepCutAuto
namespace Go.Proofs.Ytlabdhllindenaa
open Go.RowKit

theorem Bi.at15 {w : World} {av : Option Addr} {k c j : Nat} {zs : List Int} {z : Int} (h : Bi w (.slice av k c) zs) (hz : zs[j]? = some z) : ∃ g o, av = some ⟨g, o, none⟩ ∧ w.cell? ⟨g, o + j, none⟩ = some (.int .i64 z) := by
  obtain ⟨av', k', c', hv, hk, hc⟩ := h
  simp only [Value.slice.injEq] at hv
  obtain ⟨rfl, rfl, rfl⟩ := hv
  exact hc j z hz
theorem Bi.len15 {w : World} {av : Option Addr} {k c : Nat} {zs : List Int} (h : Bi w (.slice av k c) zs) : k = zs.length := by
  obtain ⟨av', k', c', hv, hk, hc⟩ := h
  simp only [Value.slice.injEq] at hv
  obtain ⟨rfl, rfl, rfl⟩ := hv
  exact hk
set_option maxRecDepth 20000 in
set_option maxHeartbeats 4000000 in
/-- Are lists of numbers alike? -/
theorem ids_any15 (u v : Value) (xs ys : List Int) (w : World) (hu : Bi w u xs) (hv : Bi w v ys) (hl : xs.length ≤ 1000) :
    Calls Try.prog 21 #[u, v] w fun e w' => e = .returned (.bool (decide (xs = ys))) ∧ Below w.heap.size w w' := by
  obtain ⟨a, A, ca, rfl, hA, hca⟩ := hu
  obtain ⟨b, B, cb, rfl, hB, hcb⟩ := hv
  have H0 : Hid (A = xs.length ∧ B = ys.length ∧ Bi w (.slice a A ca) xs ∧ Bi w (.slice b B cb) ys) := ⟨hA, hB, ⟨a, A, ca, rfl, hA, hca⟩, ⟨b, B, cb, rfl, hB, hcb⟩⟩
  have hA1 : A ≤ 1000 := by omega
  clear hca hcb
  go_enter Try.func21, Try.ntmps21
  by_cases hAB : A = B
  · have hne : ((A : Int) != (B : Int)) = false := by simp [hAB]
    have HAB : Hid (A = B) := hAB
    clear hA hB hAB
    go_wp2
    go_loopw [5] (fun i wx => ∃ k : Nat, k ≤ A ∧ i = .int .i64 (k : Int) ∧ Below w.heap.size w wx ∧ xs.take k = ys.take k) (fun i _ => A - (intOf i).toNat)
    case atStart => exact ⟨0, Nat.zero_le _, rfl, Below.refl _ _, rfl⟩
    case round =>
      obtain ⟨k, hk, rfl, hbw, he⟩ := hrel
      have HE : Hid (xs.take k = ys.take k) := he
      have HW : Hid (Below w.heap.size w wr) := hbw
      clear he hbw
      by_cases hlt : k < A
      · have hlt' : (k : Int) < (A : Int) := by omega
        have hlt2 : (k : Int) < (B : Int) := by have := HAB.out; omega
        have hk0 : (0 : Int) ≤ (k : Int) := by omega
        have hwk : IntKind.wrap .i64 ((k : Int) + 1) = (k : Int) + 1 := by rw [IntKind.wrap_i64]; omega
        obtain ⟨x, hx⟩ : ∃ x, xs[k]? = some x := ⟨xs[k]'(by rw [← H0.out.1]; exact hlt), List.getElem?_eq_getElem _⟩
        obtain ⟨y, hy⟩ : ∃ y, ys[k]? = some y := ⟨ys[k]'(by rw [← H0.out.2.1, ← HAB.out]; exact hlt), List.getElem?_eq_getElem _⟩
        obtain ⟨g1, o1, rfl, c1⟩ := (H0.out.2.2.1.below HW.out).at15 hx
        obtain ⟨g2, o2, rfl, c2⟩ := (H0.out.2.2.2.below HW.out).at15 hy
        by_cases hxy : x = y
        · have hxb : (x != y) = false := by simp [hxy]
          have HN : Hid (xs.take (k + 1) = ys.take (k + 1)) := (show xs.take (k + 1) = ys.take (k + 1) by rw [List.take_add_one, List.take_add_one, HE.out, hx, hy, hxy])
          clear hx hy hxy
          go_upto_region 6 with fail
          go_quiet (fail)
          have HB2 : Hid (Below w.heap.size w (wr.drewN nq)) := below_drewN HW.out _
          go_wp2
          go_roundw
          case rel => exact ⟨k + 1, by omega, by go_num, HB2.out, HN.out⟩
          case measure => simp [intOf]; omega
        · have hxb : (x != y) = true := by simp [hxy]
          have HN : Hid (decide (xs = ys) = false) := (show decide (xs = ys) = false by
            apply decide_eq_false
            intro e
            rw [e, hy] at hx
            exact hxy (Option.some.inj hx).symm)
          clear hx hy hxy
          go_upto_region 6 with fail
          go_quiet (fail)
          have HB2 : Hid (Below w.heap.size w (wr.drewN nq)) := below_drewN HW.out _
          go_wp2
          go_ret
          exact ⟨by rw [HN.out]; rfl, HB2.out⟩
      · have hlt' : ¬ (k : Int) < (A : Int) := by omega
        obtain rfl : k = A := by omega
        have HN : Hid (decide (xs = ys) = true) := (show decide (xs = ys) = true by
          apply decide_eq_true
          have h1 := HE.out
          rw [List.take_of_length_le (by have := H0.out.1; omega), List.take_of_length_le (by have := H0.out.2.1; have := HAB.out; omega)] at h1
          exact h1)
        go_wp2
        go_ret
        exact ⟨by rw [HN.out]; rfl, HW.out⟩
  · have hne : ((A : Int) != (B : Int)) = true := by simp; omega
    have HN : Hid (decide (xs = ys) = false) := (show decide (xs = ys) = false by
      apply decide_eq_false
      intro e
      rw [e] at hA
      omega)
    clear hA hB hAB
    go_wp2
    go_ret
    exact ⟨by rw [HN.out]; rfl, Below.refl _ _⟩

set_option maxRecDepth 20000 in
set_option maxHeartbeats 4000000 in
theorem awake_any15 {LS : Rep15} (S : Specs15 LS) (W : World) :
    Calls Try.prog 10 #[] W fun e w' => e = .returned (.bool true) ∧ Below W.heap.size W w' := by
  have HS : Hid (Specs15 LS) := S
  clear S
  go_enter Try.func10, Try.ntmps10
  go_wp2_with fail
  refine (mine15_new HS.out (Below.refl _ W) 3 (by decide)).mono ?_
  rintro e w1 ⟨q, F1, rfl, hM⟩
  have M1 : Hid (Mine15 LS W w1 q 1 (Sq.new 3) F1) := hM
  clear hM
  go_wp2_with fail
  refine (M1.out.opn HS.out (by decide) 2 1 0 ⟨3, 0, 2, [⟨1, 2, 2⟩]⟩ (by kernel_rfl)).mono ?_
  rintro e w2 ⟨F2, rfl, hM, hmv⟩
  have M2 : Hid (Mine15 LS W w2 q 2 ⟨3, 0, 2, [⟨1, 2, 2⟩]⟩ F2) := hM
  clear hM hmv M1
  go_wp2_with fail
  refine (M2.out.tick HS.out (by decide) [] ⟨3, 1, 2, [⟨1, 2, 2⟩]⟩ (by kernel_rfl) (by kernel_rfl)).mono ?_
  rintro e w3 ⟨F3, va, rfl, hia, hoa, hM, hmv⟩
  have M3 : Hid (Mine15 LS W w3 q 3 ⟨3, 1, 2, [⟨1, 2, 2⟩]⟩ F3) := hM
  obtain ⟨a3, n3, c3, rfl, hn3, _⟩ := hia
  have j0 : n3 = 0 := hn3
  subst j0
  clear hM hmv M2 hoa hn3
  go_wp2_with fail
  refine (M3.out.tick HS.out (by decide) [1] ⟨3, 2, 2, []⟩ (by kernel_rfl) (by kernel_rfl)).mono ?_
  rintro e w4 ⟨F4, vb, rfl, hib, hob, hM, hmv⟩
  have M4 : Hid (Mine15 LS W w4 q 4 ⟨3, 2, 2, []⟩ F4 ∧ Bi w4 vb [1]) := ⟨hM, hib⟩
  obtain ⟨a4, n4, c4, rfl, hn4, _⟩ := hib
  clear hM hmv M3 hob hn4
  obtain ⟨nb, hnb⟩ : ∃ z, z = w4.heap.size := ⟨_, rfl⟩
  have H5 : Hid (Below w4.heap.size w4 (w4.alloc (.cells #[.int .i64 1] 2)) ∧ Bi (w4.alloc (.cells #[.int .i64 1] 2)) (.slice (some ⟨nb, 0, none⟩) 1 1) [1]) := by
    rw [hnb]
    refine ⟨(Below.refl _ w4).alloc (Nat.le_refl _) _, _, _, _, rfl, rfl, fun j z hz => ?_⟩
    match j, hz with
    | 0, hz => simp at hz; subst hz; exact ⟨w4.heap.size, 0, rfl, (Cb.made w4 [.int .i64 1] _).cell 0⟩
    | (j + 1), hz => simp at hz
  go_wp2_with fail
  rw [← hnb]
  clear hnb
  generalize (w4.alloc (.cells #[.int .i64 1] 2)) = w5 at *
  refine (ids_any15 _ _ [1] [1] w5 (M4.out.2.below H5.out.1) H5.out.2 (by decide)).mono ?_
  rintro e w55 ⟨rfl, hw⟩
  have hdt : decide (([1] : List Int) = [1]) = true := by decide
  rw [hdt]
  have M5 : Hid (Mine15 LS W w55 q 4 ⟨3, 2, 2, []⟩ F4) := (M4.out.1.later HS.out H5.out.1).later HS.out hw
  clear M4 H5 hdt hw
  go_wp2_with fail
  refine (M5.out.live HS.out 1 false (by kernel_rfl)).mono ?_
  rintro e w6 ⟨rfl, hM, hb⟩
  have M6 : Hid (Mine15 LS W w6 q 4 ⟨3, 2, 2, []⟩ F4) := hM
  clear hM hb M5
  go_wp2_with fail
  refine (M6.out.now HS.out 2 (by kernel_rfl)).mono ?_
  rintro e w7 ⟨rfl, hM, hb⟩
  have M7 : Hid (Mine15 LS W w7 q 4 ⟨3, 2, 2, []⟩ F4) := hM
  clear hM hb M6
  go_wp2
  go_ret
  exact ⟨rfl, M7.out.below⟩
end Go.Proofs.Ytlabdhllindenaa
