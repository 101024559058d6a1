/- What the statements' own 'awake' answers, over what op's calls answer. -/
import Derived.Test.YtcpajjjkhikipaaGreatDoorSpecs5
namespace Go.Proofs.YtcpajjjkhikipaaGreatDoor
open Go.RowKit

set_option maxRecDepth 20000 in
set_option maxHeartbeats 2000000 in
theorem awake_any5 (hs : Specs) (w : World) (hS : Pa.Std w) : Calls Tryz.prog 7 #[] w fun e w' => e = .returned (.bool true) ∧ Below w.heap.size w w' := by
  have HS : Hid Specs := hs
  have HW : Hid (Pa.Std w) := hS
  clear hs hS
  have HOL : Hid (Ol (w.alloc (.cells #[.int .i64 3, .string ⟨#[47, 97]⟩, .string ⟨#[120]⟩, .int .i64 (-1), .int .i64 0] 24)) (.slice (some ⟨w.heap.size, 0, none⟩) 1 1) [o0]) := Ol.one w o0 _
  go_enter Tryz.func7, Tryz.ntmps7
  go_wp2_with fail
  have HB2 : Hid (Below w.heap.size w ((w.alloc (.cells #[.int .i64 3, .string ⟨#[47, 97]⟩, .string ⟨#[120]⟩, .int .i64 (-1), .int .i64 0] 24)).alloc (.cells #[.int .i64 1, .int .i64 2, .slice (some ⟨w.heap.size, 0, none⟩) 1 1] 31))) := ((Below.refl _ w).alloc (Nat.le_refl _) _).alloc (by simp) _
  have HX2 : Hid (Box3 ((w.alloc (.cells #[.int .i64 3, .string ⟨#[47, 97]⟩, .string ⟨#[120]⟩, .int .i64 (-1), .int .i64 0] 24)).alloc (.cells #[.int .i64 1, .int .i64 2, .slice (some ⟨w.heap.size, 0, none⟩) 1 1] 31)) (w.heap.size + 1) 1 2 (.slice (some ⟨w.heap.size, 0, none⟩) 1 1)) := by
    have h := Box3.made (w.alloc (.cells #[.int .i64 3, .string ⟨#[47, 97]⟩, .string ⟨#[120]⟩, .int .i64 (-1), .int .i64 0] 24)) 1 2 (.slice (some ⟨w.heap.size, 0, none⟩) 1 1) 31
    rw [World.size_alloc] at h
    exact h
  have HO2 : Hid (Ol ((w.alloc (.cells #[.int .i64 3, .string ⟨#[47, 97]⟩, .string ⟨#[120]⟩, .int .i64 (-1), .int .i64 0] 24)).alloc (.cells #[.int .i64 1, .int .i64 2, .slice (some ⟨w.heap.size, 0, none⟩) 1 1] 31)) (.slice (some ⟨w.heap.size, 0, none⟩) 1 1) [o0]) := HOL.out.below ((Below.refl _ _).alloc (Nat.le_refl _) _)
  generalize (w.alloc (.cells #[.int .i64 3, .string ⟨#[47, 97]⟩, .string ⟨#[120]⟩, .int .i64 (-1), .int .i64 0] 24)).alloc (.cells #[.int .i64 1, .int .i64 2, .slice (some ⟨w.heap.size, 0, none⟩) 1 1] 31) = w2 at *
  have HF0 : Hid (∀ o ∈ [o0], Fit o) := fun o ho => by
    simp at ho
    subst ho
    exact fit0
  refine (HS.out.put 1 2 _ [o0] _ (HW.out.below HB2.out) HO2.out (by decide) HF0.out).mono ?_
  rintro e w3 ⟨v3, rfl, hbs, hb⟩
  have HV3 : Hid (Bs w3 v3 (Oq.bytes 1 2 [o0])) := by
    have h := hbs
    unfold Oq.put at h
    rw [if_pos may0] at h
    exact h
  have HB3 : Hid (Below w.heap.size w w3) := HB2.out.trans (hb.mono HB2.out.size)
  have HO3 : Hid (Ol w3 (.slice (some ⟨w.heap.size, 0, none⟩) 1 1) [o0]) := HO2.out.below hb
  have HX3 : Hid (Box3 w3 (w.heap.size + 1) 1 2 (.slice (some ⟨w.heap.size, 0, none⟩) 1 1)) := HX2.out.below hb
  clear hbs hb
  go_wp2_with fail
  refine (HS.out.get v3 _ _ (HW.out.below HB3.out) HV3.out (by decide +kernel)).mono ?_
  rintro e w4 ⟨hb, hcase⟩
  have HB4 : Hid (Below w.heap.size w w4) := HB3.out.trans (hb.mono HB3.out.size)
  have HO4 : Hid (Ol w4 (.slice (some ⟨w.heap.size, 0, none⟩) 1 1) [o0]) := HO3.out.below hb
  have HX4 : Hid (Box3 w4 (w.heap.size + 1) 1 2 (.slice (some ⟨w.heap.size, 0, none⟩) 1 1)) := HX3.out.below hb
  obtain ⟨u4, rfl, hu4⟩ : ∃ u4, e = .returned (.tuple #[.agg #[.int .i64 1, .int .i64 2, u4], .int .i64 0]) ∧ Ol w4 u4 [o0] := by
    rcases hcase with ⟨s, n, u, os, he, hu, his⟩ | ⟨_, _, _, hno⟩
    · obtain ⟨rfl, rfl, rfl⟩ := is_inj his is0
      exact ⟨u, he, hu⟩
    · exact absurd is0 (hno _ _ _)
  have HU4 : Hid (Ol w4 u4 [o0]) := hu4
  clear hb hcase hu4
  obtain ⟨a4, m4, c4, rfl, hm5, hq4⟩ := HU4.out
  have hm4 : m4 = 1 := hm5
  clear hq4 hm5
  subst hm4
  have hal : Below w4.heap.size w4 (w4.alloc (.cells #[.int .i64 1, .int .i64 2, .slice a4 1 c4] 31)) := (Below.refl _ w4).alloc (Nat.le_refl _) _
  have HB5 : Hid (Below w.heap.size w (w4.alloc (.cells #[.int .i64 1, .int .i64 2, .slice a4 1 c4] 31))) := HB4.out.trans (hal.mono HB4.out.size)
  have HO5 : Hid (Ol (w4.alloc (.cells #[.int .i64 1, .int .i64 2, .slice a4 1 c4] 31)) (.slice (some ⟨w.heap.size, 0, none⟩) 1 1) [o0]) := HO4.out.below hal
  have HX5 : Hid (Box3 (w4.alloc (.cells #[.int .i64 1, .int .i64 2, .slice a4 1 c4] 31)) (w.heap.size + 1) 1 2 (.slice (some ⟨w.heap.size, 0, none⟩) 1 1)) := HX4.out.below hal
  have HU5 : Hid (Ol (w4.alloc (.cells #[.int .i64 1, .int .i64 2, .slice a4 1 c4] 31)) (.slice a4 1 c4) [o0]) := HU4.out.below hal
  have HY5 : Hid (Box3 (w4.alloc (.cells #[.int .i64 1, .int .i64 2, .slice a4 1 c4] 31)) w4.heap.size 1 2 (.slice a4 1 c4)) := Box3.made w4 1 2 _ _
  clear hal
  go_wp2_with fail
  obtain ⟨q4, hq4⟩ : ∃ q4, q4 = w4.heap.size := ⟨_, rfl⟩
  rw [← hq4] at HY5 ⊢
  clear hq4
  generalize w4.alloc (.cells #[.int .i64 1, .int .i64 2, .slice a4 1 c4] 31) = w5 at *
  refine (HS.out.good o1 _ (HW.out.below HB5.out) fit1).mono ?_
  rintro e w6 ⟨rfl, hb⟩
  rw [good1]
  have HB6 : Hid (Below w.heap.size w w6) := HB5.out.trans (hb.mono HB5.out.size)
  have HO6 : Hid (Ol w6 (.slice (some ⟨w.heap.size, 0, none⟩) 1 1) [o0] ∧ Ol w6 (.slice a4 1 c4) [o0]) := ⟨HO5.out.below hb, HU5.out.below hb⟩
  have HX6 : Hid (Box3 w6 (w.heap.size + 1) 1 2 (.slice (some ⟨w.heap.size, 0, none⟩) 1 1) ∧ Box3 w6 q4 1 2 (.slice a4 1 c4)) := ⟨HX5.out.below hb, HY5.out.below hb⟩
  clear hb
  obtain ⟨x0, x1, x2⟩ := HX6.out.1
  go_wp2_with fail
  refine (HS.out.may 1 2 _ [o0] _ (HW.out.below HB6.out) HO6.out.1 (by decide) HF0.out).mono ?_
  rintro e w7 ⟨rfl, hb⟩
  rw [may0]
  have HB7 : Hid (Below w.heap.size w w7) := HB6.out.trans (hb.mono HB6.out.size)
  have HO7 : Hid (Ol w7 (.slice (some ⟨w.heap.size, 0, none⟩) 1 1) [o0] ∧ Ol w7 (.slice a4 1 c4) [o0]) := ⟨HO6.out.1.below hb, HO6.out.2.below hb⟩
  have HX7 : Hid (Box3 w7 (w.heap.size + 1) 1 2 (.slice (some ⟨w.heap.size, 0, none⟩) 1 1) ∧ Box3 w7 q4 1 2 (.slice a4 1 c4)) := ⟨HX6.out.1.below hb, HX6.out.2.below hb⟩
  clear hb x0 x1 x2
  obtain ⟨x0, x1, x2⟩ := HX7.out.1
  obtain ⟨y0, y1, y2⟩ := HX7.out.2
  go_wp2_with fail
  refine (HS.out.same 1 2 1 2 _ _ [o0] [o0] _ HO7.out.2 HO7.out.1 (by decide) (by decide)).mono ?_
  rintro e w8 ⟨R, rfl, hR, hb⟩
  have hR1 : R = true := hR.2 ⟨rfl, rfl, rfl⟩
  subst hR1
  have HB8 : Hid (Below w.heap.size w w8) := HB7.out.trans (hb.mono HB7.out.size)
  have HO8 : Hid (Ol w8 (.slice (some ⟨w.heap.size, 0, none⟩) 1 1) [o0]) := HO7.out.1.below hb
  have HX8 : Hid (Box3 w8 (w.heap.size + 1) 1 2 (.slice (some ⟨w.heap.size, 0, none⟩) 1 1)) := HX7.out.1.below hb
  clear hb hR x0 x1 x2 y0 y1 y2
  obtain ⟨x0, x1, x2⟩ := HX8.out
  go_wp2_with fail
  refine (HS.out.writes 1 2 _ [o0] _ HO8.out (by decide)).mono ?_
  rintro e w9 ⟨rfl, hb⟩
  rw [writes0]
  have HB9 : Hid (Below w.heap.size w w9) := HB8.out.trans (hb.mono HB8.out.size)
  clear hb x0 x1 x2
  go_wp2
  go_ret
  exact ⟨rfl, HB9.out⟩
end Go.Proofs.YtcpajjjkhikipaaGreatDoor
