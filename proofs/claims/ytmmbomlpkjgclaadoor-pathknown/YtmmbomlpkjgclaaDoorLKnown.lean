/- The walk of the statement PathKnown: it answers true. -/
import Derived.Test.YtmmbomlpkjgclaaDoorWAwake
namespace Go.Proofs.YtmmbomlpkjgclaaDoor
open Go.RowKit

theorem row_lit (w : World) (xs : List ByteArray) : ∀ (j : Nat) x, xs[j]? = some x → (w.alloc (.cells (xs.map Value.string).toArray 9)).cell? ⟨w.heap.size, 0 + j, none⟩ = some (.string x) := by
  intro j x hx
  rw [Nat.zero_add]
  simp [World.cell?_alloc_new, hx]

set_option maxHeartbeats 2000000 in
theorem known_any (w : World) (hS : Std w) :
    Calls Tryd.prog 3 #[] w fun e w' => e = .returned (.bool true) ∧ Below w.heap.size w w' := by
  have HS : Hid (Std w) := hS
  clear hS
  go_enter Tryd.func3, Tryd.ntmps3
  go_wp2_with fail
  refine (awake_any _ HS.out).mono ?_
  rintro e w1 ⟨rfl, hb⟩
  have HB1 : Hid (Below w.heap.size w w1) := hb
  have HS1 : Hid (Std w1) := HS.out.below hb
  clear hb
  go_wp2_with fail
  refine (join_none none 0 _).mono ?_
  rintro e w2 ⟨rfl, hb⟩
  have HB2 : Hid (Below w.heap.size w w2) := HB1.out.trans (hb.mono HB1.out.size)
  have HS2 : Hid (Std w2) := HS1.out.below hb
  clear hb
  go_wp2_with fail
  have hb0 := (Below.refl w2.heap.size w2).alloc (Nat.le_refl _) (.cells #[.string ⟨#[97]⟩, .string ⟨#[]⟩] 9)
  have HS0 : Hid (Std (w2.alloc (.cells #[.string ⟨#[97]⟩, .string ⟨#[]⟩] 9))) := HS2.out.below hb0
  refine (join_any [⟨#[97]⟩, ⟨#[]⟩] w2.heap.size 0 2 (w2.alloc (.cells #[.string ⟨#[97]⟩, .string ⟨#[]⟩] 9)) HS0.out (by decide) (by simp) (by decide) (row_lit w2 [⟨#[97]⟩, ⟨#[]⟩]) (by decide)).mono ?_
  rintro e w3 (⟨_, _, _, hx, _⟩ | ⟨rfl, _, hb⟩)
  case inl => exact absurd hx (by decide +kernel)
  have HB3 : Hid (Below w.heap.size w w3) := HB2.out.trans ((hb0.trans (hb.mono (by simp))).mono HB2.out.size)
  have HS3 : Hid (Std w3) := HS0.out.below hb
  clear hb hb0 HS0
  go_wp2_with fail
  have hb0 := (Below.refl w3.heap.size w3).alloc (Nat.le_refl _) (.cells #[.string ⟨#[97, 47, 98]⟩] 9)
  have HS0 : Hid (Std (w3.alloc (.cells #[.string ⟨#[97, 47, 98]⟩] 9))) := HS3.out.below hb0
  refine (join_any [⟨#[97, 47, 98]⟩] w3.heap.size 0 1 (w3.alloc (.cells #[.string ⟨#[97, 47, 98]⟩] 9)) HS0.out (by decide) (by simp) (by decide) (row_lit w3 [⟨#[97, 47, 98]⟩]) (by decide)).mono ?_
  rintro e w4 (⟨_, _, _, hx, _⟩ | ⟨rfl, _, hb⟩)
  case inl => exact absurd hx (by decide +kernel)
  have HB4 : Hid (Below w.heap.size w w4) := HB3.out.trans ((hb0.trans (hb.mono (by simp))).mono HB3.out.size)
  have HS4 : Hid (Std w4) := HS0.out.below hb
  clear hb hb0 HS0
  go_wp2_with fail
  have hb0 := (Below.refl w4.heap.size w4).alloc (Nat.le_refl _) (.cells #[.string ⟨#[97]⟩, .string ⟨#[98]⟩] 9)
  have HS0 : Hid (Std (w4.alloc (.cells #[.string ⟨#[97]⟩, .string ⟨#[98]⟩] 9))) := HS4.out.below hb0
  refine (join_any [⟨#[97]⟩, ⟨#[98]⟩] w4.heap.size 0 2 (w4.alloc (.cells #[.string ⟨#[97]⟩, .string ⟨#[98]⟩] 9)) HS0.out (by decide) (by simp) (by decide) (row_lit w4 [⟨#[97]⟩, ⟨#[98]⟩]) (by decide)).mono ?_
  rintro e w5 (⟨x, rfl, hx, _, hb⟩ | ⟨_, hx, _⟩)
  case inr => exact absurd hx (by decide +kernel)
  rw [show Pl.of (([⟨#[97]⟩, ⟨#[98]⟩] : List ByteArray).map (·.data.toList)) = [47, 97, 47, 98] by decide +kernel] at hx
  obtain rfl := ba_of hx
  clear hx
  have HB5 : Hid (Below w.heap.size w w5) := HB4.out.trans ((hb0.trans (hb.mono (by simp))).mono HB4.out.size)
  have HS5 : Hid (Std w5) := HS0.out.below hb
  clear hb hb0 HS0
  go_wp2_with fail
  refine (number_no ⟨#[47, 97]⟩ (-1) _ HS5.out (by decide) (Or.inr (Or.inl (by decide)))).mono ?_
  rintro e w6 ⟨rfl, hb⟩
  have HB6 : Hid (Below w.heap.size w w6) := HB5.out.trans (hb.mono HB5.out.size)
  have HS6 : Hid (Std w6) := HS5.out.below hb
  clear hb
  go_wp2_with fail
  refine (parent_no ⟨#[47, 97]⟩ _ HS6.out (by decide) (by decide +kernel)).mono ?_
  rintro e w7 ⟨rfl, hb⟩
  have HB7 : Hid (Below w.heap.size w w7) := HB6.out.trans (hb.mono HB6.out.size)
  have HS7 : Hid (Std w7) := HS6.out.below hb
  clear hb
  go_wp2_with fail
  refine (good_any ⟨#[]⟩ _ HS7.out (by decide)).mono ?_
  rintro e w8 ⟨rfl, hb⟩
  rw [show Pl.goodB (⟨#[]⟩ : ByteArray).data.toList = false by decide +kernel]
  have HB8 : Hid (Below w.heap.size w w8) := HB7.out.trans (hb.mono HB7.out.size)
  have HS8 : Hid (Std w8) := HS7.out.below hb
  clear hb
  go_wp2_with fail
  refine (good_any ⟨#[47]⟩ _ HS8.out (by decide)).mono ?_
  rintro e w9 ⟨rfl, hb⟩
  rw [show Pl.goodB (⟨#[47]⟩ : ByteArray).data.toList = false by decide +kernel]
  have HB9 : Hid (Below w.heap.size w w9) := HB8.out.trans (hb.mono HB8.out.size)
  have HS9 : Hid (Std w9) := HS8.out.below hb
  clear hb
  go_wp2_with fail
  refine (good_any ⟨#[97]⟩ _ HS9.out (by decide)).mono ?_
  rintro e w10 ⟨rfl, hb⟩
  rw [show Pl.goodB (⟨#[97]⟩ : ByteArray).data.toList = false by decide +kernel]
  have HB10 : Hid (Below w.heap.size w w10) := HB9.out.trans (hb.mono HB9.out.size)
  have HS10 : Hid (Std w10) := HS9.out.below hb
  clear hb
  go_wp2_with fail
  refine (good_any ⟨#[47, 97, 47]⟩ _ HS10.out (by decide)).mono ?_
  rintro e w11 ⟨rfl, hb⟩
  rw [show Pl.goodB (⟨#[47, 97, 47]⟩ : ByteArray).data.toList = false by decide +kernel]
  have HB11 : Hid (Below w.heap.size w w11) := HB10.out.trans (hb.mono HB10.out.size)
  have HS11 : Hid (Std w11) := HS10.out.below hb
  clear hb
  go_wp2_with fail
  refine (good_any ⟨#[47, 97, 47, 47, 98]⟩ _ HS11.out (by decide)).mono ?_
  rintro e w12 ⟨rfl, hb⟩
  rw [show Pl.goodB (⟨#[47, 97, 47, 47, 98]⟩ : ByteArray).data.toList = false by decide +kernel]
  have HB12 : Hid (Below w.heap.size w w12) := HB11.out.trans (hb.mono HB11.out.size)
  have HS12 : Hid (Std w12) := HS11.out.below hb
  clear hb
  go_wp2_with fail
  refine (good_any ⟨#[47, 46, 47, 97]⟩ _ HS12.out (by decide)).mono ?_
  rintro e w13 ⟨rfl, hb⟩
  rw [show Pl.goodB (⟨#[47, 46, 47, 97]⟩ : ByteArray).data.toList = false by decide +kernel]
  have HB13 : Hid (Below w.heap.size w w13) := HB12.out.trans (hb.mono HB12.out.size)
  have HS13 : Hid (Std w13) := HS12.out.below hb
  clear hb
  go_wp2_with fail
  refine (good_any ⟨#[47, 97, 47, 46, 46]⟩ _ HS13.out (by decide)).mono ?_
  rintro e w14 ⟨rfl, hb⟩
  rw [show Pl.goodB (⟨#[47, 97, 47, 46, 46]⟩ : ByteArray).data.toList = false by decide +kernel]
  have HB14 : Hid (Below w.heap.size w w14) := HB13.out.trans (hb.mono HB13.out.size)
  have HS14 : Hid (Std w14) := HS13.out.below hb
  clear hb
  go_wp2_with fail
  refine (good_any ⟨#[47, 97, 32, 98]⟩ _ HS14.out (by decide)).mono ?_
  rintro e w15 ⟨rfl, hb⟩
  rw [show Pl.goodB (⟨#[47, 97, 32, 98]⟩ : ByteArray).data.toList = false by decide +kernel]
  have HB15 : Hid (Below w.heap.size w w15) := HB14.out.trans (hb.mono HB14.out.size)
  have HS15 : Hid (Std w15) := HS14.out.below hb
  clear hb
  go_wp2_with fail
  refine (good_any ⟨#[47, 46, 46, 46]⟩ _ HS15.out (by decide)).mono ?_
  rintro e w16 ⟨rfl, hb⟩
  rw [show Pl.goodB (⟨#[47, 46, 46, 46]⟩ : ByteArray).data.toList = true by decide +kernel]
  have HB16 : Hid (Below w.heap.size w w16) := HB15.out.trans (hb.mono HB15.out.size)
  have HS16 : Hid (Std w16) := HS15.out.below hb
  clear hb
  go_wp2_with fail
  refine (good_any ⟨#[47, 97, 47, 98, 47, 99, 47, 100, 47, 101, 47, 102, 47, 103, 47, 104, 47, 105]⟩ _ HS16.out (by decide)).mono ?_
  rintro e w17 ⟨rfl, hb⟩
  rw [show Pl.goodB (⟨#[47, 97, 47, 98, 47, 99, 47, 100, 47, 101, 47, 102, 47, 103, 47, 104, 47, 105]⟩ : ByteArray).data.toList = false by decide +kernel]
  have HB17 : Hid (Below w.heap.size w w17) := HB16.out.trans (hb.mono HB16.out.size)
  have HS17 : Hid (Std w17) := HS16.out.below hb
  clear hb
  go_wp2_with fail
  refine (parts_bad ⟨#[120]⟩ _ HS17.out (by decide) (by decide +kernel)).mono ?_
  rintro e w18 ⟨rfl, hb⟩
  have HB18 : Hid (Below w.heap.size w w18) := HB17.out.trans (hb.mono HB17.out.size)
  have HS18 : Hid (Std w18) := HS17.out.below hb
  clear hb
  go_wp2_with fail
  refine (within_any ⟨#[47, 97, 98]⟩ ⟨#[47, 97]⟩ _ HS18.out (by decide) (by decide)).mono ?_
  rintro e w19 ⟨rfl, hb⟩
  rw [show Pl.withinB (⟨#[47, 97, 98]⟩ : ByteArray).data.toList (⟨#[47, 97]⟩ : ByteArray).data.toList = false by decide +kernel]
  have HB19 : Hid (Below w.heap.size w w19) := HB18.out.trans (hb.mono HB18.out.size)
  have HS19 : Hid (Std w19) := HS18.out.below hb
  clear hb
  go_wp2_with fail
  refine (within_any ⟨#[47, 97]⟩ ⟨#[47, 97]⟩ _ HS19.out (by decide) (by decide)).mono ?_
  rintro e w20 ⟨rfl, hb⟩
  rw [show Pl.withinB (⟨#[47, 97]⟩ : ByteArray).data.toList (⟨#[47, 97]⟩ : ByteArray).data.toList = true by decide +kernel]
  have HB20 : Hid (Below w.heap.size w w20) := HB19.out.trans (hb.mono HB19.out.size)
  have HS20 : Hid (Std w20) := HS19.out.below hb
  clear hb
  go_wp2
  go_ret
  exact ⟨rfl, HB20.out⟩
end Go.Proofs.YtmmbomlpkjgclaaDoor
