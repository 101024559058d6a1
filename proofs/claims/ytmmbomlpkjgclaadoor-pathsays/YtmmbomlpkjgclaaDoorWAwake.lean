/- What the statements' first look answers: true. -/
import Derived.Test.YtmmbomlpkjgclaaDoorWNumber
namespace Go.Proofs.YtmmbomlpkjgclaaDoor
open Go.RowKit

theorem ba_of {x : ByteArray} {l : List UInt8} (h : x.data.toList = l) : x = ⟨l.toArray⟩ := by rw [← h]

theorem dig7 : Pl.dig10 7 = [48, 48, 48, 48, 48, 48, 48, 48, 48, 55] := by
  rw [Pl.dig10, Lib.decDigits_one (by decide)]; rfl

set_option maxHeartbeats 1000000 in
theorem awake_any (w : World) (hS : Std w) :
    Calls Tryd.prog 9 #[] w fun e w' => e = .returned (.bool true) ∧ Below w.heap.size w w' := by
  have HS : Hid (Std w) := hS
  clear hS
  go_enter Tryd.func9, Tryd.ntmps9
  go_wp2_with fail
  refine (number_any ⟨#[47, 97, 47, 98]⟩ 7 _ HS.out (by decide +kernel) (by decide) (by decide)).mono ?_
  rintro e w1 (⟨x, rfl, hx, _, hb1⟩ | ⟨_, hx, _⟩)
  case inr =>
    rw [show (7 : Int).toNat = 7 from rfl, dig7] at hx
    exact absurd hx (by decide +kernel)
  rw [show (7 : Int).toNat = 7 from rfl, dig7] at hx
  obtain rfl := ba_of hx
  clear hx
  have HB1 : Hid (Below w.heap.size w w1) := hb1
  have HS1 : Hid (Std w1) := HS.out.below hb1
  clear hb1
  go_wp2_with fail
  refine (parent_yes ⟨#[47, 97, 47, 98]⟩ _ HS1.out (by decide +kernel) (by decide +kernel)).mono ?_
  rintro e w2 ⟨x, rfl, hx, hb2⟩
  rw [show Pl.parent [47, 97, 47, 98] = [47, 97] by decide +kernel] at hx
  obtain rfl := ba_of hx
  clear hx
  have HB2 : Hid (Below w.heap.size w w2) := HB1.out.trans (hb2.mono HB1.out.size)
  have HS2 : Hid (Std w2) := HS1.out.below hb2
  clear hb2
  go_wp2_with fail
  refine (good_any ⟨#[47, 97]⟩ _ HS2.out (by decide)).mono ?_
  rintro e w3 ⟨rfl, hb3⟩
  rw [show Pl.goodB (⟨#[47, 97]⟩ : ByteArray).data.toList = true by decide +kernel]
  have HB3 : Hid (Below w.heap.size w w3) := HB2.out.trans (hb3.mono HB2.out.size)
  have HS3 : Hid (Std w3) := HS2.out.below hb3
  clear hb3
  go_wp2_with fail
  refine (top_any ⟨#[47, 97, 47, 98]⟩ _ HS3.out (by decide +kernel)).mono ?_
  rintro e w4 ⟨x, rfl, hx, hb4⟩
  rw [show Pl.top [47, 97, 47, 98] = [97] by decide +kernel] at hx
  obtain rfl := ba_of hx
  clear hx
  have HB4 : Hid (Below w.heap.size w w4) := HB3.out.trans (hb4.mono HB3.out.size)
  have HS4 : Hid (Std w4) := HS3.out.below hb4
  clear hb4
  go_wp2_with fail
  refine (name_any ⟨#[47, 97, 47, 98]⟩ _ HS4.out (by decide +kernel)).mono ?_
  rintro e w5 ⟨x, rfl, hx, hb5⟩
  rw [show Pl.name [47, 97, 47, 98] = [98] by decide +kernel] at hx
  obtain rfl := ba_of hx
  clear hx
  have HB5 : Hid (Below w.heap.size w w5) := HB4.out.trans (hb5.mono HB4.out.size)
  have HS5 : Hid (Std w5) := HS4.out.below hb5
  clear hb5
  go_wp2_with fail
  refine (within_any ⟨#[47, 97, 47, 98]⟩ ⟨#[47, 97]⟩ _ HS5.out (by decide) (by decide)).mono ?_
  rintro e w6 ⟨rfl, hb6⟩
  rw [show Pl.withinB (⟨#[47, 97, 47, 98]⟩ : ByteArray).data.toList (⟨#[47, 97]⟩ : ByteArray).data.toList = true by decide +kernel]
  have HB6 : Hid (Below w.heap.size w w6) := HB5.out.trans (hb6.mono HB5.out.size)
  clear hb6
  go_wp2
  go_ret
  exact ⟨rfl, HB6.out⟩
end Go.Proofs.YtmmbomlpkjgclaaDoor
