/- What the reference's Name, Top and Parent answer; and the program's and the reference's, for every text alike. -/
import Derived.Test.YtmmbomlpkjgclaaDoorRParts
namespace Go.Proofs.YtmmbomlpkjgclaaDoor
open Go.RowKit

theorem refParts_good (p : ByteArray) (w : World) (hg : Pl.goodB p.data.toList = true) :
    Calls Tryd.prog 20 #[.string p] w fun e w' => ∃ (g cap : Nat) (xs : List ByteArray), e = .returned (.slice (some ⟨g, 0, none⟩) xs.length cap) ∧ xs.length ≤ cap ∧ xs.map (·.data.toList) = Pl.parts p.data.toList ∧ Row w w' g xs := by
  have hsz := (Pl.good_parts hg).2.2
  rw [sz_list] at hsz
  refine (refParts_any p w (by unfold maxLen; show p.size ≤ 2 ^ 63 - 1; omega)).mono ?_
  rintro e w' (⟨_, h⟩ | ⟨h, _⟩)
  · exact h
  · rw [hg] at h; cases h

theorem refParts_bad (p : ByteArray) (w : World) (hp : p.size ≤ maxLen) (hg : Pl.goodB p.data.toList = false) :
    Calls Tryd.prog 20 #[.string p] w fun e w' => e = .returned (.slice none 0 0) ∧ Below w.heap.size w w' := by
  refine (refParts_any p w hp).mono ?_
  rintro e w' (⟨h, _⟩ | ⟨_, h⟩)
  · rw [hg] at h; cases h
  · exact h

set_option maxHeartbeats 400000 in
theorem refName_any (p : ByteArray) (w : World) (hg : Pl.goodB p.data.toList = true) :
    Calls Tryd.prog 22 #[.string p] w fun e w' => ∃ x : ByteArray, e = .returned (.string x) ∧ x.data.toList = Pl.name p.data.toList ∧ Below w.heap.size w w' := by
  have HG : Hid (Pl.goodB p.data.toList = true) := hg
  obtain ⟨nm, hnm⟩ : ∃ nm, nm = Pl.name p.data.toList := ⟨_, rfl⟩
  rw [← hnm]
  have HM : Hid (nm = Pl.name p.data.toList) := hnm
  clear hg hnm
  go_enter Tryd.func22, Tryd.ntmps22
  go_wp2_with fail
  refine (refParts_good p _ HG.out).mono ?_
  rintro e w1 ⟨g, cap, xs, rfl, hnc, hxs, hrow⟩
  have hn : 1 ≤ xs.length ∧ xs.length ≤ 8 := by
    have := parts_len HG.out
    rw [← hxs, List.length_map] at this
    exact this
  obtain ⟨k, hk⟩ : ∃ k, xs.length = k + 1 := ⟨xs.length - 1, by omega⟩
  have hc := row_at hrow k (by omega)
  have hx := last_at hxs hk
  obtain ⟨x, ex⟩ : ∃ x, x = xs[k]'(by omega) := ⟨_, rfl⟩
  rw [← ex] at hc hx
  have HX : Hid (x.data.toList = (Pl.parts p.data.toList).getLast?.getD []) := hx
  have HB : Hid (Below w.heap.size w w1) := hrow.below
  have hk8 : k ≤ 7 := by omega
  rw [hk] at hnc ⊢
  clear hxs hx ex hrow hn hk
  have h0 : (((k + 1 : Nat) : Int) == 0) = false := by rw [beq_eq_false_iff_ne]; omega
  go_wp2
  go_ret
  exact ⟨x, rfl, by rw [HX.out, HM.out]; rfl, HB.out⟩

set_option maxHeartbeats 400000 in
theorem refName_bad (p : ByteArray) (w : World) (hp : p.size ≤ maxLen) (hg : Pl.goodB p.data.toList = false) :
    Calls Tryd.prog 22 #[.string p] w fun e w' => e = .returned (.string ⟨#[]⟩) ∧ Below w.heap.size w w' := by
  have HP : Hid (p.size ≤ maxLen) := hp
  have HG : Hid (Pl.goodB p.data.toList = false) := hg
  clear hp hg
  go_enter Tryd.func22, Tryd.ntmps22
  go_wp2_with fail
  refine (refParts_bad p _ HP.out HG.out).mono ?_
  rintro e w1 ⟨rfl, hb⟩
  go_wp2
  go_ret
  exact ⟨rfl, hb⟩

set_option maxHeartbeats 400000 in
theorem refTop_any (p : ByteArray) (w : World) (hg : Pl.goodB p.data.toList = true) :
    Calls Tryd.prog 24 #[.string p] w fun e w' => ∃ x : ByteArray, e = .returned (.string x) ∧ x.data.toList = Pl.top p.data.toList ∧ Below w.heap.size w w' := by
  have HG : Hid (Pl.goodB p.data.toList = true) := hg
  obtain ⟨nm, hnm⟩ : ∃ nm, nm = Pl.top p.data.toList := ⟨_, rfl⟩
  rw [← hnm]
  have HM : Hid (nm = Pl.top p.data.toList) := hnm
  clear hg hnm
  go_enter Tryd.func24, Tryd.ntmps24
  go_wp2_with fail
  refine (refParts_good p _ HG.out).mono ?_
  rintro e w1 ⟨g, cap, xs, rfl, hnc, hxs, hrow⟩
  have hn : 1 ≤ xs.length ∧ xs.length ≤ 8 := by
    have := parts_len HG.out
    rw [← hxs, List.length_map] at this
    exact this
  obtain ⟨k, hk⟩ : ∃ k, xs.length = k + 1 := ⟨xs.length - 1, by omega⟩
  have hc := row_at hrow 0 (by omega)
  have hx := first_at hxs hk
  obtain ⟨x, ex⟩ : ∃ x, x = xs[0]'(by omega) := ⟨_, rfl⟩
  rw [← ex] at hc hx
  have HX : Hid (x.data.toList = (Pl.parts p.data.toList).head?.getD []) := hx
  have HB : Hid (Below w.heap.size w w1) := hrow.below
  have hk8 : k ≤ 7 := by omega
  rw [hk] at hnc ⊢
  clear hxs hx ex hrow hn hk
  have h0 : (((k + 1 : Nat) : Int) == 0) = false := by rw [beq_eq_false_iff_ne]; omega
  go_wp2
  go_ret
  exact ⟨x, rfl, by rw [HX.out, HM.out]; rfl, HB.out⟩

set_option maxHeartbeats 400000 in
theorem refTop_bad (p : ByteArray) (w : World) (hp : p.size ≤ maxLen) (hg : Pl.goodB p.data.toList = false) :
    Calls Tryd.prog 24 #[.string p] w fun e w' => e = .returned (.string ⟨#[]⟩) ∧ Below w.heap.size w w' := by
  have HP : Hid (p.size ≤ maxLen) := hp
  have HG : Hid (Pl.goodB p.data.toList = false) := hg
  clear hp hg
  go_enter Tryd.func24, Tryd.ntmps24
  go_wp2_with fail
  refine (refParts_bad p _ HP.out HG.out).mono ?_
  rintro e w1 ⟨rfl, hb⟩
  go_wp2
  go_ret
  exact ⟨rfl, hb⟩

set_option maxHeartbeats 400000 in
theorem refParent_yes (p : ByteArray) (w : World) (hg : Pl.goodB p.data.toList = true) (h2 : 2 ≤ (Pl.parts p.data.toList).length) :
    Calls Tryd.prog 16 #[.string p] w fun e w' => ∃ x : ByteArray, e = .returned (.tuple #[.string x, .bool true]) ∧ x.data.toList = Pl.parent p.data.toList ∧ Below w.heap.size w w' := by
  have HG : Hid (Pl.goodB p.data.toList = true) := hg
  have H2 : Hid (2 ≤ (Pl.parts p.data.toList).length) := h2
  obtain ⟨nm, hnm⟩ : ∃ nm, nm = Pl.parent p.data.toList := ⟨_, rfl⟩
  rw [← hnm]
  have HM : Hid (nm = Pl.parent p.data.toList) := hnm
  clear hg h2 hnm
  go_enter Tryd.func16, Tryd.ntmps16
  go_wp2_with fail
  refine (refParts_good p _ HG.out).mono ?_
  rintro e w1 ⟨g, cap, xs, rfl, hnc, hxs, hrow⟩
  have hl := parts_len HG.out
  have hl2 := H2.out
  rw [← hxs, List.length_map] at hl hl2
  obtain ⟨k, hk⟩ : ∃ k, xs.length = k + 1 := ⟨xs.length - 1, by omega⟩
  have hd : xs.dropLast.length = k := by rw [List.length_dropLast, hk]; rfl
  have HD : Hid (xs.dropLast.length = k) := hd
  have HDM : Hid (xs.dropLast.map (·.data.toList) = (Pl.parts p.data.toList).dropLast) := by
    show xs.dropLast.map (·.data.toList) = _
    rw [← hxs, List.map_dropLast]
  have HC : Hid (∀ (j : Nat) x, xs.dropLast[j]? = some x → w1.cell? ⟨g, 0 + j, none⟩ = some (.string x)) := by
    intro j x hx
    have hj : j < xs.dropLast.length := (List.getElem?_eq_some_iff.1 hx).1
    refine hrow.cells j x ?_
    rw [List.getElem?_dropLast] at hx
    split at hx
    · exact hx
    · cases hx
  have HL : Hid ((Pl.of (xs.dropLast.map (·.data.toList))).length ≤ 100000) := by
    show (Pl.of (xs.dropLast.map (·.data.toList))).length ≤ 100000
    rw [HDM.out]
    have h3 := Pl.parent_len HG.out
    have h4 := (Pl.good_parts HG.out).2.2
    show (Pl.parent p.data.toList).length ≤ 100000
    omega
  have HB : Hid (Below w.heap.size w w1) := hrow.below
  have hk1 : 1 ≤ k := by omega
  have hk8 : k ≤ 7 := by omega
  rw [hk] at hnc ⊢
  clear hl hl2 hxs hrow hk hd
  have hn2 : ¬ ((k + 1 : Nat) : Int) < 2 := by omega
  go_wp2_with fail
  rw [show k = xs.dropLast.length from HD.out.symm]
  refine (refOf_any xs.dropLast g 0 _ _ (by rw [HD.out]; omega) HL.out HC.out).mono ?_
  rintro e w' ⟨x, rfl, hx, hw⟩
  rw [hw]
  have HX : Hid (x.data.toList = Pl.of (xs.dropLast.map (·.data.toList))) := hx
  clear hx hw w'
  go_wp2
  go_ret2
  exact ⟨x, rfl, by rw [HX.out, HDM.out, HM.out]; rfl, HB.out⟩

set_option maxHeartbeats 400000 in
theorem refParent_no (p : ByteArray) (w : World) (hp : p.size ≤ maxLen) (h2 : (Pl.parts p.data.toList).length < 2) :
    Calls Tryd.prog 16 #[.string p] w fun e w' => e = .returned (.tuple #[.string ⟨#[]⟩, .bool false]) ∧ Below w.heap.size w w' := by
  have HP : Hid (p.size ≤ maxLen) := hp
  have H2 : Hid ((Pl.parts p.data.toList).length < 2) := h2
  clear hp h2
  go_enter Tryd.func16, Tryd.ntmps16
  go_wp2_with fail
  refine (refParts_any p _ HP.out).mono ?_
  rintro e w1 (⟨hg, g, cap, xs, rfl, _, hxs, hrow⟩ | ⟨hg, rfl, hb⟩)
  · have hl := H2.out
    rw [← hxs, List.length_map] at hl
    have hn' : (xs.length : Int) < 2 := by omega
    have HB : Hid (Below w.heap.size w w1) := hrow.below
    clear hg hxs hrow
    go_wp2
    go_ret2
    exact ⟨rfl, HB.out⟩
  · have HB : Hid (Below w.heap.size w w1) := hb
    clear hg hb
    go_wp2
    go_ret2
    exact ⟨rfl, HB.out⟩

end Go.Proofs.YtmmbomlpkjgclaaDoor
