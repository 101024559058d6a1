/- What the reference's Same and Within answer. -/
import Derived.Test.YtmmbomlpkjgclaaDoorRNameTop
namespace Go.Proofs.YtmmbomlpkjgclaaDoor
open Go.RowKit

set_option maxHeartbeats 400000 in
theorem same_nil (w : World) :
    Calls Tryd.prog 19 #[.slice none 0 0, .slice none 0 0] w fun e w' => e = .returned (.bool true) ∧ Below w.heap.size w w' := by
  go_enter Tryd.func19, Tryd.ntmps19
  go_wp2
  go_loop [5] (fun i => i = .int .i64 0) (fun _ => 0)
  case atStart => rfl
  case round =>
    obtain rfl := hrel
    go_wp2
    go_ret
    exact ⟨rfl, Below.refl _ _⟩

set_option maxHeartbeats 1000000 in
theorem same_rows (xs : List ByteArray) (g h c d : Nat) (w : World) (hn : xs.length ≤ 8) (hg : ∀ (j : Nat) x, xs[j]? = some x → w.cell? ⟨g, 0 + j, none⟩ = some (.string x)) (hh : ∀ (j : Nat) x, xs[j]? = some x → w.cell? ⟨h, 0 + j, none⟩ = some (.string x)) (hgl : g < w.heap.size) (hhl : h < w.heap.size) :
    Calls Tryd.prog 19 #[.slice (some ⟨g, 0, none⟩) xs.length c, .slice (some ⟨h, 0, none⟩) xs.length d] w fun e w' => e = .returned (.bool true) ∧ Below w.heap.size w w' := by
  have HG : Hid (∀ (j : Nat) x, xs[j]? = some x → w.cell? ⟨g, 0 + j, none⟩ = some (.string x)) := hg
  have HH : Hid (∀ (j : Nat) x, xs[j]? = some x → w.cell? ⟨h, 0 + j, none⟩ = some (.string x)) := hh
  have HGL : Hid (g < w.heap.size) := hgl
  have HHL : Hid (h < w.heap.size) := hhl
  obtain ⟨n, en⟩ : ∃ n, n = xs.length := ⟨_, rfl⟩
  have HN : Hid (n = xs.length) := en
  rw [← en] at hn ⊢
  clear hg hh en hgl hhl
  have hne : ((n : Int) != (n : Int)) = false := by simp
  go_enter Tryd.func19, Tryd.ntmps19
  go_wp2
  go_loopw [5] (fun i wr => ∃ k : Nat, k ≤ n ∧ i = .int .i64 k ∧ Below w.heap.size w wr) (fun i _ => n - (intOf i).toNat)
  case atStart => exact ⟨0, Nat.zero_le _, rfl, Below.refl _ _⟩
  case round =>
    obtain ⟨k, hk, rfl, hb⟩ := hrel
    have HB : Hid (Below w.heap.size w wr) := hb
    clear hb
    by_cases hlt : k < n
    · obtain ⟨x, hx⟩ : ∃ x, xs[k]? = some x := ⟨xs[k]'(by rw [← HN.out]; exact hlt), List.getElem?_eq_getElem _⟩
      have c1 : wr.cell? ⟨g, k, none⟩ = some (.string x) := by
        have h1 := HG.out k x hx
        rw [Nat.zero_add] at h1
        rw [HB.out.cell (p := ⟨g, k, none⟩) HGL.out]; exact h1
      have c2 : wr.cell? ⟨h, k, none⟩ = some (.string x) := by
        have h1 := HH.out k x hx
        rw [Nat.zero_add] at h1
        rw [HB.out.cell (p := ⟨h, k, none⟩) HHL.out]; exact h1
      clear hx
      have hlt' : (k : Int) < n := by omega
      have hk0 : (0 : Int) ≤ k := by omega
      go_wp2
      go_region
      go_wp2
      go_roundw
      case rel => exact ⟨k + 1, by omega, by go_num, HB.out.drew⟩
      case measure => simp [intOf]; omega
    · go_wp2
      go_ret
      exact ⟨rfl, HB.out⟩

set_option maxHeartbeats 1000000 in
theorem refWithin_any (p q : ByteArray) (w : World) (hp : p.size ≤ maxLen) (hq : q.size ≤ maxLen) :
    Calls Tryd.prog 25 #[.string p, .string q] w fun e w' => e = .returned (.bool (Pl.withinB p.data.toList q.data.toList)) ∧ Below w.heap.size w w' := by
  have HP : Hid (p.size ≤ maxLen) := hp
  have HQ : Hid (q.size ≤ maxLen) := hq
  obtain ⟨r, hr⟩ : ∃ r, r = Pl.withinB p.data.toList q.data.toList := ⟨_, rfl⟩
  rw [← hr]
  have HR : Hid (r = Pl.withinB p.data.toList q.data.toList) := hr
  clear hp hq hr
  go_enter Tryd.func25, Tryd.ntmps25
  go_wp2_with fail
  refine (refParts_any p _ HP.out).mono ?_
  rintro e w1 (⟨hg, g, cap, xs, rfl, _, hxs, hrow⟩ | ⟨hg, rfl, hb⟩)
  case inr =>
    have HB : Hid (Below w.heap.size w w1) := hb
    have HF : Hid (r = false) := by show r = false; rw [HR.out, Pl.withinB, hg]; rfl
    clear hb hg
    go_wp2_with fail
    refine (refParts_any q _ HQ.out).mono ?_
    rintro e w2 (⟨hg2, g2, cap2, ys, rfl, _, hys, hrow2⟩ | ⟨hg2, rfl, hb2⟩)
    · have HB2 : Hid (Below w.heap.size w w2) := HB.out.trans (hrow2.below.mono HB.out.size)
      clear hg2 hys hrow2
      go_wp2
      go_ret
      exact ⟨ret_bool HF.out.symm, HB2.out⟩
    · have HB2 : Hid (Below w.heap.size w w2) := HB.out.trans (hb2.mono HB.out.size)
      clear hg2 hb2
      go_wp2
      go_ret
      exact ⟨ret_bool HF.out.symm, HB2.out⟩
  have HG : Hid (Pl.goodB p.data.toList = true) := hg
  have hn := parts_len hg
  rw [← hxs, List.length_map] at hn
  obtain ⟨n, en⟩ : ∃ n, n = xs.length := ⟨_, rfl⟩
  rw [← en] at hn ⊢
  have HN : Hid (n = xs.length) := en
  have HX : Hid (xs.map (·.data.toList) = Pl.parts p.data.toList) := hxs
  have HRW : Hid (Row w w1 g xs) := hrow
  obtain ⟨hn1, hn8⟩ := hn
  have hn0 : ((n : Int) == 0) = false := by rw [beq_eq_false_iff_ne]; omega
  clear hg hxs hrow en
  go_wp2_with fail
  refine (refParts_any q _ HQ.out).mono ?_
  rintro e w2 (⟨hg2, g2, cap2, ys, rfl, _, hys, hrow2⟩ | ⟨hg2, rfl, hb2⟩)
  case inr =>
    have HB2 : Hid (Below w.heap.size w w2) := HRW.out.below.trans (hb2.mono HRW.out.below.size)
    have HF : Hid (r = false) := by show r = false; rw [HR.out, Pl.withinB, hg2, HG.out]; rfl
    clear hb2 hg2
    go_wp2
    go_ret
    exact ⟨ret_bool HF.out.symm, HB2.out⟩
  have HG2 : Hid (Pl.goodB q.data.toList = true) := hg2
  have hm := parts_len hg2
  rw [← hys, List.length_map] at hm
  obtain ⟨m, em⟩ : ∃ m, m = ys.length := ⟨_, rfl⟩
  rw [← em] at hm ⊢
  have HM : Hid (m = ys.length) := em
  have HY : Hid (ys.map (·.data.toList) = Pl.parts q.data.toList) := hys
  have HRW2 : Hid (Row w1 w2 g2 ys) := hrow2
  obtain ⟨hm1, hm8⟩ := hm
  have hm0 : ((m : Int) == 0) = false := by rw [beq_eq_false_iff_ne]; omega
  have HB2 : Hid (Below w.heap.size w w2) := HRW.out.below.trans (hrow2.below.mono HRW.out.below.size)
  have HI : Hid (r = true ↔ ys.map (·.data.toList) <+: xs.map (·.data.toList)) := by
    show r = true ↔ _
    rw [HR.out, Pl.within_iff HG.out hg2, HX.out, hys]
  have HC1 : Hid (∀ (j : Nat) x, xs[j]? = some x → w2.cell? ⟨g, j, none⟩ = some (.string x)) := by
    intro j x hx
    have h1 := HRW.out.cells j x hx
    rw [Nat.zero_add] at h1
    rw [hrow2.below.cell (p := ⟨g, j, none⟩) HRW.out.hi]; exact h1
  have HC2 : Hid (∀ (j : Nat) x, ys[j]? = some x → w2.cell? ⟨g2, j, none⟩ = some (.string x)) := by
    intro j x hx
    have h1 := hrow2.cells j x hx
    rwa [Nat.zero_add] at h1
  have HGL : Hid (g < w2.heap.size) := Nat.lt_of_lt_of_le HRW.out.hi hrow2.below.size
  have HHL : Hid (g2 < w2.heap.size) := hrow2.hi
  clear hg2 hys hrow2 em HRW HRW2
  by_cases hnm : (n : Int) < m
  · have HF : Hid (r = false) := by
      show r = false
      cases hrr : r with
      | false => rfl
      | true =>
        have h1 := (HI.out.1 hrr).length_le
        rw [List.length_map, List.length_map, ← HM.out, ← HN.out] at h1
        omega
    go_wp2
    go_ret
    exact ⟨ret_bool HF.out.symm, HB2.out⟩
  have hnm2 : decide (n < m) = false := decide_eq_false (by omega)
  go_wp2_with fail
  go_loopw [7] (fun i wr => ∃ k : Nat, k ≤ m ∧ i = .int .i64 k ∧ (ys.map (·.data.toList)).take k = (xs.map (·.data.toList)).take k ∧ Below w2.heap.size w2 wr) (fun i _ => m - (intOf i).toNat)
  case atStart => exact ⟨0, Nat.zero_le _, rfl, rfl, Below.refl _ _⟩
  case round =>
    obtain ⟨k, hk, rfl, hall, hb⟩ := hrel
    have HA : Hid ((ys.map (·.data.toList)).take k = (xs.map (·.data.toList)).take k) := hall
    have HBR : Hid (Below w2.heap.size w2 wr) := hb
    clear hall hb
    by_cases hlt : k < m
    · obtain ⟨x, hx⟩ : ∃ x, xs[k]? = some x := ⟨xs[k]'(by rw [← HN.out]; omega), List.getElem?_eq_getElem _⟩
      obtain ⟨y, hy⟩ : ∃ y, ys[k]? = some y := ⟨ys[k]'(by rw [← HM.out]; omega), List.getElem?_eq_getElem _⟩
      have c1 : wr.cell? ⟨g, k, none⟩ = some (.string x) := by
        rw [HBR.out.cell (p := ⟨g, k, none⟩) HGL.out]; exact HC1.out k x hx
      have c2 : wr.cell? ⟨g2, k, none⟩ = some (.string y) := by
        rw [HBR.out.cell (p := ⟨g2, k, none⟩) HHL.out]; exact HC2.out k y hy
      have HTX : Hid ((xs.map (·.data.toList)).take (k + 1) = (xs.map (·.data.toList)).take k ++ [x.data.toList]) := names_take xs k x hx
      have HTY : Hid ((ys.map (·.data.toList)).take (k + 1) = (ys.map (·.data.toList)).take k ++ [y.data.toList]) := names_take ys k y hy
      clear hx hy
      have hlt' : (k : Int) < m := by omega
      have hltn : (k : Int) < n := by omega
      have hk0 : (0 : Int) ≤ k := by omega
      cases hxy : x.toList == y.toList with
      | true =>
        have HE : Hid (x.data.toList = y.data.toList) := by
          show x.data.toList = y.data.toList
          rw [← Lib.toList_data, ← Lib.toList_data]; exact beq_iff_eq.1 hxy
        obtain rfl : x = y := ByteArray.ext (Array.toList_inj.1 HE.out)
        clear hxy
        go_wp2
        go_region
        go_wp2
        go_roundw
        case rel => exact ⟨k + 1, by omega, by go_num, by rw [HTX.out, HTY.out, HA.out], HBR.out.drew⟩
        case measure => simp [intOf]; omega
      | false =>
        have HNE : Hid (x.data.toList ≠ y.data.toList) := by
          intro e
          rw [beq_eq_false_iff_ne, Lib.toList_data, Lib.toList_data] at hxy
          exact hxy e
        have HF : Hid (r = false) := by
          show r = false
          cases hrr : r with
          | false => rfl
          | true =>
            obtain ⟨t, ht⟩ := HI.out.1 hrr
            have h1 : (ys.map (·.data.toList)).take (k + 1) = (xs.map (·.data.toList)).take (k + 1) := by
              rw [← ht, List.take_append_of_le_length (by rw [List.length_map, ← HM.out]; omega)]
            rw [HTX.out, HTY.out, HA.out] at h1
            exact absurd (List.singleton_inj.1 (List.append_cancel_left h1)).symm HNE.out
        go_wp2
        go_region
        go_wp2
        go_ret
        exact ⟨ret_bool HF.out.symm, HB2.out.trans (HBR.out.drew.mono HB2.out.size)⟩
    · have HT : Hid (r = true) := by
        show r = true
        refine HI.out.2 ?_
        have h1 := HA.out
        rw [List.take_of_length_le (by rw [List.length_map, ← HM.out]; omega)] at h1
        rw [h1]; exact List.take_prefix _ _
      go_wp2
      go_ret
      exact ⟨ret_bool HT.out.symm, HB2.out.trans (HBR.out.mono HB2.out.size)⟩
end Go.Proofs.YtmmbomlpkjgclaaDoor
