/- What path.Join answers. -/
import Derived.Test.YtjimemnkmpapgaaGreatDoorLibN
namespace Go.Proofs.YtjimemnkmpapgaaGreatDoor.Pa
open Go.RowKit

theorem goodNames_at (xs : List ByteArray) (b o c : Nat) (w : World) (hN : xs.length ≤ 140737488355328) (hcells : ∀ (j : Nat) x, xs[j]? = some x → w.cell? ⟨b, o + j, none⟩ = some (.string x)) (hsz : ∀ x ∈ xs, x.size ≤ maxLen) :
    Calls Tryz.prog 85 #[.slice (some ⟨b, o, none⟩) xs.length c] w fun e w' => e = .returned (.bool (Pl.namesB (xs.map (·.data.toList)))) ∧ w' = w := by
  by_cases h0 : xs.length = 0
  · have : xs = [] := List.length_eq_zero_iff.1 h0
    subst this
    exact goodNames_none _ c w
  · by_cases h8 : 8 < xs.length
    · rw [Pl.namesB_many (by simpa using h8)]
      exact goodNames_many _ _ c w h8 hN
    · exact goodNames_some xs b o c w (by omega) (by omega) hcells hsz

set_option maxRecDepth 20000 in
set_option maxHeartbeats 400000 in
theorem join_none (a : Option Addr) (c : Nat) (w : World) :
    Calls Tryz.prog 70 #[.slice a 0 c] w fun e w' => e = .returned (.tuple #[.string ⟨#[]⟩, .int .i64 1]) ∧ Below w.heap.size w w' := by
  go_enter Tryz.func70, Tryz.ntmps70
  go_wp2_with (go_at_call 85; refine (goodNames_none _ _ _).mono ?_; rintro e w' ⟨rfl, hw⟩; rw [hw]; clear hw w')
  go_ret2
  exact ⟨rfl, Below.refl _ _⟩

set_option maxRecDepth 20000 in
set_option maxHeartbeats 400000 in
theorem join_any (xs : List ByteArray) (b o c : Nat) (w : World) (hS : Std w) (hN : xs.length ≤ 140737488355328) (hbk : b < w.heap.size) (hcap : xs.length ≤ c)
    (hcells : ∀ (j : Nat) x, xs[j]? = some x → w.cell? ⟨b, o + j, none⟩ = some (.string x)) (hsz : ∀ x ∈ xs, x.size ≤ maxLen) :
    Calls Tryz.prog 70 #[.slice (some ⟨b, o, none⟩) xs.length c] w fun e w' =>
      (∃ x : ByteArray, e = .returned (.tuple #[.string x, .int .i64 0]) ∧ x.data.toList = Pl.of (xs.map (·.data.toList)) ∧ Pl.joinB (xs.map (·.data.toList)) = true ∧ Below w.heap.size w w') ∨
      (e = .returned (.tuple #[.string ⟨#[]⟩, .int .i64 1]) ∧ Pl.joinB (xs.map (·.data.toList)) = false ∧ Below w.heap.size w w') := by
  have HS : Hid (Std w) := hS
  have HC : Hid (∀ (j : Nat) x, xs[j]? = some x → w.cell? ⟨b, o + j, none⟩ = some (.string x)) := hcells
  have HZ : Hid (∀ x ∈ xs, x.size ≤ maxLen) := hsz
  obtain ⟨l, hl⟩ : ∃ l, l = xs.map (·.data.toList) := ⟨_, rfl⟩
  rw [← hl]
  have HL : Hid (l = xs.map (·.data.toList)) := hl
  clear hS hcells hsz hl
  cases hg : Pl.namesB l with
  | false =>
    have HG : Hid (Pl.namesB l = false) := hg
    clear hg
    go_enter Tryz.func70, Tryz.ntmps70
    go_wp2_with (go_at_call 85; refine (goodNames_at xs b o c _ hN HC.out HZ.out).mono ?_; rintro e w' ⟨rfl, hw⟩; rw [hw, ← HL.out, HG.out]; clear hw w')
    go_ret2
    exact Or.inr ⟨rfl, by rw [Pl.joinB, HG.out]; rfl, Below.refl _ _⟩
  | true =>
    have HG : Hid (Pl.namesB l = true) := hg
    obtain ⟨hj, hne, hn8⟩ := Pl.join_short hg
    have HJ : Hid (47 :: Lib.join l [47] = Pl.of l) := Pl.join_of l hne
    clear hg hne hn8
    go_enter Tryz.func70, Tryz.ntmps70
    go_wp2_with (go_at_call 85; refine (goodNames_at xs b o c _ hN HC.out HZ.out).mono ?_; rintro e w' ⟨rfl, hw⟩; rw [hw, ← HL.out, HG.out]; clear hw w')
    refine (Tryz.strings_Join b o c xs ⟨#[47]⟩ _ HC.out hbk hN hcap (by rw [← HL.out]; exact Nat.le_trans hj (by decide))).mono ?_
    rintro e w1 ⟨rfl, hb⟩
    rw [← HL.out]
    obtain ⟨y, hy⟩ : ∃ y : ByteArray, y = ⟨(Lib.join l (⟨#[47]⟩ : ByteArray).data.toList).toArray⟩ := ⟨_, rfl⟩
    rw [← hy]
    have hyd : y.data.toList = Lib.join l [47] := by rw [hy]
    have hys : y.size ≤ 328 := by rw [← sz_list, hyd]; exact hj
    have HY : Hid (y.data.toList = Lib.join l [47]) := hyd
    have HB : Hid (Below w.heap.size w w1) := hb
    have HS1 : Hid (Std w1) := HS.out.below hb
    clear hb hy hyd
    go_wp2_with fail
    have hdata : ((⟨#[47]⟩ : ByteArray) ++ y).data.toList = Pl.of l := by
      rw [data_append, HY.out, ← HJ.out]; rfl
    have HDA : Hid (((⟨#[47]⟩ : ByteArray) ++ y).data.toList = Pl.of l) := hdata
    have HZ2 : Hid (((⟨#[47]⟩ : ByteArray) ++ y).size ≤ maxLen) := by
      show ((⟨#[47]⟩ : ByteArray) ++ y).size ≤ 2 ^ 63 - 1
      rw [ByteArray.size_append]; show 1 + y.size ≤ _; omega
    clear hdata
    refine (good_any _ _ HS1.out HZ2.out).mono ?_
    rintro e w2 ⟨rfl, hb2⟩
    rw [HDA.out]
    have HB2 : Hid (Below w.heap.size w w2) := HB.out.trans (hb2.mono HB.out.size)
    clear hb2
    cases hg2 : Pl.goodB (Pl.of l) with
    | false =>
      have HG2 : Hid (Pl.goodB (Pl.of l) = false) := hg2
      clear hg2
      go_wp2
      go_ret2
      exact Or.inr ⟨rfl, by rw [Pl.joinB, HG2.out, HG.out]; rfl, HB2.out⟩
    | true =>
      have HG2 : Hid (Pl.goodB (Pl.of l) = true) := hg2
      clear hg2
      go_wp2
      go_ret2
      exact Or.inl ⟨_, rfl, HDA.out, by rw [Pl.joinB, HG2.out, HG.out]; rfl, HB2.out⟩
end Go.Proofs.YtjimemnkmpapgaaGreatDoor.Pa
