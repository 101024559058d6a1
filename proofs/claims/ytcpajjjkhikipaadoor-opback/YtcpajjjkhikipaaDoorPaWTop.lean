/- What path.Name, path.Top, path.Parent and path.Within answer. -/
import Derived.Test.YtcpajjjkhikipaaDoorPaWParts
namespace Go.Proofs.YtcpajjjkhikipaaDoor.Pa
open Go.RowKit

theorem row_at {w w' : World} {b : Nat} {xs : List ByteArray} (h : Row w w' b xs) (k : Nat) (hk : k < xs.length) : w'.cell? ⟨b, k, none⟩ = some (.string xs[k]) := by
  have := h.cells k xs[k] (List.getElem?_eq_getElem hk)
  rwa [Nat.zero_add] at this

theorem last_at {xs : List ByteArray} {l : List (List UInt8)} {k : Nat} (h : xs.map (·.data.toList) = l) (hk : xs.length = k + 1) : (xs[k]'(by omega)).data.toList = l.getLast?.getD [] := by
  subst h
  have e : (xs.map (·.data.toList)).length - 1 = k := by rw [List.length_map]; omega
  rw [List.getLast?_eq_getElem?, e]
  simp [List.getElem?_eq_getElem (show k < xs.length by omega)]

theorem first_at {xs : List ByteArray} {l : List (List UInt8)} {k : Nat} (h : xs.map (·.data.toList) = l) (hk : xs.length = k + 1) : (xs[0]'(by omega)).data.toList = l.head?.getD [] := by
  subst h
  rw [List.head?_eq_getElem?]
  simp [List.getElem?_eq_getElem (show 0 < xs.length by omega)]





set_option maxRecDepth 20000 in
set_option maxHeartbeats 400000 in
theorem parent_yes (p : ByteArray) (w : World) (hS : Std w) (hg : Pl.goodB p.data.toList = true) (h2 : 2 ≤ (Pl.parts p.data.toList).length) :
    Calls Tryd.prog 37 #[.string p] w fun e w' => ∃ x : ByteArray, e = .returned (.tuple #[.string x, .bool true]) ∧ x.data.toList = Pl.parent p.data.toList ∧ Below w.heap.size w w' := by
  have HS : Hid (Std w) := hS
  have HG : Hid (Pl.goodB p.data.toList = true) := hg
  obtain ⟨nm, hnm⟩ : ∃ nm, nm = Pl.parent p.data.toList := ⟨_, rfl⟩
  rw [← hnm]
  have HM : Hid (nm = Pl.parent p.data.toList) := hnm
  have hl := Pl.parent_len hg
  have hix := Pl.lastIndex_good p hg
  obtain ⟨k, hk⟩ : ∃ k, k = (Pl.parent p.data.toList).length := ⟨_, rfl⟩
  rw [← hk] at hl hix
  rw [sz_list] at hl
  have hsz := (Pl.good_parts hg).2.2
  rw [sz_list] at hsz
  have HK : Hid (k = (Pl.parent p.data.toList).length) := hk
  have HI : Hid (Lib.lastIndexByte p 47 = k) := hix
  have H2 : Hid (2 ≤ (Pl.parts p.data.toList).length) := h2
  clear hS hg hnm hix hk h2
  go_enter Tryd.func37, Tryd.ntmps37
  go_wp2_with fail
  refine (parts_good p _ HS.out HG.out).mono ?_
  rintro e w1 ⟨xs, rfl, hxs, hrow⟩
  have hn : 2 ≤ xs.length ∧ xs.length ≤ 8 := by
    have h := parts_len HG.out
    have h' := H2.out
    rw [← hxs, List.length_map] at h h'
    omega
  obtain ⟨n, en⟩ : ∃ n, n = xs.length := ⟨_, rfl⟩
  rw [← en] at hn ⊢
  obtain ⟨hn2, hn8⟩ := hn
  have HB : Hid (Below w.heap.size w w1) := hrow.below
  clear hxs hrow en
  have hn2' : ¬ (n : Int) < 2 := by omega
  go_wp2_with (go_at_call 40; refine (Tryd.strings_LastIndexByte p 47 (by omega) _).mono ?_; rintro e w' ⟨rfl, hw⟩; rw [hw, HI.out]; clear hw w')
  go_ret2
  exact ⟨_, rfl, by rw [Lib.extract_from_zero, HK.out, HM.out]; exact Pl.parent_take HG.out, HB.out⟩

set_option maxRecDepth 20000 in
set_option maxHeartbeats 400000 in
theorem parent_no (p : ByteArray) (w : World) (hS : Std w) (hp : p.size ≤ maxLen) (h2 : (Pl.parts p.data.toList).length < 2) :
    Calls Tryd.prog 37 #[.string p] w fun e w' => e = .returned (.tuple #[.string ⟨#[]⟩, .bool false]) ∧ Below w.heap.size w w' := by
  have HS : Hid (Std w) := hS
  have HP : Hid (p.size ≤ maxLen) := hp
  have H2 : Hid ((Pl.parts p.data.toList).length < 2) := h2
  clear hS hp h2
  cases hg : Pl.goodB p.data.toList with
  | false =>
    have HG : Hid (Pl.goodB p.data.toList = false) := hg
    clear hg
    go_enter Tryd.func37, Tryd.ntmps37
    go_wp2_with fail
    refine (parts_bad p _ HS.out HP.out HG.out).mono ?_
    rintro e w1 ⟨rfl, hb⟩
    go_wp2
    go_ret2
    exact ⟨rfl, hb⟩
  | true =>
    have HG : Hid (Pl.goodB p.data.toList = true) := hg
    clear hg
    go_enter Tryd.func37, Tryd.ntmps37
    go_wp2_with fail
    refine (parts_good p _ HS.out HG.out).mono ?_
    rintro e w1 ⟨xs, rfl, hxs, hrow⟩
    have hn : xs.length < 2 := by
      have h' := H2.out
      rw [← hxs, List.length_map] at h'
      omega
    have hn' : (xs.length : Int) < 2 := by omega
    have HB : Hid (Below w.heap.size w w1) := hrow.below
    clear hxs hrow
    go_wp2
    go_ret2
    exact ⟨rfl, HB.out⟩

theorem data_append (a b : ByteArray) : (a ++ b).data.toList = a.data.toList ++ b.data.toList := by
  rw [ByteArray.data_append, Array.toList_append]

theorem within_eq (p q : ByteArray) (hp : Pl.goodB p.data.toList = true) (hq : Pl.goodB q.data.toList = true) : Lib.hasPrefix (p ++ ⟨#[47]⟩).data.toList (q ++ ⟨#[47]⟩).data.toList = Pl.withinB p.data.toList q.data.toList := by
  unfold Pl.withinB Lib.hasPrefix
  rw [hp, hq, data_append, data_append]; rfl


end Go.Proofs.YtcpajjjkhikipaaDoor.Pa
