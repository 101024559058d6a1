/- What the reference's IsName, Of and Join answer. -/
import Derived.Test.YtmmbomlpkjgclaaDoorWJoin
namespace Go.Proofs.YtmmbomlpkjgclaaDoor
open Go.RowKit

set_option maxHeartbeats 400000 in
theorem isName_any (s : ByteArray) (w : World) (hs : s.size ≤ maxLen) :
    Calls Tryd.prog 37 #[.string s] w fun e w' => e = .returned (.bool (Pl.nameB s.data.toList)) ∧ w' = w := by
  unfold maxLen at hs
  by_cases h1 : (s.size : Int) < 1
  · have hf : Pl.nameB s.data.toList = false := Pl.nameB_none (List.length_eq_zero_iff.1 (by rw [← Lib.size_eq]; omega))
    rw [hf]; clear hf
    go_enter Tryd.func37, Tryd.ntmps37
    go_wp2
    go_ret
    exact ⟨rfl, rfl⟩
  by_cases h2 : 40 < (s.size : Int)
  · have hf : Pl.nameB s.data.toList = false := Pl.nameB_long (by rw [← Lib.size_eq]; omega)
    rw [hf]; clear hf
    go_enter Tryd.func37, Tryd.ntmps37
    go_wp2
    go_ret
    exact ⟨rfl, rfl⟩
  cases h3 : s.toList == [46] with
  | true =>
    have hf : Pl.nameB s.data.toList = false := Pl.nameB_dot (by rw [← Lib.toList_data]; simpa using h3)
    rw [hf]; clear hf
    go_enter Tryd.func37, Tryd.ntmps37
    go_wp2
    go_ret
    exact ⟨rfl, rfl⟩
  | false =>
  cases h4 : s.toList == [46, 46] with
  | true =>
    have hf : Pl.nameB s.data.toList = false := Pl.nameB_dots (by rw [← Lib.toList_data]; simpa using h4)
    rw [hf]; clear hf
    go_enter Tryd.func37, Tryd.ntmps37
    go_wp2
    go_ret
    exact ⟨rfl, rfl⟩
  | false =>
  have hf : Pl.nameB s.data.toList = s.data.toList.all Pl.byteB := Pl.nameB_rest (by intro e; have := congrArg List.length e; rw [← Lib.size_eq] at this; have h0 : s.size = 0 := this; omega) (by rw [← Lib.size_eq]; omega) (by rw [← Lib.toList_data]; simpa using h3) (by rw [← Lib.toList_data]; simpa using h4)
  rw [hf]; clear hf
  have h2' : ¬ 40 < (s.size : Int) := h2
  obtain ⟨r, hr⟩ : ∃ r, r = s.data.toList.all Pl.byteB := ⟨_, rfl⟩
  rw [← hr]
  have HR : Hid (r = s.data.toList.all Pl.byteB) := hr
  clear hr
  go_enter Tryd.func37, Tryd.ntmps37
  go_wp2
  go_loop [3] (fun i => ∃ k : Nat, k ≤ s.size ∧ i = .int .i64 k ∧ (s.data.toList.take k).all Pl.byteB = true) (fun i => s.size - (intOf i).toNat)
  case atStart => exact ⟨0, Nat.zero_le _, rfl, rfl⟩
  case round =>
    obtain ⟨k, hk, rfl, hall⟩ := hrel
    have HA : Hid ((s.data.toList.take k).all Pl.byteB = true) := hall
    clear hall
    by_cases hlt : k < s.size
    · have hts := take_snoc s k hlt
      have HS : Hid (s.data.toList.take (k + 1) = s.data.toList.take k ++ [s[k]]) := hts
      have HM : Hid (s[k] ∈ s.data.toList) := List.mem_of_mem_take (i := k + 1) (by rw [hts]; simp)
      clear hts
      have hlt' : (k : Int) < s.size := by omega
      by_cases b1 : (s[k].toNat : Int) < 33
      · go_wp2
        go_ret
        exact ⟨ret_bool (by rw [HR.out]; exact (Pl.all_no HM.out (Pl.byteB_low b1)).symm), rfl⟩
      by_cases b2 : (126 : Int) < s[k].toNat
      · go_wp2
        go_ret
        exact ⟨ret_bool (by rw [HR.out]; exact (Pl.all_no HM.out (Pl.byteB_high b2)).symm), rfl⟩
      cases b3 : (s[k].toNat : Int) == 47 with
      | true =>
        go_wp2
        go_ret
        exact ⟨ret_bool (by rw [HR.out]; exact (Pl.all_no HM.out (Pl.byteB_slash b3)).symm), rfl⟩
      | false =>
        go_wp2
        go_round
        case rel => exact ⟨k + 1, by omega, by go_num, by rw [HS.out, List.all_append, HA.out]; simp [Pl.byteB_yes (by omega) (by omega) b3]⟩
        case measure => simp [intOf]; omega
    · go_wp2
      go_ret
      exact ⟨ret_bool (by have := HA.out; rw [List.take_of_length_le (by simp; omega)] at this; rw [HR.out]; exact this.symm), rfl⟩

theorem of_take (xs : List ByteArray) (k : Nat) (x : ByteArray) (h : xs[k]? = some x) : Pl.of ((xs.map (·.data.toList)).take (k + 1)) = Pl.of ((xs.map (·.data.toList)).take k) ++ 47 :: x.data.toList := by
  rw [names_take xs k x h, Pl.of_append]; simp [Pl.of]

theorem of_mono (l : List (List UInt8)) (k : Nat) : (Pl.of (l.take k)).length ≤ (Pl.of l).length := by
  conv => rhs; rw [← List.take_append_drop k l, Pl.of_append, List.length_append]
  omega

set_option maxHeartbeats 400000 in
theorem refOf_any (xs : List ByteArray) (b o c : Nat) (w : World) (hn : xs.length ≤ 100000) (hl : (Pl.of (xs.map (·.data.toList))).length ≤ 100000) (hcells : ∀ (j : Nat) x, xs[j]? = some x → w.cell? ⟨b, o + j, none⟩ = some (.string x)) :
    Calls Tryd.prog 34 #[.slice (some ⟨b, o, none⟩) xs.length c] w fun e w' => ∃ x : ByteArray, e = .returned (.string x) ∧ x.data.toList = Pl.of (xs.map (·.data.toList)) ∧ w' = w := by
  have HC : Hid (∀ (j : Nat) x, xs[j]? = some x → w.cell? ⟨b, o + j, none⟩ = some (.string x)) := hcells
  obtain ⟨n, en⟩ : ∃ n, n = xs.length := ⟨_, rfl⟩
  have HN : Hid (n = xs.length) := en
  obtain ⟨l, el⟩ : ∃ l, l = xs.map (·.data.toList) := ⟨_, rfl⟩
  have HL : Hid (l = xs.map (·.data.toList)) := el
  have HZ : Hid ((Pl.of l).length ≤ 100000) := by rw [el]; exact hl
  rw [← en, ← el]
  rw [← en] at hn
  clear hcells en el hl
  go_enter Tryd.func34, Tryd.ntmps34
  go_wp2
  go_loop [3, 4] (fun s i => ∃ (k : Nat) (x : ByteArray), k ≤ n ∧ i = .int .i64 k ∧ s = .string x ∧ x.data.toList = Pl.of (l.take k)) (fun _ i => n - (intOf i).toNat)
  case atStart => exact ⟨0, ⟨#[]⟩, Nat.zero_le _, rfl, rfl, rfl⟩
  case round =>
    obtain ⟨k, x, hk, rfl, rfl, hx⟩ := hrel
    have HX : Hid (x.data.toList = Pl.of (l.take k)) := hx
    have hxs : x.size ≤ 100000 := by rw [← sz_list, hx]; exact Nat.le_trans (of_mono l k) HZ.out
    clear hx
    by_cases hlt : k < n
    · obtain ⟨y, hy⟩ : ∃ y, xs[k]? = some y := ⟨xs[k]'(by rw [← HN.out]; exact hlt), List.getElem?_eq_getElem _⟩
      have hcell := HC.out k y hy
      have hof := of_take xs k y hy
      rw [← HL.out] at hof
      have HO : Hid (Pl.of (l.take (k + 1)) = Pl.of (l.take k) ++ 47 :: y.data.toList) := hof
      have hys : y.size ≤ 100000 := by
        have h1 := of_mono l (k + 1)
        rw [hof, List.length_append, List.length_cons, sz_list] at h1
        have := HZ.out
        omega
      clear hy hof
      have hlt' : (k : Int) < n := by omega
      go_wp2
      go_round
      case rel => exact ⟨k + 1, _, by omega, by go_num, rfl, by rw [data_append, data_append, HX.out, HO.out, List.append_assoc]; rfl⟩
      case measure => simp [intOf]; omega
    · have hkn : k = n := by omega
      subst hkn
      go_wp2
      go_ret
      exact ⟨x, rfl, by rw [HX.out, List.take_of_length_le (by rw [HL.out, List.length_map, ← HN.out]; exact Nat.le_refl _)], rfl⟩
end Go.Proofs.YtmmbomlpkjgclaaDoor
