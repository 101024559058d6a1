/- What the reference's Join answers. -/
import Derived.Test.YtmmbomlpkjgclaaDoorRName
namespace Go.Proofs.YtmmbomlpkjgclaaDoor
open Go.RowKit

set_option maxHeartbeats 400000 in
theorem refJoin_few (a : Option Addr) (c : Nat) (w : World) :
    Calls Tryd.prog 26 #[.slice a 0 c] w fun e w' => e = .returned (.tuple #[.string ⟨#[]⟩, .bool false]) ∧ w' = w := by
  go_enter Tryd.func26, Tryd.ntmps26
  go_wp2
  go_ret2
  exact ⟨rfl, rfl⟩

set_option maxHeartbeats 400000 in
theorem refJoin_many (a : Option Addr) (n c : Nat) (w : World) (hn : 8 < n) (hN : n ≤ 140737488355328) :
    Calls Tryd.prog 26 #[.slice a n c] w fun e w' => e = .returned (.tuple #[.string ⟨#[]⟩, .bool false]) ∧ w' = w := by
  have h0 : ¬ (n : Int) < 1 := by omega
  have h8 : (8 : Int) < n := by omega
  go_enter Tryd.func26, Tryd.ntmps26
  go_wp2
  go_ret2
  exact ⟨rfl, rfl⟩

set_option maxHeartbeats 1000000 in
theorem refJoin_some (xs : List ByteArray) (b o c : Nat) (w : World) (h1 : 1 ≤ xs.length) (h8 : xs.length ≤ 8) (hcells : ∀ (j : Nat) x, xs[j]? = some x → w.cell? ⟨b, o + j, none⟩ = some (.string x)) (hsz : ∀ x ∈ xs, x.size ≤ maxLen) :
    Calls Tryd.prog 26 #[.slice (some ⟨b, o, none⟩) xs.length c] w fun e w' =>
      ((∃ x : ByteArray, e = .returned (.tuple #[.string x, .bool true]) ∧ x.data.toList = Pl.of (xs.map (·.data.toList)) ∧ Pl.joinB (xs.map (·.data.toList)) = true) ∨
      (e = .returned (.tuple #[.string ⟨#[]⟩, .bool false]) ∧ Pl.joinB (xs.map (·.data.toList)) = false)) ∧ w' = w := by
  obtain ⟨l, el⟩ : ∃ l, l = xs.map (·.data.toList) := ⟨_, rfl⟩
  have HL : Hid (l = xs.map (·.data.toList)) := el
  have HF : Hid (Pl.namesB l = l.all Pl.nameB) := Pl.namesB_rest (by rw [el]; simpa using h1) (by rw [el]; simpa using h8)
  rw [← el]
  have HC : Hid (∀ (j : Nat) x, xs[j]? = some x → w.cell? ⟨b, o + j, none⟩ = some (.string x)) := hcells
  have HSZ : Hid (∀ x ∈ xs, x.size ≤ maxLen) := hsz
  clear hcells hsz el
  obtain ⟨n, hn⟩ : ∃ n, n = xs.length := ⟨_, rfl⟩
  have HN : Hid (n = xs.length) := hn
  rw [← hn] at h1 h8 ⊢
  clear hn
  have h0 : ¬ (n : Int) < 1 := by omega
  have h8' : ¬ (8 : Int) < n := by omega
  go_enter Tryd.func26, Tryd.ntmps26
  go_wp2
  go_loop [4] (fun i => ∃ k : Nat, k ≤ n ∧ i = .int .i64 k ∧ (l.take k).all Pl.nameB = true) (fun i => n - (intOf i).toNat)
  case atStart => exact ⟨0, Nat.zero_le _, rfl, rfl⟩
  case round =>
    obtain ⟨k, hk, rfl, hall⟩ := hrel
    have HA : Hid ((l.take k).all Pl.nameB = true) := hall
    clear hall
    by_cases hlt : k < n
    · obtain ⟨x, hx⟩ : ∃ x, xs[k]? = some x := ⟨xs[k]'(by rw [← HN.out]; exact hlt), List.getElem?_eq_getElem _⟩
      have hcell := HC.out k x hx
      have HX : Hid (x.size ≤ maxLen) := HSZ.out x (List.mem_of_getElem? hx)
      have hts := names_take xs k x hx
      rw [← HL.out] at hts
      have HS : Hid (l.take (k + 1) = l.take k ++ [x.data.toList]) := hts
      have HM : Hid (x.data.toList ∈ l) := by rw [HL.out]; exact List.mem_map_of_mem (List.mem_of_getElem? hx)
      clear hx hts
      have hlt' : (k : Int) < n := by omega
      cases hb : Pl.nameB x.data.toList with
      | false =>
        have HB : Hid (Pl.nameB x.data.toList = false) := hb
        clear hb
        go_wp2_with (go_at_call 37; refine (isName_any x _ HX.out).mono ?_; rintro e w' ⟨rfl, rfl⟩; rw [HB.out])
        go_ret2
        exact ⟨Or.inr ⟨rfl, by rw [Pl.joinB, HF.out, Pl.names_no HM.out HB.out]; rfl⟩, rfl⟩
      | true =>
        have HB : Hid (Pl.nameB x.data.toList = true) := hb
        clear hb
        go_wp2_with (go_at_call 37; refine (isName_any x _ HX.out).mono ?_; rintro e w' ⟨rfl, rfl⟩; rw [HB.out])
        go_round
        case rel => exact ⟨k + 1, by omega, by go_num, by rw [HS.out, List.all_append, HA.out]; simp [HB.out]⟩
        case measure => simp [intOf]; omega
    · have hnames : l.all Pl.nameB = true := by
        have := HA.out
        rw [List.take_of_length_le (by rw [HL.out, List.length_map, ← HN.out]; omega)] at this
        exact this
      have HG : Hid (Pl.namesB l = true) := by rw [HF.out]; exact hnames
      have hshort := Pl.of_short l hnames
      have hln : l.length = n := by rw [HL.out, List.length_map, ← HN.out]
      rw [hln] at hshort
      have HSH : Hid ((Pl.of l).length ≤ 41 * n) := hshort
      have HR : Hid (xs.length ≤ 100000 ∧ (Pl.of (xs.map (·.data.toList))).length ≤ 100000) := by
        rw [← HN.out, ← HL.out]; exact ⟨by omega, by omega⟩
      clear hnames hshort hln HA
      go_wp2_with fail
      rw [HN.out]
      refine (refOf_any xs b o c _ HR.out.1 HR.out.2 HC.out).mono ?_
      rintro e w' ⟨x, rfl, hx, hw⟩
      rw [hw]
      rw [← HL.out] at hx
      have HX : Hid (x.data.toList = Pl.of l) := hx
      have hz : x.size = (Pl.of l).length := by rw [← hx, sz_list]
      have HZ : Hid (x.size = (Pl.of l).length) := hz
      have hxs : x.size ≤ 400 := by rw [HZ.out]; have := HSH.out; omega
      clear hx hw hz w'
      by_cases h200 : 200 < (x.size : Int)
      · go_wp2
        go_ret2
        exact ⟨Or.inr ⟨rfl, by rw [Pl.joinB, Pl.good_long (by rw [← HZ.out]; omega), Bool.and_false]⟩, rfl⟩
      · go_wp2
        go_ret2
        exact ⟨Or.inl ⟨x, rfl, HX.out, by rw [Pl.joinB, HG.out, (Pl.good_iff _).2 ⟨l, HG.out, rfl, by rw [← HZ.out]; omega⟩]; rfl⟩, rfl⟩

theorem refJoin_any (xs : List ByteArray) (b o c : Nat) (w : World) (hN : xs.length ≤ 140737488355328) (hcells : ∀ (j : Nat) x, xs[j]? = some x → w.cell? ⟨b, o + j, none⟩ = some (.string x)) (hsz : ∀ x ∈ xs, x.size ≤ maxLen) :
    Calls Tryd.prog 26 #[.slice (some ⟨b, o, none⟩) xs.length c] w fun e w' =>
      ((∃ x : ByteArray, e = .returned (.tuple #[.string x, .bool true]) ∧ x.data.toList = Pl.of (xs.map (·.data.toList)) ∧ Pl.joinB (xs.map (·.data.toList)) = true) ∨
      (e = .returned (.tuple #[.string ⟨#[]⟩, .bool false]) ∧ Pl.joinB (xs.map (·.data.toList)) = false)) ∧ w' = w := by
  by_cases h0 : xs.length = 0
  · have : xs = [] := List.length_eq_zero_iff.1 h0
    subst this
    exact (refJoin_few _ c w).mono fun e w' ⟨he, hw⟩ => ⟨Or.inr ⟨he, rfl⟩, hw⟩
  · by_cases h8 : 8 < xs.length
    · exact (refJoin_many _ _ c w h8 hN).mono fun e w' ⟨he, hw⟩ => ⟨Or.inr ⟨he, by rw [Pl.joinB, Pl.namesB_many (by simpa using h8)]; rfl⟩, hw⟩
    · exact refJoin_some xs b o c w (by omega) (by omega) hcells hsz
end Go.Proofs.YtmmbomlpkjgclaaDoor
