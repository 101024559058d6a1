/- What path.goodNames answers: a walk over its body. -/
import Derived.Test.YtcpajjjkhikipaaDoorPaWName
namespace Go.Proofs.YtcpajjjkhikipaaDoor.Pa
open Go.RowKit

theorem names_take (xs : List ByteArray) (k : Nat) (x : ByteArray) (h : xs[k]? = some x) : (xs.map (·.data.toList)).take (k + 1) = (xs.map (·.data.toList)).take k ++ [x.data.toList] := by
  rw [List.take_add_one]; simp [h]

set_option maxRecDepth 20000 in
set_option maxHeartbeats 400000 in
theorem goodNames_none (a : Option Addr) (c : Nat) (w : World) :
    Calls Tryd.prog 45 #[.slice a 0 c] w fun e w' => e = .returned (.bool false) ∧ w' = w := by
  go_enter Tryd.func45, Tryd.ntmps45
  go_wp2
  go_ret
  exact ⟨rfl, rfl⟩

set_option maxRecDepth 20000 in
set_option maxHeartbeats 400000 in
theorem goodNames_many (a : Option Addr) (n c : Nat) (w : World) (hn : 8 < n) (hN : n ≤ 140737488355328) :
    Calls Tryd.prog 45 #[.slice a n c] w fun e w' => e = .returned (.bool false) ∧ w' = w := by
  have h0 : ((n : Int) == 0) = false := by rw [beq_eq_false_iff_ne]; omega
  have h8 : (8 : Int) < n := by omega
  go_enter Tryd.func45, Tryd.ntmps45
  go_wp2
  go_ret
  exact ⟨rfl, rfl⟩

set_option maxRecDepth 20000 in
set_option maxHeartbeats 400000 in
theorem goodNames_some (xs : List ByteArray) (b o c : Nat) (w : World) (h1 : 1 ≤ xs.length) (h8 : xs.length ≤ 8) (hcells : ∀ (j : Nat) x, xs[j]? = some x → w.cell? ⟨b, o + j, none⟩ = some (.string x)) (hsz : ∀ x ∈ xs, x.size ≤ maxLen) :
    Calls Tryd.prog 45 #[.slice (some ⟨b, o, none⟩) xs.length c] w fun e w' => e = .returned (.bool (Pl.namesB (xs.map (·.data.toList)))) ∧ w' = w := by
  have hf : Pl.namesB (xs.map (·.data.toList)) = (xs.map (·.data.toList)).all Pl.nameB := Pl.namesB_rest (by simpa using h1) (by simpa using h8)
  rw [hf]; clear hf
  obtain ⟨r, hr⟩ : ∃ r, r = (xs.map (·.data.toList)).all Pl.nameB := ⟨_, rfl⟩
  rw [← hr]
  have HR : Hid (r = (xs.map (·.data.toList)).all Pl.nameB) := hr
  have HC : Hid (∀ (j : Nat) x, xs[j]? = some x → w.cell? ⟨b, o + j, none⟩ = some (.string x)) := hcells
  clear hr hcells
  obtain ⟨n, hn⟩ : ∃ n, n = xs.length := ⟨_, rfl⟩
  have HN : Hid (n = xs.length) := hn
  rw [← hn] at h1 h8 ⊢
  clear hn
  have h0 : ((n : Int) == 0) = false := by rw [beq_eq_false_iff_ne]; omega
  have h8' : ¬ (8 : Int) < n := by omega
  go_enter Tryd.func45, Tryd.ntmps45
  go_wp2
  go_loop [15] (fun i => ∃ k : Nat, k ≤ n ∧ i = .int .i64 k ∧ ((xs.map (·.data.toList)).take k).all Pl.nameB = true) (fun i => n - (intOf i).toNat)
  case atStart => exact ⟨0, Nat.zero_le _, rfl, rfl⟩
  case round =>
    obtain ⟨k, hk, rfl, hall⟩ := hrel
    have HA : Hid (((xs.map (·.data.toList)).take k).all Pl.nameB = true) := hall
    clear hall
    by_cases hlt : k < n
    · obtain ⟨x, hx⟩ : ∃ x, xs[k]? = some x := ⟨xs[k]'(by rw [← HN.out]; exact hlt), List.getElem?_eq_getElem _⟩
      have hcell := HC.out k x hx
      have hxs : x.size ≤ maxLen := hsz x (List.mem_of_getElem? hx)
      have HS : Hid ((xs.map (·.data.toList)).take (k + 1) = (xs.map (·.data.toList)).take k ++ [x.data.toList]) := names_take xs k x hx
      have HM : Hid (x.data.toList ∈ xs.map (·.data.toList)) := List.mem_map_of_mem (List.mem_of_getElem? hx)
      have HX : Hid (x.size ≤ maxLen) := hxs
      clear hx hxs hsz
      have hlt' : (k : Int) < n := by omega
      cases hb : Pl.nameB x.data.toList with
      | false =>
        have HB : Hid (Pl.nameB x.data.toList = false) := hb
        clear hb
        go_wp2_with (go_at_call 55; refine (goodName_any x _ HX.out).mono ?_; rintro e w' ⟨rfl, rfl⟩; rw [HB.out])
        go_ret
        exact ⟨ret_bool (by rw [HR.out]; exact (Pl.names_no HM.out HB.out).symm), rfl⟩
      | true =>
        have HB : Hid (Pl.nameB x.data.toList = true) := hb
        clear hb
        go_wp2_with (go_at_call 55; refine (goodName_any x _ HX.out).mono ?_; rintro e w' ⟨rfl, rfl⟩; rw [HB.out])
        go_round
        case rel => exact ⟨k + 1, by omega, by go_num, by rw [HS.out, List.all_append, HA.out]; simp [HB.out]⟩
        case measure => simp [intOf]; omega
    · go_wp2
      go_ret
      exact ⟨ret_bool (by have := HA.out; rw [List.take_of_length_le (by rw [List.length_map, ← HN.out]; omega)] at this; rw [HR.out]; exact this.symm), rfl⟩

end Go.Proofs.YtcpajjjkhikipaaDoor.Pa
