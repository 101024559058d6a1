/- What pack.All, pack.I64 and pack.Text answer. -/
import Derived.Test.YtcpajjjkhikipaaDoorPwNumber
namespace Go.Proofs.YtcpajjjkhikipaaDoor.Pw
open Go.RowKit

theorem flat_take (zs : List Int) (k : Nat) (z : Int) (h : zs[k]? = some z) : (zs.take (k + 1)).flatMap Pk.be8 = (zs.take k).flatMap Pk.be8 ++ Pk.be8 z := by
  rw [List.take_add_one, h]; simp

theorem flat_len (zs : List Int) : (zs.flatMap Pk.be8).length = 8 * zs.length := by
  induction zs with
  | nil => rfl
  | cons z zs ih => rw [List.flatMap_cons, List.length_append, ih]; simp [Pk.be8]; omega

set_option maxRecDepth 20000 in
set_option maxHeartbeats 400000 in
theorem all_none (ao : Option Addr) (n c : Nat) (xs : List UInt8) (av : Option Addr) (cv : Nat) (w : World) (hn : n = xs.length) (hS : Sl w ao c xs) (hN : n ≤ 100000) :
    Calls Tryd.prog 21 #[.slice ao n c, .slice av 0 cv] w fun e w' => ∃ v', e = .returned v' ∧ w'.ownsRow w.heap.size 5 1 v' n (bc xs) ∧ Below w.heap.size w w' := by
  have HN : Hid (n = xs.length) := hn
  have HS : Hid (Sl w ao c xs) := hS
  clear hn hS
  go_enter Tryd.func21, Tryd.ntmps21
  go_wp2_with fail
  refine (grown_any ao n c 0 _ xs _ (by simp) HN.out HS.out (by omega)).mono ?_
  rintro e w1 ⟨rfl, hown, hb⟩
  obtain ⟨v1, hv1⟩ : ∃ v1 : Value, v1 = .slice (some ⟨w.heap.size, 0, none⟩) n (n + 0) := ⟨_, rfl⟩
  rw [← hv1] at hown ⊢
  clear hv1
  have HO : Hid (w1.ownsRow w.heap.size 5 1 v1 n (bc xs)) := hown
  have HB : Hid (Below w.heap.size w w1) := hb
  clear hown hb
  go_wp2
  go_loop [5, 15] (fun u i => u = v1 ∧ i = .int .i64 0) (fun _ _ => 0)
  case atStart => exact ⟨rfl, rfl⟩
  case round =>
    obtain ⟨rfl, rfl⟩ := hrel
    go_wp2
    go_ret
    exact ⟨_, rfl, HO.out, HB.out⟩

set_option maxRecDepth 20000 in
set_option maxHeartbeats 400000 in
theorem all_some (ao : Option Addr) (n c : Nat) (xs : List UInt8) (zs : List Int) (g o k cv : Nat) (w : World) (hn : n = xs.length) (hS : Sl w ao c xs) (hk : k = zs.length) (hcells : ∀ (j : Nat) z, zs[j]? = some z → w.cell? ⟨g, o + j, none⟩ = some (.int .i64 z)) (hN : n ≤ 100000) (hK : k ≤ 10000) :
    Calls Tryd.prog 21 #[.slice ao n c, .slice (some ⟨g, o, none⟩) k cv] w fun e w' => ∃ v', e = .returned v' ∧ w'.ownsRow w.heap.size 5 1 v' (n + 8 * k) (bc (xs ++ zs.flatMap Pk.be8)) ∧ Below w.heap.size w w' := by
  have HN : Hid (n = xs.length) := hn
  have HK : Hid (k = zs.length) := hk
  have HS : Hid (Sl w ao c xs) := hS
  have HC : Hid (∀ (j : Nat) z, zs[j]? = some z → w.cell? ⟨g, o + j, none⟩ = some (.int .i64 z)) := hcells
  clear hn hS hk hcells
  go_enter Tryd.func21, Tryd.ntmps21
  go_wp2_with fail
  refine (grown_any ao n c (8 * k) _ xs _ (by first | rfl | simp | omega) HN.out HS.out (by omega)).mono ?_
  rintro e w1 ⟨rfl, hown, hb⟩
  obtain ⟨v1, hv1⟩ : ∃ v1 : Value, v1 = .slice (some ⟨w.heap.size, 0, none⟩) n (n + 8 * k) := ⟨_, rfl⟩
  rw [← hv1] at hown ⊢
  clear hv1
  have HO : Hid (w1.ownsRow w.heap.size 5 1 v1 n (bc xs)) := hown
  have HB : Hid (Below w.heap.size w w1) := hb
  clear hown hb
  go_wp2
  go_loopw [5, 15] (fun u i wr => ∃ j : Nat, j ≤ k ∧ i = .int .i64 j ∧ wr.ownsRow w.heap.size 5 1 u (n + 8 * j) (bc (xs ++ (zs.take j).flatMap Pk.be8)) ∧ Below w.heap.size w wr) (fun _ i _ => k - (intOf i).toNat)
  case atStart => exact ⟨0, Nat.zero_le _, rfl, by simpa using HO.out, HB.out⟩
  case round =>
    obtain ⟨j, hj, rfl, hown, hb⟩ := hrel
    have HO1 : Hid (wr.ownsRow w.heap.size 5 1 u5 (n + 8 * j) (bc (xs ++ (zs.take j).flatMap Pk.be8))) := hown
    have HB1 : Hid (Below w.heap.size w wr) := hb
    clear hown hb
    by_cases hlt : j < k
    · obtain ⟨z, hz⟩ : ∃ z, zs[j]? = some z := ⟨zs[j]'(by rw [← HK.out]; exact hlt), List.getElem?_eq_getElem _⟩
      have hcell : wr.cell? ⟨g, o + j, none⟩ = some (.int .i64 z) := Below.kept HB1.out (HC.out j z hz)
      have HZ : Hid (zs[j]? = some z) := hz
      clear hz
      have hlt' : (j : Int) < k := by omega
      have hBw : w.heap.size ≤ wr.heap.size := HB1.out.size
      go_wp2_with (go_at_call 33; refine (number_any w.heap.size _ _ _ _ _ HO1.out hBw (by omega)).mono ?_; rintro e w2 ⟨v2, rfl, hown2, hb2⟩)
      have HO2 : Hid (w2.ownsRow w.heap.size 5 1 v2 (n + 8 * (j + 1)) (bc (xs ++ (zs.take (j + 1)).flatMap Pk.be8))) := by
        have h : w2.ownsRow w.heap.size 5 1 v2 (n + 8 * (j + 1)) (bc (xs ++ (zs.take (j + 1)).flatMap Pk.be8)) := by
          rw [flat_take zs j z HZ.out, ← List.append_assoc, show n + 8 * (j + 1) = n + 8 * j + 8 by omega]
          first | exact hown2 | (rw [List.append_assoc] at hown2 ⊢; exact hown2)
        exact h
      have HB2 : Hid (Below w.heap.size w w2) := HB1.out.trans hb2
      clear hown2 hb2
      go_wp2
      go_roundw
      case rel => exact ⟨j + 1, by omega, by go_num, HO2.out, HB2.out⟩
      case measure => simp [intOf]; omega
    · have hlt' : ¬ (j : Int) < k := by omega
      have hjk : j = k := by omega
      have HO3 : Hid (wr.ownsRow w.heap.size 5 1 u5 (n + 8 * k) (bc (xs ++ zs.flatMap Pk.be8))) := by
        have h := HO1.out
        rw [hjk, HK.out, List.take_length, ← HK.out] at h
        exact h
      clear hjk
      go_wp2
      go_ret
      exact ⟨_, rfl, HO3.out, HB1.out⟩

set_option maxRecDepth 20000 in
set_option maxHeartbeats 400000 in
theorem i64_any (ao : Option Addr) (n c : Nat) (xs : List UInt8) (z : Int) (w : World) (hn : n = xs.length) (hS : Sl w ao c xs) (hN : n ≤ 100000) :
    Calls Tryd.prog 34 #[.slice ao n c, .int .i64 z] w fun e w' => ∃ v', e = .returned v' ∧ w'.ownsRow w.heap.size 5 1 v' (n + 8) (bc (xs ++ Pk.be8 z)) ∧ Below w.heap.size w w' := by
  have HN : Hid (n = xs.length) := hn
  have HS : Hid (Sl w ao c xs) := hS
  clear hn hS
  go_enter Tryd.func34, Tryd.ntmps34
  go_wp2_with fail
  refine (all_some ao n c xs [z] w.heap.size 0 1 1 _ HN.out (HS.out.alloc _) rfl ?_ hN (by decide)).mono ?_
  · intro j y hy
    match j, hy with
    | 0, hy => simp at hy; subst hy; simp
  rintro e w1 ⟨v1, rfl, hown, hb⟩
  have HO : Hid (w1.ownsRow w.heap.size 5 1 v1 (n + 8) (bc (xs ++ Pk.be8 z))) := by
    have h := hown.mono (show w.heap.size ≤ _ by simp)
    have h2 : w1.ownsRow w.heap.size 5 1 v1 (n + 8) (bc (xs ++ Pk.be8 z)) := by simpa using h
    exact h2
  have HB : Hid (Below w.heap.size w w1) := ((Below.refl _ w).alloc (Nat.le_refl _) _).trans (hb.mono (by simp))
  clear hown hb
  go_wp2
  go_ret
  exact ⟨_, rfl, HO.out, HB.out⟩

set_option maxRecDepth 20000 in
set_option maxHeartbeats 400000 in
theorem text_any (ao : Option Addr) (n c : Nat) (xs : List UInt8) (s : ByteArray) (w : World) (hn : n = xs.length) (hS : Sl w ao c xs) (hN : n ≤ 100000) (hs : s.size ≤ 10000) :
    Calls Tryd.prog 35 #[.slice ao n c, .string s] w fun e w' => ∃ v', e = .returned v' ∧ w'.ownsRow w.heap.size 5 1 v' (n + 8 + s.size) (bc (xs ++ Pk.txt s.data.toList)) ∧ Below w.heap.size w w' := by
  have HN : Hid (n = xs.length) := hn
  have HS : Hid (Sl w ao c xs) := hS
  clear hn hS
  go_enter Tryd.func35, Tryd.ntmps35
  go_wp2_with fail
  refine (grown_any ao n c (8 + s.size) _ xs _ (by first | rfl | simp | omega) HN.out HS.out (by omega)).mono ?_
  rintro e w1 ⟨rfl, hown, hb⟩
  obtain ⟨v1, hv1⟩ : ∃ v1 : Value, v1 = .slice (some ⟨w.heap.size, 0, none⟩) n (n + (8 + s.size)) := ⟨_, rfl⟩
  rw [← hv1] at hown ⊢
  clear hv1
  have HO : Hid (w1.ownsRow w.heap.size 5 1 v1 n (bc xs)) := hown
  have HB : Hid (Below w.heap.size w w1) := hb
  clear hown hb
  go_wp2_with fail
  refine (number_any w.heap.size v1 n xs _ _ HO.out HB.out.size (by omega)).mono ?_
  rintro e w2 ⟨v2, rfl, hown, hb⟩
  have HO2 : Hid (w2.ownsRow w.heap.size 5 1 v2 (n + 8) (bc (xs ++ Pk.be8 s.size))) := hown
  have HB2 : Hid (Below w.heap.size w w2) := HB.out.trans hb
  clear hown hb
  go_wp2_with (at_builtin; refine append_text rfl _ _ rfl w.heap.size v2 _ _ rfl _ HO2.out HB2.out.size s rfl (by omega) ?_)
  intro v3 w3 hown hb
  have HO3 : Hid (w3.ownsRow w.heap.size 5 1 v3 (n + 8 + s.size) (bc (xs ++ Pk.txt s.data.toList))) := by first | exact hown | (rw [List.append_assoc] at hown; exact hown)
  have HB3 : Hid (Below w.heap.size w w3) := HB2.out.trans hb
  clear hown hb
  go_wp2
  go_ret
  exact ⟨_, rfl, HO3.out, HB3.out⟩

end Go.Proofs.YtcpajjjkhikipaaDoor.Pw
