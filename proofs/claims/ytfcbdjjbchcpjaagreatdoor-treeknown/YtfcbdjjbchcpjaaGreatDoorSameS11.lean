/- What the reference's Same answers (LibV's last part alone, for cuts that lack the rest). -/
import Derived.Test.YtfcbdjjbchcpjaaGreatDoorBas
import Derived.Deep.QuietTactic
import Derived.BigQuiet
import Derived.BigRegion
namespace Go.Proofs.YtfcbdjjbchcpjaaGreatDoor.Ps
open Go.RowKit

set_option maxRecDepth 20000 in
set_option maxHeartbeats 1000000 in
theorem same_any (u v : Value) (ss tt : List ByteArray) (w : World) (hu : Ss w u ss) (hv : Ss w v tt) (h1 : ss.length ≤ 1000) (h2 : tt.length ≤ 1000) :
    Calls Tryz.prog 21 #[u, v] w fun e w' => e = .returned (.bool (decide (ss = tt))) ∧ Below w.heap.size w w' := by
  obtain ⟨r, hr⟩ : ∃ r, r = decide (ss = tt) := ⟨_, rfl⟩
  rw [← hr]
  have HR : Hid (r = decide (ss = tt)) := hr
  obtain ⟨av, n, c, rfl, hn, hcs⟩ := hu
  obtain ⟨bv, m, d, rfl, hm, hds⟩ := hv
  have HN : Hid (n = ss.length) := hn
  have HM : Hid (m = tt.length) := hm
  have HC : Hid (∀ (j : Nat) s, ss[j]? = some s → ∃ g o, av = some ⟨g, o, none⟩ ∧ w.cell? ⟨g, o + j, none⟩ = some (.string s)) := hcs
  have HD : Hid (∀ (j : Nat) s, tt[j]? = some s → ∃ g o, bv = some ⟨g, o, none⟩ ∧ w.cell? ⟨g, o + j, none⟩ = some (.string s)) := hds
  have hn1 : n ≤ 1000 := by omega
  have hm1 : m ≤ 1000 := by omega
  clear hn hm hcs hds h1 h2 hr
  cases hne : ((n : Int) != (m : Int)) with
  | true =>
    have hnm : ss ≠ tt := by
      intro e
      have h : (n : Int) = m := by rw [HN.out, HM.out, e]
      rw [h] at hne; simp at hne
    have HF : Hid (r = false) := by rw [HR.out]; exact decide_eq_false hnm
    clear hnm
    go_enter Tryz.func21, Tryz.ntmps21
    go_wp2
    go_ret
    exact ⟨ret_bool HF.out.symm, Below.refl _ _⟩
  | false =>
    obtain rfl : n = m := by have h : (n : Int) = m := by simpa using hne
                             omega
    clear hne
    have hne : ((n : Int) != (n : Int)) = false := by simp
    go_enter Tryz.func21, Tryz.ntmps21
    go_wp2
    go_loopw [5] (fun i wr => ∃ k : Nat, k ≤ n ∧ i = .int .i64 k ∧ ss.take k = tt.take k ∧ Below w.heap.size w wr) (fun i _ => n - (intOf i).toNat)
    case atStart => exact ⟨0, Nat.zero_le _, rfl, rfl, Below.refl _ _⟩
    case round =>
      obtain ⟨k, hk, rfl, htk, hb⟩ := hrel
      have HB : Hid (Below w.heap.size w wr) := hb
      have HT : Hid (ss.take k = tt.take k) := htk
      clear hb htk
      by_cases hlt : k < n
      · obtain ⟨x, hx⟩ : ∃ x, ss[k]? = some x := ⟨ss[k]'(by rw [← HN.out]; exact hlt), List.getElem?_eq_getElem _⟩
        obtain ⟨y, hy⟩ : ∃ y, tt[k]? = some y := ⟨tt[k]'(by rw [← HM.out]; exact hlt), List.getElem?_eq_getElem _⟩
        obtain ⟨g, o, rfl, c1⟩ := HC.out k x hx
        obtain ⟨g2, o2, rfl, c2⟩ := HD.out k y hy
        have d1 : wr.cell? ⟨g, o + k, none⟩ = some (.string x) := Below.kept HB.out c1
        have d2 : wr.cell? ⟨g2, o2 + k, none⟩ = some (.string y) := Below.kept HB.out c2
        have HX : Hid (ss[k]? = some x) := hx
        have HY : Hid (tt[k]? = some y) := hy
        clear hx hy c1 c2
        have hlt' : (k : Int) < n := by omega
        have hk0 : (0 : Int) ≤ k := by omega
        cases he : (x.toList == y.toList) with
        | true =>
          have HE : Hid (x = y) := bytes_eq he
          go_wp2
          go_region
          go_wp2
          go_roundw
          case rel => exact ⟨k + 1, by omega, by go_num, by rw [List.take_add_one, List.take_add_one, HX.out, HY.out, HT.out, HE.out], HB.out.drew⟩
          case measure => simp [intOf]; omega
        | false =>
          have HF : Hid (r = false) := by
            rw [HR.out]
            refine decide_eq_false (fun e => ?_)
            have h := HX.out
            rw [e, HY.out] at h
            rw [Option.some.inj h] at he
            simp at he
          go_wp2
          go_region
          go_wp2
          go_ret
          exact ⟨ret_bool HF.out.symm, HB.out.drew⟩
      · have HG : Hid (r = true) := by
          rw [HR.out]
          refine decide_eq_true ?_
          have h := HT.out
          rwa [List.take_of_length_le (by rw [← HN.out]; omega), List.take_of_length_le (by rw [← HM.out]; omega)] at h
        go_wp2
        go_ret
        exact ⟨ret_bool HG.out.symm, HB.out⟩

end Go.Proofs.YtfcbdjjbchcpjaaGreatDoor.Ps
