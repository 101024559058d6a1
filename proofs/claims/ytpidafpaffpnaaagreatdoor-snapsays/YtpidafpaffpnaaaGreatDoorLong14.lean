/- What the statements' own long answers. -/
import Derived.Test.YtpidafpaffpnaaaGreatDoorPln
namespace Go.Proofs.YtpidafpaffpnaaaGreatDoor
open Go.RowKit
set_option maxRecDepth 20000 in
set_option maxHeartbeats 1000000 in
theorem long_any14 (v : Value) (os : List O) (w : World) (hv : Ol w v os) (hl : os.length ≤ maxLen) :
    Calls Tryz.prog 43 #[v] w fun e w' => e = .returned (.bool (greatB os)) ∧ Below w.heap.size w w' := by
  have HV : Hid (Ol w v os) := hv
  obtain ⟨av, n, c, rfl, hn, _⟩ := hv
  have HN : Hid (n = os.length) := hn
  unfold maxLen at hl
  have hn1 : n ≤ 9223372036854775807 := by omega
  clear hn hl
  obtain ⟨R, hR⟩ : ∃ R : Bool, R = greatB os := ⟨_, rfl⟩
  have HR : Hid (R = greatB os) := hR
  rw [← hR]
  clear hR
  go_enter Tryz.func43, Tryz.ntmps43
  by_cases h20 : 20 < n
  · have h20' : (20 : Int) < (n : Int) := by omega
    have HT : Hid (R = true) := by
      have h : R = true := by rw [HR.out]; unfold greatB; rw [decide_eq_true (by rw [← HN.out]; exact h20)]; rfl
      exact h
    go_wp2
    go_ret
    rw [HT.out]
    exact ⟨rfl, Below.refl _ _⟩
  · have h20' : ¬ (20 : Int) < (n : Int) := by omega
    have HR2 : Hid (R = os.any fun o => decide (300 < o.path.size) || decide (1100 < o.data.size)) := by
      have h : R = os.any fun o => decide (300 < o.path.size) || decide (1100 < o.data.size) := by rw [HR.out]; unfold greatB; rw [decide_eq_false (by rw [← HN.out]; exact h20)]; rfl
      exact h
    go_wp2
    go_loopw [3] (fun i wr => ∃ k : Nat, k ≤ n ∧ i = .int .i64 (k : Int) ∧ ((os.take k).any fun o => decide (300 < o.path.size) || decide (1100 < o.data.size)) = false ∧ Below w.heap.size w wr) (fun i _ => ((n : Int) - intOf i).toNat)
    case atStart => exact ⟨0, Nat.zero_le _, rfl, rfl, Below.refl _ _⟩
    case round =>
      obtain ⟨k, hk, rfl, hany, hb⟩ := hrel
      have HA : Hid (((os.take k).any fun o => decide (300 < o.path.size) || decide (1100 < o.data.size)) = false) := hany
      have HB : Hid (Below w.heap.size w wr) := hb
      clear hany
      by_cases hlt : k < n
      · have hlt' : (k : Int) < (n : Int) := by omega
        have hkl : k < os.length := by rw [← HN.out]; exact hlt
        obtain ⟨g, b, c', hv', hcs⟩ := (HV.out.below hb).at (by omega)
        simp only [Value.slice.injEq] at hv'
        obtain ⟨rfl, hq, rfl⟩ := hv'
        obtain ⟨_, h1, h2, _, _⟩ := hcs k os[k] (List.getElem?_eq_getElem hkl)
        have HK : Hid (os[k]? = some os[k]) := List.getElem?_eq_getElem hkl
        generalize os[k] = o at *
        clear hcs hq hb hkl
        by_cases hp : 300 < o.path.size
        · have hp' : (300 : Int) < (o.path.size : Int) := by omega
          have HT : Hid (R = true) := by
            have h : R = true := by rw [HR2.out]; exact any_yes HK.out (by simp [hp])
            exact h
          go_wp2
          go_ret
          rw [HT.out]
          exact ⟨rfl, HB.out⟩
        · have hp' : ¬ (300 : Int) < (o.path.size : Int) := by omega
          by_cases hd : 1100 < o.data.size
          · have hd' : (1100 : Int) < (o.data.size : Int) := by omega
            have HT : Hid (R = true) := by
              have h : R = true := by rw [HR2.out]; exact any_yes HK.out (by simp [hd])
              exact h
            go_wp2
            go_ret
            rw [HT.out]
            exact ⟨rfl, HB.out⟩
          · have hd' : ¬ (1100 : Int) < (o.data.size : Int) := by omega
            have HA2 : Hid (((os.take (k + 1)).any fun o => decide (300 < o.path.size) || decide (1100 < o.data.size)) = false) := by
              have h : ((os.take (k + 1)).any fun o => decide (300 < o.path.size) || decide (1100 < o.data.size)) = false := by
                rw [List.take_add_one, HK.out, List.any_append, HA.out]
                simp [hp, hd]
              exact h
            go_wp2
            go_roundw
            case rel => exact ⟨k + 1, by omega, by go_num, HA2.out, HB.out⟩
            case measure => simp [intOf]; omega
      · have hlt' : ¬ (k : Int) < (n : Int) := by omega
        have HF : Hid (R = false) := by
          have h : R = false := by
            have h2 := HA.out
            rw [List.take_of_length_le (by rw [← HN.out]; omega)] at h2
            rw [HR2.out, h2]
          exact h
        clear hb
        go_wp2
        go_ret
        rw [HF.out]
        exact ⟨rfl, HB.out⟩
end Go.Proofs.YtpidafpaffpnaaaGreatDoor
