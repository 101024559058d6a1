/- What the reference's May answers. -/
import Derived.Test.YtcpajjjkhikipaaGreatDoorROp
namespace Go.Proofs.YtcpajjjkhikipaaGreatDoor
open Go.RowKit

set_option maxRecDepth 20000 in
set_option maxHeartbeats 4000000 in
theorem refMay_any (s n : Int) (u : Value) (os : List O) (w : World) (hu : Ol w u os) (hS : Sane os) :
    Calls Tryz.prog 16 #[.agg #[.int .i64 s, .int .i64 n, u]] w fun e w' => e = .returned (.int .i64 (Oq.may s n os)) ∧ Below w.heap.size w w' := by
  have HU : Hid (Ol w u os) := hu
  have HSN : Hid (Sane os) := hS
  have HBX : Hid (Box3 (w.alloc (.cells #[.int .i64 s, .int .i64 n, u] 39)) w.heap.size s n u) := Box3.made w s n u _
  have HB0 : Hid (Below w.heap.size w (w.alloc (.cells #[.int .i64 s, .int .i64 n, u] 39))) := (Below.refl _ w).alloc (Nat.le_refl _) _
  obtain ⟨R, hR⟩ : ∃ R : Int, R = Oq.may s n os := ⟨_, rfl⟩
  have HR : Hid (R = Oq.may s n os) := hR
  rw [← hR]
  obtain ⟨au, m, cu, rfl, hm, _⟩ := hu
  have HM : Hid (m = os.length) := hm
  clear hR hS hm
  go_enter Tryz.func16, Tryz.ntmps16
  go_upto_region 1 with fail
  generalize w.alloc (.cells #[.int .i64 s, .int .i64 n, .slice au m cu] 39) = w1 at *
  obtain ⟨c0, c1, c2⟩ := HBX.out
  by_cases h1 : s < 1
  · have H3 : Hid (R = 1) := by
      have h : R = 1 := by rw [HR.out]; unfold Oq.may; rw [if_pos (Or.inl h1)]
      exact h
    go_wp2
    go_ret
    rw [H3.out]
    exact ⟨rfl, HB0.out⟩
  by_cases h2 : n < 1
  · have H3 : Hid (R = 1) := by
      have h : R = 1 := by rw [HR.out]; unfold Oq.may; rw [if_pos (Or.inr (Or.inl h2))]
      exact h
    go_wp2
    go_ret
    rw [H3.out]
    exact ⟨rfl, HB0.out⟩
  by_cases h3 : m = 0
  · have H3 : Hid (R = 1) := by
      have h : R = 1 := by rw [HR.out]; unfold Oq.may; rw [if_pos (Or.inr (Or.inr (by rw [← HM.out]; exact h3)))]
      exact h
    subst h3
    go_wp2
    go_ret
    rw [H3.out]
    exact ⟨rfl, HB0.out⟩
  have h3' : ¬ (m : Int) = 0 := by omega
  by_cases h16 : 16 < m
  · have h16' : (16 : Int) < (m : Int) := by omega
    have H3 : Hid (R = 2) := by
      have h : R = 2 := by rw [HR.out]; unfold Oq.may; rw [if_neg (by rw [← HM.out]; omega), if_pos (by rw [← HM.out]; exact h16)]
      exact h
    clear h3
    go_wp2
    go_ret
    rw [H3.out]
    exact ⟨rfl, HB0.out⟩
  have h16' : ¬ (16 : Int) < (m : Int) := by omega
  have HR2 : Hid (R = if Oq.firstBad os ≠ 0 then Oq.firstBad os else if 1 < os.length ∧ os.any (fun o => decide (5 ≤ o.kind)) = true then 1 else 0) := by
    have h : R = if Oq.firstBad os ≠ 0 then Oq.firstBad os else if 1 < os.length ∧ os.any (fun o => decide (5 ≤ o.kind)) = true then 1 else 0 := by
      rw [HR.out]; unfold Oq.may; rw [if_neg (by rw [← HM.out]; omega), if_neg (by rw [← HM.out]; exact h16)]
    exact h
  clear h3
  go_wp2
  go_loopw [3] (fun i wr => ∃ k : Nat, k ≤ m ∧ i = .int .i64 (k : Int) ∧ Oq.firstBad (os.take k) = 0 ∧ Below w1.heap.size w1 wr) (fun i _ => ((m : Int) - intOf i).toNat)
  case atStart => exact ⟨0, Nat.zero_le _, rfl, rfl, Below.refl _ _⟩
  case round =>
    obtain ⟨k, hk, rfl, hany, hb⟩ := hrel
    have HA : Hid (Oq.firstBad (os.take k) = 0) := hany
    have HB1 : Hid (Below w1.heap.size w1 wr) := hb
    have HB : Hid (Below w.heap.size w wr) := HB0.out.trans (hb.mono HB0.out.size)
    obtain ⟨d0, d1, d2⟩ := HBX.out.below hb
    clear hany hb c0 c1 c2
    by_cases hlt : k < m
    · have hlt' : (k : Int) < (m : Int) := by omega
      have hkl : k < os.length := by rw [← HM.out]; exact hlt
      obtain ⟨g, b, c', hv', hcs⟩ := (HU.out.below HB.out).at (by omega)
      simp only [Value.slice.injEq] at hv'
      obtain ⟨rfl, hq, rfl⟩ := hv'
      obtain ⟨e0, e1, e2, e3, e4⟩ := hcs k os[k] (List.getElem?_eq_getElem hkl)
      have HK : Hid (os[k]? = some os[k] ∧ os[k].path.size ≤ maxLen ∧ os[k].data.size ≤ maxLen) := ⟨List.getElem?_eq_getElem hkl, HSN.out _ (List.getElem_mem hkl)⟩
      generalize os[k] = o at *
      clear hcs hq hkl
      go_wp2_with fail
      refine (refOp_any o _ HK.out.2.1 HK.out.2.2).mono ?_
      rintro e w2 ⟨rfl, hb⟩
      have HB2 : Hid (Below w1.heap.size w1 w2) := HB1.out.trans (hb.mono HB1.out.size)
      have HBW : Hid (Below w.heap.size w w2) := HB.out.trans (hb.mono HB.out.size)
      clear hb d0 d1 d2 e0 e1 e2 e3 e4
      obtain ⟨E, hE⟩ : ∃ E, E = Oq.good o := ⟨_, rfl⟩
      have HE : Hid (E = Oq.good o) := hE
      rw [← hE]
      clear hE
      have HF := Oq.firstBad_take HK.out.1 HA.out
      have HF : Hid ((Oq.good o ≠ 0 → Oq.firstBad os = Oq.good o) ∧ (Oq.good o = 0 → Oq.firstBad (os.take (k + 1)) = 0)) := HF
      by_cases hE0 : E = 0
      · have HA2 : Hid (Oq.firstBad (os.take (k + 1)) = 0) := by
          have h : Oq.firstBad (os.take (k + 1)) = 0 := HF.out.2 (by rw [← HE.out]; exact hE0)
          exact h
        subst hE0
        go_wp2
        go_roundw
        case rel => exact ⟨k + 1, by omega, by go_num, HA2.out, HB2.out⟩
        case measure => simp [intOf]; omega
      · have H3 : Hid (R = E) := by
          have h : R = E := by
            have hne : Oq.good o ≠ 0 := by rw [← HE.out]; exact hE0
            rw [HR2.out, HF.out.1 hne, if_pos hne, HE.out]
          exact h
        go_wp2
        go_ret
        rw [H3.out]
        exact ⟨rfl, HBW.out⟩
    · have hlt' : ¬ (k : Int) < (m : Int) := by omega
      have HR3 : Hid (R = if 1 < os.length ∧ os.any (fun o => decide (5 ≤ o.kind)) = true then 1 else 0) := by
        have h : R = if 1 < os.length ∧ os.any (fun o => decide (5 ≤ o.kind)) = true then 1 else 0 := by
          have h2 := HA.out
          rw [List.take_of_length_le (by rw [← HM.out]; omega)] at h2
          rw [HR2.out, h2]
          rfl
        exact h
      obtain ⟨wq, hwq⟩ : ∃ wq, wq = wr := ⟨wr, rfl⟩
      subst hwq
      go_wp2
      go_loopw [5] (fun i wr => ∃ k : Nat, k ≤ m ∧ i = .int .i64 (k : Int) ∧ (1 < os.length → ((os.take k).any fun o => decide (5 ≤ o.kind)) = false) ∧ wr = wq) (fun i _ => ((m : Int) - intOf i).toNat)
      case atStart => exact ⟨0, Nat.zero_le _, rfl, fun _ => rfl, rfl⟩
      case round =>
        obtain ⟨j, hj, rfl, hany, hw⟩ := hrel
        subst hw
        have HA4 : Hid (1 < os.length → ((os.take j).any fun o => decide (5 ≤ o.kind)) = false) := hany
        clear hany
        by_cases hlt2 : j < m
        · have hlt2' : (j : Int) < (m : Int) := by omega
          have hkl : j < os.length := by rw [← HM.out]; exact hlt2
          by_cases hm1 : 1 < m
          · have hm1' : (1 : Int) < (m : Int) := by omega
            obtain ⟨g, b, c', hv', hcs⟩ := (HU.out.below HB.out).at (by omega)
            simp only [Value.slice.injEq] at hv'
            obtain ⟨rfl, hq, rfl⟩ := hv'
            obtain ⟨e0, _, _, _, _⟩ := hcs j os[j] (List.getElem?_eq_getElem hkl)
            have HK : Hid (os[j]? = some os[j]) := List.getElem?_eq_getElem hkl
            generalize os[j] = o at *
            have HF : Hid ((5 ≤ o.kind → (os.any fun o => decide (5 ≤ o.kind)) = true) ∧ (¬ 5 ≤ o.kind → ((os.take (j + 1)).any fun o => decide (5 ≤ o.kind)) = false)) := any_take HK.out (HA4.out (by rw [← HM.out]; exact hm1))
            clear hcs hq hkl
            by_cases h5 : 5 ≤ o.kind
            · have H3 : Hid (R = 1) := by
                have h : R = 1 := by rw [HR3.out, if_pos ⟨by rw [← HM.out]; exact hm1, HF.out.1 h5⟩]
                exact h
              go_wp2
              go_ret
              rw [H3.out]
              exact ⟨rfl, HB.out⟩
            · have HA5 : Hid (((os.take (j + 1)).any fun o => decide (5 ≤ o.kind)) = false) := HF.out.2 h5
              go_wp2
              go_roundw
              case rel => exact ⟨j + 1, by omega, by go_num, fun _ => HA5.out, trivial⟩
              case measure => simp [intOf]; omega
          · have hm1' : ¬ (1 : Int) < (m : Int) := by omega
            clear hkl
            go_wp2
            go_roundw
            case rel => exact ⟨j + 1, by omega, by go_num, fun h => by rw [← HM.out] at h; omega, trivial⟩
            case measure => simp [intOf]; omega
        · have hlt2' : ¬ (j : Int) < (m : Int) := by omega
          have H3 : Hid (R = 0) := by
            have h : R = 0 := by
              rw [HR3.out, if_neg]
              rintro ⟨h1, h2⟩
              have h3 := HA4.out h1
              rw [List.take_of_length_le (by rw [← HM.out]; omega), h2] at h3
              cases h3
            exact h
          go_wp2
          go_ret
          rw [H3.out]
          exact ⟨rfl, HB.out⟩
end Go.Proofs.YtcpajjjkhikipaaGreatDoor
