/- What the reference's Op answers. What the reference's May answers. -/
import Derived.Test.YtjimemnkmpapgaaGreatDoorBox
import Derived.Test.YtjimemnkmpapgaaGreatDoorLibQ
import Derived.Deep.DeepCutAuto
namespace Go.Proofs.YtjimemnkmpapgaaGreatDoor
open Go.RowKit

set_option maxRecDepth 20000 in
set_option maxHeartbeats 8000000 in
theorem refOp_any (o : O) (w : World) (hp : o.path.size ≤ maxLen) (hd : o.data.size ≤ maxLen) :
    Calls Tryz.prog 61 #[ov o] w fun e w' => e = .returned (.int .i64 (Oq.good o)) ∧ Below w.heap.size w w' := by
  have HBX : Hid (Box5 (w.alloc (.cells #[.int .i64 o.kind, .string o.path, .string o.data, .int .i64 o.ver, .int .i64 o.flags] 38)) w.heap.size o) := Box5.made w o _
  have HB0 : Hid (Below w.heap.size w (w.alloc (.cells #[.int .i64 o.kind, .string o.path, .string o.data, .int .i64 o.ver, .int .i64 o.flags] 38))) := (Below.refl _ w).alloc (Nat.le_refl _) _
  obtain ⟨R, hR⟩ : ∃ R : Int, R = Oq.good o := ⟨_, rfl⟩
  have HR : Hid (R = Oq.good o) := hR
  rw [← hR]
  clear hR
  obtain ⟨C1, hC1⟩ : ∃ C : Bool, C = Oq.headB o := ⟨_, rfl⟩
  have HC1 : Hid (C1 = Oq.headB o) := hC1
  obtain ⟨C2, hC2⟩ : ∃ C : Bool, C = Oq.hasB o := ⟨_, rfl⟩
  have HC2 : Hid (C2 = Oq.hasB o) := hC2
  clear hC1 hC2
  have HU : Hid (∃ K p d V F, o = ⟨K, p, d, V, F⟩) := by cases o; exact ⟨_, _, _, _, _, rfl⟩
  obtain ⟨K, p, d, V, F, ho⟩ := HU.out
  have HO : Hid (o = ⟨K, p, d, V, F⟩) := ho
  subst ho
  simp only [] at HBX HB0 hp hd
  have HP : Hid (p.size ≤ maxLen) := hp
  have hd1 : d.size ≤ 9223372036854775807 := by unfold maxLen at hd; exact hd
  clear hp hd HU HO
  unfold ov
  go_enter Tryz.func61, Tryz.ntmps61
  go_upto_region 1 with fail
  generalize w.alloc (.cells #[.int .i64 K, .string p, .string d, .int .i64 V, .int .i64 F] 38) = w1 at *
  go_cut [33] (fun c wx => c = .bool C1 ∧ Below w1.heap.size w1 wx)
  case first =>
    obtain ⟨c0, c1, c2, c3, c4⟩ := HBX.out
    simp only [] at c0 c1 c2 c3 c4
    by_cases h1 : K < 1
    · have H3 : Hid (C1 = true) := by
        have h : C1 = true := by rw [HC1.out]; simp [Oq.headB, h1]
        exact h
      go_wp2
      go_meet
      case rel => exact ⟨by rw [H3.out], Below.refl _ _⟩
    by_cases h2 : 7 < K
    · have H3 : Hid (C1 = true) := by
        have h : C1 = true := by rw [HC1.out]; simp [Oq.headB, h2]
        exact h
      go_wp2
      go_meet
      case rel => exact ⟨by rw [H3.out], Below.refl _ _⟩
    go_wp2_with fail
    refine (Pa.refGood_any p _ HP.out).mono ?_
    rintro e w2 ⟨rfl, hb⟩
    have k3 := Below.kept hb c3
    have k4 := Below.kept hb c4
    have HB2 : Hid (Below w1.heap.size w1 w2) := hb
    clear hb c0 c1 c2 c3 c4
    cases hg : Pl.goodB p.data.toList with
    | false =>
      have H3 : Hid (C1 = true) := by
        have h : C1 = true := by rw [HC1.out]; simp [Oq.headB, hg]
        exact h
      clear hg
      go_wp2
      go_meet
      case rel => exact ⟨by rw [H3.out], HB2.out⟩
    | true =>
      have HG : Hid (Pl.goodB p.data.toList = true) := hg
      clear hg
      by_cases h3 : V < -1
      · have H3 : Hid (C1 = true) := by
          have h : C1 = true := by rw [HC1.out]; simp [Oq.headB, h3]
          exact h
        go_wp2
        go_meet
        case rel => exact ⟨by rw [H3.out], HB2.out⟩
      by_cases h4 : F < 0
      · have H3 : Hid (C1 = true) := by
          have h : C1 = true := by rw [HC1.out]; simp [Oq.headB, h4]
          exact h
        go_wp2
        go_meet
        case rel => exact ⟨by rw [H3.out], HB2.out⟩
      by_cases h5 : 3 < F
      · have H3 : Hid (C1 = true) := by
          have h : C1 = true := by rw [HC1.out]; simp [Oq.headB, h5]
          exact h
        go_wp2
        go_meet
        case rel => exact ⟨by rw [H3.out], HB2.out⟩
      have H3 : Hid (C1 = false) := by
        have h : C1 = false := by rw [HC1.out]; simp [Oq.headB, h1, h2, h3, h4, h5, HG.out]
        exact h
      go_wp2
      go_meet
      case rel => exact ⟨by rw [H3.out, decide_eq_false (by omega), decide_eq_false (by omega), decide_eq_false (by omega)]; rfl, HB2.out⟩
  case rest =>
    obtain ⟨rfl, hb⟩ := hcut
    obtain ⟨wb, hwb⟩ : ∃ wb, wb = wc := ⟨_, rfl⟩
    subst hwb
    have HB2 : Hid (Below w.heap.size w wb) := HB0.out.trans (hb.mono HB0.out.size)
    have HX2 : Hid (Box5 wb w.heap.size ⟨K, p, d, V, F⟩) := HBX.out.below hb
    clear hb HBX HB0
    cases C1 with
    | true =>
      have H3 : Hid (R = 1) := by
        have h : R = 1 := by rw [HR.out]; exact Oq.good_head HC1.out.symm
        exact h
      go_wp2
      go_ret
      rw [H3.out]
      exact ⟨rfl, HB2.out⟩
    | false =>
      obtain ⟨hk1, hk7, hg, hv, hf0, hf3⟩ := Oq.head_no HC1.out.symm
      simp only [] at hk1 hk7 hg hv hf0 hf3
      have HG : Hid (Pl.goodB p.data.toList = true) := hg
      obtain ⟨c0, c1, c2, c3, c4⟩ := HX2.out
      simp only [] at c0 c1 c2 c3 c4
      clear hg
      by_cases hlong : 1000 < d.size
      · have hlong' : (1000 : Int) < (d.size : Int) := by omega
        have H3 : Hid (R = 2) := by
          have h : R = 2 := by rw [HR.out]; exact Oq.good_long HC1.out.symm hlong
          exact h
        go_wp2
        go_ret
        rw [H3.out]
        exact ⟨rfl, HB2.out⟩
      · have hlong' : ¬ (1000 : Int) < (d.size : Int) := by omega
        go_upto_region 5 with fail
        go_cut [80] (fun c wx => c = .bool C2 ∧ wx = wb)
        case first =>
          have hkk : K = 1 ∨ K = 2 ∨ K = 3 ∨ K = 4 ∨ (¬ K = 1 ∧ ¬ K = 2 ∧ ¬ K = 3 ∧ ¬ K = 4) := by omega
          have HSZ : Hid (d.toList.isEmpty = decide (d.size = 0)) := empty_size d
          have HHB : Hid (∀ K V F, Oq.hasB ⟨K, p, d, V, F⟩ = ((!d.toList.isEmpty && decide (K ≠ 1) && decide (K ≠ 3)) || (decide (V ≠ 0) && decide (K ≠ 2) && decide (K ≠ 3) && decide (K ≠ 4)) || (decide (F ≠ 0) && decide (K ≠ 1)))) := fun K V F => by
            unfold Oq.hasB
            rw [HSZ.out]
            simp
          clear HSZ hk1 hk7 hv hf0 hf3 HC1 HR HB2 HX2
          rcases Decidable.em (V = 0) with rfl | hv0 <;> rcases Decidable.em (F = 0) with rfl | hf00 <;> cases he : d.toList.isEmpty <;> rcases hkk with rfl | rfl | rfl | rfl | ⟨k1, k2, k3, k4⟩
          all_goals
            go_wp2
            go_meet
            case rel => exact ⟨by rw [HC2.out, HHB.out, he]; (first | simp [hv0, hf00, k1, k2, k3, k4] | simp [hv0, k1, k2, k3, k4] | simp [hf00, k1, k2, k3, k4] | simp [k1, k2, k3, k4] | simp [hv0, hf00] | simp [hv0] | simp [hf00] | simp), rfl⟩
        case rest =>
          obtain ⟨rfl, hw⟩ := hcut
          rw [hw]
          clear hw
          cases C2 with
          | true =>
            have H3 : Hid (R = 1) := by
              have h : R = 1 := by rw [HR.out]; exact Oq.good_has HC1.out.symm hlong HC2.out.symm
              exact h
            go_wp2
            go_ret
            rw [H3.out]
            exact ⟨rfl, HB2.out⟩
          | false =>
            have HRS : Hid (R = if Oq.seqB ⟨K, p, d, V, F⟩ then 1 else 0) := by
              have h : R = if Oq.seqB ⟨K, p, d, V, F⟩ then 1 else 0 := by rw [HR.out]; exact Oq.good_seq HC1.out.symm hlong HC2.out.symm
              exact h
            by_cases hK1 : K = 1
            · subst hK1
              by_cases h2F : 2 ≤ F
              · have hand : bits .and .i64 F 2 = 2 := by rw [Oq.and2 F hf0 hf3, if_pos h2F]
                clear c2 c3
                go_wp2_with fail
                refine (Pa.refNumber_any p 0 _ HG.out (by omega)).mono ?_
                rintro e w3 hcase
                have hb3 : Below wb.heap.size wb w3 := by rcases hcase with ⟨_, _, _, _, hb⟩ | ⟨_, _, hb⟩ <;> exact hb
                have k1 := Below.kept hb3 c1
                have HB3 : Hid (Below w.heap.size w w3) := HB2.out.trans (hb3.mono HB2.out.size)
                obtain ⟨x, N, rfl, hN⟩ : ∃ (x : ByteArray) (N : Bool), e = .returned (.tuple #[.string x, .bool N]) ∧ N = Pl.goodB (p.data.toList ++ Pl.dig10 0) := by
                  rcases hcase with ⟨x, he, _, h, _⟩ | ⟨he, h, _⟩
                  · exact ⟨x, true, he, h.symm⟩
                  · exact ⟨_, false, he, h.symm⟩
                have HNN : Hid (N = Pl.goodB (p.data.toList ++ Pl.dig10 0)) := hN
                clear hcase hb3 hN c0 c1 c4
                go_wp2_with fail
                refine (Pa.refParts_good p _ HG.out).mono ?_
                rintro e w4 ⟨g4, cap4, xs, rfl, hcap, hxs, hrow⟩
                have HB4 : Hid (Below w.heap.size w w4) := HB3.out.trans (hrow.below.mono HB3.out.size)
                have HXL : Hid (xs.length = (Pl.parts p.data.toList).length) := by
                  have h : xs.length = (Pl.parts p.data.toList).length := by rw [← hxs, List.length_map]
                  exact h
                have hx8 : xs.length ≤ 8 := by rw [HXL.out]; exact (Pa.parts_len HG.out).2
                clear hcap hxs hrow k1
                generalize xs.length = m at *
                by_cases hm1 : m = 1
                · have H3 : Hid (R = 1) := by
                    have h : R = 1 := by rw [HRS.out]; unfold Oq.seqB; simp only []; rw [← HXL.out]; simp [hm1, h2F]
                    exact h
                  subst hm1
                  go_wp2
                  go_ret
                  rw [H3.out]
                  exact ⟨rfl, HB4.out⟩
                · have hm1' : ¬ (m : Int) = 1 := by omega
                  cases N with
                  | true =>
                    have H3 : Hid (R = 0) := by
                      have h : R = 0 := by rw [HRS.out]; unfold Oq.seqB; simp only []; rw [← HXL.out, ← HNN.out]; simp [hm1]
                      exact h
                    clear hm1
                    go_wp2
                    go_ret
                    rw [H3.out]
                    exact ⟨rfl, HB4.out⟩
                  | false =>
                    have H3 : Hid (R = 1) := by
                      have h : R = 1 := by rw [HRS.out]; unfold Oq.seqB; simp only []; rw [← HXL.out, ← HNN.out]; simp [h2F]
                      exact h
                    clear hm1
                    go_wp2
                    go_ret
                    rw [H3.out]
                    exact ⟨rfl, HB4.out⟩
              · have hand : bits .and .i64 F 2 = 0 := by rw [Oq.and2 F hf0 hf3, if_neg h2F]
                have H3 : Hid (R = 0) := by
                  have h : R = 0 := by rw [HRS.out]; unfold Oq.seqB; simp [h2F]
                  exact h
                go_wp2
                go_ret
                rw [H3.out]
                exact ⟨rfl, HB2.out⟩
            · have H3 : Hid (R = 0) := by
                have h : R = 0 := by rw [HRS.out]; unfold Oq.seqB; simp [hK1]
                exact h
              go_wp2
              go_ret
              rw [H3.out]
              exact ⟨rfl, HB2.out⟩
end Go.Proofs.YtjimemnkmpapgaaGreatDoor
namespace Go.Proofs.YtjimemnkmpapgaaGreatDoor
open Go.RowKit

set_option maxRecDepth 20000 in
set_option maxHeartbeats 4000000 in
theorem refMay_any (s n : Int) (u : Value) (os : List O) (w : World) (hu : Ol w u os) (hS : Sane os) :
    Calls Tryz.prog 41 #[.agg #[.int .i64 s, .int .i64 n, u]] w fun e w' => e = .returned (.int .i64 (Oq.may s n os)) ∧ Below w.heap.size w w' := by
  have HU : Hid (Ol w u os) := hu
  have HSN : Hid (Sane os) := hS
  have HBX : Hid (Box3 (w.alloc (.cells #[.int .i64 s, .int .i64 n, u] 55)) w.heap.size s n u) := Box3.made w s n u _
  have HB0 : Hid (Below w.heap.size w (w.alloc (.cells #[.int .i64 s, .int .i64 n, u] 55))) := (Below.refl _ w).alloc (Nat.le_refl _) _
  obtain ⟨R, hR⟩ : ∃ R : Int, R = Oq.may s n os := ⟨_, rfl⟩
  have HR : Hid (R = Oq.may s n os) := hR
  rw [← hR]
  obtain ⟨au, m, cu, rfl, hm, _⟩ := hu
  have HM : Hid (m = os.length) := hm
  clear hR hS hm
  go_enter Tryz.func41, Tryz.ntmps41
  go_upto_region 1 with fail
  generalize w.alloc (.cells #[.int .i64 s, .int .i64 n, .slice au m cu] 55) = w1 at *
  obtain ⟨c0, c1, c2⟩ := HBX.out
  by_cases h1 : s < 1
  · have H3 : Hid (R = 1) := by
      have h : R = 1 := by rw [HR.out]; unfold Oq.may; rw [if_pos (Or.inl h1)]
      exact h
    go_wp2
    go_ret
    rw [H3.out]
    exact ⟨rfl, HB0.out⟩
  by_cases h2 : n < 1
  · have H3 : Hid (R = 1) := by
      have h : R = 1 := by rw [HR.out]; unfold Oq.may; rw [if_pos (Or.inr (Or.inl h2))]
      exact h
    go_wp2
    go_ret
    rw [H3.out]
    exact ⟨rfl, HB0.out⟩
  by_cases h3 : m = 0
  · have H3 : Hid (R = 1) := by
      have h : R = 1 := by rw [HR.out]; unfold Oq.may; rw [if_pos (Or.inr (Or.inr (by rw [← HM.out]; exact h3)))]
      exact h
    subst h3
    go_wp2
    go_ret
    rw [H3.out]
    exact ⟨rfl, HB0.out⟩
  have h3' : ¬ (m : Int) = 0 := by omega
  by_cases h16 : 16 < m
  · have h16' : (16 : Int) < (m : Int) := by omega
    have H3 : Hid (R = 2) := by
      have h : R = 2 := by rw [HR.out]; unfold Oq.may; rw [if_neg (by rw [← HM.out]; omega), if_pos (by rw [← HM.out]; exact h16)]
      exact h
    clear h3
    go_wp2
    go_ret
    rw [H3.out]
    exact ⟨rfl, HB0.out⟩
  have h16' : ¬ (16 : Int) < (m : Int) := by omega
  have HR2 : Hid (R = if Oq.firstBad os ≠ 0 then Oq.firstBad os else if 1 < os.length ∧ os.any (fun o => decide (5 ≤ o.kind)) = true then 1 else 0) := by
    have h : R = if Oq.firstBad os ≠ 0 then Oq.firstBad os else if 1 < os.length ∧ os.any (fun o => decide (5 ≤ o.kind)) = true then 1 else 0 := by
      rw [HR.out]; unfold Oq.may; rw [if_neg (by rw [← HM.out]; omega), if_neg (by rw [← HM.out]; exact h16)]
    exact h
  clear h3
  go_wp2
  go_loopw [3] (fun i wr => ∃ k : Nat, k ≤ m ∧ i = .int .i64 (k : Int) ∧ Oq.firstBad (os.take k) = 0 ∧ Below w1.heap.size w1 wr) (fun i _ => ((m : Int) - intOf i).toNat)
  case atStart => exact ⟨0, Nat.zero_le _, rfl, rfl, Below.refl _ _⟩
  case round =>
    obtain ⟨k, hk, rfl, hany, hb⟩ := hrel
    have HA : Hid (Oq.firstBad (os.take k) = 0) := hany
    have HB1 : Hid (Below w1.heap.size w1 wr) := hb
    have HB : Hid (Below w.heap.size w wr) := HB0.out.trans (hb.mono HB0.out.size)
    obtain ⟨d0, d1, d2⟩ := HBX.out.below hb
    clear hany hb c0 c1 c2
    by_cases hlt : k < m
    · have hlt' : (k : Int) < (m : Int) := by omega
      have hkl : k < os.length := by rw [← HM.out]; exact hlt
      obtain ⟨g, b, c', hv', hcs⟩ := (HU.out.below HB.out).at (by omega)
      simp only [Value.slice.injEq] at hv'
      obtain ⟨rfl, hq, rfl⟩ := hv'
      obtain ⟨e0, e1, e2, e3, e4⟩ := hcs k os[k] (List.getElem?_eq_getElem hkl)
      have HK : Hid (os[k]? = some os[k] ∧ os[k].path.size ≤ maxLen ∧ os[k].data.size ≤ maxLen) := ⟨List.getElem?_eq_getElem hkl, HSN.out _ (List.getElem_mem hkl)⟩
      generalize os[k] = o at *
      clear hcs hq hkl
      go_wp2_with fail
      refine (refOp_any o _ HK.out.2.1 HK.out.2.2).mono ?_
      rintro e w2 ⟨rfl, hb⟩
      have HB2 : Hid (Below w1.heap.size w1 w2) := HB1.out.trans (hb.mono HB1.out.size)
      have HBW : Hid (Below w.heap.size w w2) := HB.out.trans (hb.mono HB.out.size)
      clear hb d0 d1 d2 e0 e1 e2 e3 e4
      obtain ⟨E, hE⟩ : ∃ E, E = Oq.good o := ⟨_, rfl⟩
      have HE : Hid (E = Oq.good o) := hE
      rw [← hE]
      clear hE
      have HF := Oq.firstBad_take HK.out.1 HA.out
      have HF : Hid ((Oq.good o ≠ 0 → Oq.firstBad os = Oq.good o) ∧ (Oq.good o = 0 → Oq.firstBad (os.take (k + 1)) = 0)) := HF
      by_cases hE0 : E = 0
      · have HA2 : Hid (Oq.firstBad (os.take (k + 1)) = 0) := by
          have h : Oq.firstBad (os.take (k + 1)) = 0 := HF.out.2 (by rw [← HE.out]; exact hE0)
          exact h
        subst hE0
        go_wp2
        go_roundw
        case rel => exact ⟨k + 1, by omega, by go_num, HA2.out, HB2.out⟩
        case measure => simp [intOf]; omega
      · have H3 : Hid (R = E) := by
          have h : R = E := by
            have hne : Oq.good o ≠ 0 := by rw [← HE.out]; exact hE0
            rw [HR2.out, HF.out.1 hne, if_pos hne, HE.out]
          exact h
        go_wp2
        go_ret
        rw [H3.out]
        exact ⟨rfl, HBW.out⟩
    · have hlt' : ¬ (k : Int) < (m : Int) := by omega
      have HR3 : Hid (R = if 1 < os.length ∧ os.any (fun o => decide (5 ≤ o.kind)) = true then 1 else 0) := by
        have h : R = if 1 < os.length ∧ os.any (fun o => decide (5 ≤ o.kind)) = true then 1 else 0 := by
          have h2 := HA.out
          rw [List.take_of_length_le (by rw [← HM.out]; omega)] at h2
          rw [HR2.out, h2]
          rfl
        exact h
      obtain ⟨wq, hwq⟩ : ∃ wq, wq = wr := ⟨wr, rfl⟩
      subst hwq
      go_wp2
      go_loopw [5] (fun i wr => ∃ k : Nat, k ≤ m ∧ i = .int .i64 (k : Int) ∧ (1 < os.length → ((os.take k).any fun o => decide (5 ≤ o.kind)) = false) ∧ wr = wq) (fun i _ => ((m : Int) - intOf i).toNat)
      case atStart => exact ⟨0, Nat.zero_le _, rfl, fun _ => rfl, rfl⟩
      case round =>
        obtain ⟨j, hj, rfl, hany, hw⟩ := hrel
        subst hw
        have HA4 : Hid (1 < os.length → ((os.take j).any fun o => decide (5 ≤ o.kind)) = false) := hany
        clear hany
        by_cases hlt2 : j < m
        · have hlt2' : (j : Int) < (m : Int) := by omega
          have hkl : j < os.length := by rw [← HM.out]; exact hlt2
          by_cases hm1 : 1 < m
          · have hm1' : (1 : Int) < (m : Int) := by omega
            obtain ⟨g, b, c', hv', hcs⟩ := (HU.out.below HB.out).at (by omega)
            simp only [Value.slice.injEq] at hv'
            obtain ⟨rfl, hq, rfl⟩ := hv'
            obtain ⟨e0, _, _, _, _⟩ := hcs j os[j] (List.getElem?_eq_getElem hkl)
            have HK : Hid (os[j]? = some os[j]) := List.getElem?_eq_getElem hkl
            generalize os[j] = o at *
            have HF : Hid ((5 ≤ o.kind → (os.any fun o => decide (5 ≤ o.kind)) = true) ∧ (¬ 5 ≤ o.kind → ((os.take (j + 1)).any fun o => decide (5 ≤ o.kind)) = false)) := any_take HK.out (HA4.out (by rw [← HM.out]; exact hm1))
            clear hcs hq hkl
            by_cases h5 : 5 ≤ o.kind
            · have H3 : Hid (R = 1) := by
                have h : R = 1 := by rw [HR3.out, if_pos ⟨by rw [← HM.out]; exact hm1, HF.out.1 h5⟩]
                exact h
              go_wp2
              go_ret
              rw [H3.out]
              exact ⟨rfl, HB.out⟩
            · have HA5 : Hid (((os.take (j + 1)).any fun o => decide (5 ≤ o.kind)) = false) := HF.out.2 h5
              go_wp2
              go_roundw
              case rel => exact ⟨j + 1, by omega, by go_num, fun _ => HA5.out, trivial⟩
              case measure => simp [intOf]; omega
          · have hm1' : ¬ (1 : Int) < (m : Int) := by omega
            clear hkl
            go_wp2
            go_roundw
            case rel => exact ⟨j + 1, by omega, by go_num, fun h => by rw [← HM.out] at h; omega, trivial⟩
            case measure => simp [intOf]; omega
        · have hlt2' : ¬ (j : Int) < (m : Int) := by omega
          have H3 : Hid (R = 0) := by
            have h : R = 0 := by
              rw [HR3.out, if_neg]
              rintro ⟨h1, h2⟩
              have h3 := HA4.out h1
              rw [List.take_of_length_le (by rw [← HM.out]; omega), h2] at h3
              cases h3
            exact h
          go_wp2
          go_ret
          rw [H3.out]
          exact ⟨rfl, HB.out⟩
end Go.Proofs.YtjimemnkmpapgaaGreatDoor
