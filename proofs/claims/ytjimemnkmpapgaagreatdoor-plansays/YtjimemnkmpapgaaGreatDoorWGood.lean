/- What op.Good answers, of every Op. -/
import Derived.Test.YtjimemnkmpapgaaGreatDoorSpecs5
import Derived.Test.YtjimemnkmpapgaaGreatDoorLibN
namespace Go.Proofs.YtjimemnkmpapgaaGreatDoor
open Go.RowKit

/-- A number has room behind its path, if it asks for one. -/
def Oq.canB (o : O) : Bool := decide (o.flags < 2) || (decide (2 ≤ (Pl.parts o.path.data.toList).length) && Pl.goodB (o.path.data.toList ++ Pl.dig10 0))

theorem Oq.seq_can {o : O} (h : Oq.headB o = false) (h2 : Oq.hasB o = false) : Oq.seqB o = !Oq.canB o := by
  obtain ⟨_, _, hg, _, hf0, hf3⟩ := Oq.head_no h
  have hl := (Pa.parts_len hg).1
  unfold Oq.seqB Oq.canB
  by_cases hf : 2 ≤ o.flags
  · have hk : o.kind = 1 := by
      unfold Oq.hasB at h2
      simp only [Bool.or_eq_false_iff, Bool.and_eq_false_iff, decide_eq_false_iff_not, Decidable.not_not] at h2
      rcases h2.2 with h | h
      · omega
      · exact h
    have e1 : decide (o.flags < 2) = false := decide_eq_false (by omega)
    rw [decide_eq_true hk, decide_eq_true hf, e1]
    by_cases hp : (Pl.parts o.path.data.toList).length = 1
    · rw [decide_eq_true hp, decide_eq_false (by omega)]
      simp
    · rw [decide_eq_false hp, decide_eq_true (by omega)]
      simp
  · have e1 : decide (o.flags < 2) = true := decide_eq_true (by omega)
    rw [decide_eq_false hf, e1]
    simp

set_option maxRecDepth 20000 in
set_option maxHeartbeats 4000000 in
theorem inRange_any (o : O) (w : World) (hS : Pa.Std w) (hp : o.path.size ≤ maxLen) :
    Calls Tryz.prog 73 #[ov o] w fun e w' => e = .returned (.bool (!Oq.headB o)) ∧ Below w.heap.size w w' := by
  have HBX : Hid (Box5 (w.alloc (.cells #[.int .i64 o.kind, .string o.path, .string o.data, .int .i64 o.ver, .int .i64 o.flags] 38)) w.heap.size o) := Box5.made w o _
  have HB0 : Hid (Below w.heap.size w (w.alloc (.cells #[.int .i64 o.kind, .string o.path, .string o.data, .int .i64 o.ver, .int .i64 o.flags] 38))) := (Below.refl _ w).alloc (Nat.le_refl _) _
  obtain ⟨C, hC⟩ : ∃ C : Bool, C = Oq.headB o := ⟨_, rfl⟩
  have HC : Hid (C = Oq.headB o) := hC
  rw [← hC]
  clear hC
  obtain ⟨K, p, d, V, F⟩ := o
  simp only [] at HBX HB0 hp
  have HP : Hid (p.size ≤ maxLen ∧ Pa.Std (w.alloc (.cells #[.int .i64 K, .string p, .string d, .int .i64 V, .int .i64 F] 38))) := ⟨hp, hS.below HB0.out⟩
  clear hp hS
  unfold ov
  go_enter Tryz.func73, Tryz.ntmps73
  go_upto_region 1 with fail
  generalize w.alloc (.cells #[.int .i64 K, .string p, .string d, .int .i64 V, .int .i64 F] 38) = w1 at *
  obtain ⟨c0, c1, c2, c3, c4⟩ := HBX.out
  simp only [] at c0 c1 c2 c3 c4
  by_cases h1 : K < 1
  · have H3 : Hid (C = true) := by
      have h : C = true := by rw [HC.out]; simp [Oq.headB, h1]
      exact h
    have h1' : ¬ (1 : Int) ≤ K := by omega
    go_wp2
    go_ret
    rw [H3.out]
    exact ⟨rfl, HB0.out⟩
  have h1' : (1 : Int) ≤ K := by omega
  by_cases h2 : 7 < K
  · have H3 : Hid (C = true) := by
      have h : C = true := by rw [HC.out]; simp [Oq.headB, h2]
      exact h
    have h2' : ¬ K ≤ (7 : Int) := by omega
    go_wp2
    go_ret
    rw [H3.out]
    exact ⟨rfl, HB0.out⟩
  have h2' : K ≤ (7 : Int) := by omega
  go_wp2_with fail
  refine (Pa.good_any p _ HP.out.2 HP.out.1).mono ?_
  rintro e w2 ⟨rfl, hb⟩
  have k3 := Below.kept hb c3
  have k4 := Below.kept hb c4
  have HB2 : Hid (Below w.heap.size w w2) := HB0.out.trans (hb.mono HB0.out.size)
  clear hb c0 c1 c2 c3 c4
  cases hg : Pl.goodB p.data.toList with
  | false =>
    have H3 : Hid (C = true) := by
      have h : C = true := by rw [HC.out]; simp [Oq.headB, hg]
      exact h
    clear hg
    go_wp2
    go_ret
    rw [H3.out]
    exact ⟨rfl, HB2.out⟩
  | true =>
    have HG : Hid (Pl.goodB p.data.toList = true) := hg
    clear hg
    by_cases h3 : V < -1
    · have H3 : Hid (C = true) := by
        have h : C = true := by rw [HC.out]; simp [Oq.headB, h3]
        exact h
      have h3' : ¬ (-1 : Int) ≤ V := by omega
      go_wp2
      go_ret
      rw [H3.out]
      exact ⟨rfl, HB2.out⟩
    have h3' : (-1 : Int) ≤ V := by omega
    by_cases h4 : F < 0
    · have H3 : Hid (C = true) := by
        have h : C = true := by rw [HC.out]; simp [Oq.headB, h4]
        exact h
      have h4' : ¬ (0 : Int) ≤ F := by omega
      go_wp2
      go_ret
      rw [H3.out]
      exact ⟨rfl, HB2.out⟩
    have h4' : (0 : Int) ≤ F := by omega
    by_cases h5 : 3 < F
    · have H3 : Hid (C = true) := by
        have h : C = true := by rw [HC.out]; simp [Oq.headB, h5]
        exact h
      have h5' : ¬ F ≤ (3 : Int) := by omega
      go_wp2
      go_ret
      rw [H3.out]
      exact ⟨ret_bool (decide_eq_false (by omega)), HB2.out⟩
    have h5' : F ≤ (3 : Int) := by omega
    have H3 : Hid (C = false) := by
      have h : C = false := by rw [HC.out]; simp [Oq.headB, h1, h2, h3, h4, h5, HG.out]
      exact h
    go_wp2
    go_ret
    rw [H3.out]
    exact ⟨rfl, HB2.out⟩

set_option maxRecDepth 20000 in
set_option maxHeartbeats 4000000 in
theorem ofItsKind_any (o : O) (w : World) :
    Calls Tryz.prog 74 #[ov o] w fun e w' => e = .returned (.bool (!Oq.hasB o)) ∧ Below w.heap.size w w' := by
  have HBX : Hid (Box5 (w.alloc (.cells #[.int .i64 o.kind, .string o.path, .string o.data, .int .i64 o.ver, .int .i64 o.flags] 38)) w.heap.size o) := Box5.made w o _
  have HB0 : Hid (Below w.heap.size w (w.alloc (.cells #[.int .i64 o.kind, .string o.path, .string o.data, .int .i64 o.ver, .int .i64 o.flags] 38))) := (Below.refl _ w).alloc (Nat.le_refl _) _
  obtain ⟨C, hC⟩ : ∃ C : Bool, C = Oq.hasB o := ⟨_, rfl⟩
  have HC : Hid (C = Oq.hasB o) := hC
  rw [← hC]
  clear hC
  obtain ⟨K, p, d, V, F⟩ := o
  simp only [] at HBX HB0
  have HSZ : Hid (d.toList.isEmpty = decide (d.size = 0)) := empty_size d
  have HHB : Hid (C = ((!d.toList.isEmpty && decide (K ≠ 1) && decide (K ≠ 3)) || (decide (V ≠ 0) && decide (K ≠ 2) && decide (K ≠ 3) && decide (K ≠ 4)) || (decide (F ≠ 0) && decide (K ≠ 1)))) := by
    have h : C = ((!d.toList.isEmpty && decide (K ≠ 1) && decide (K ≠ 3)) || (decide (V ≠ 0) && decide (K ≠ 2) && decide (K ≠ 3) && decide (K ≠ 4)) || (decide (F ≠ 0) && decide (K ≠ 1))) := by
      rw [HC.out]
      unfold Oq.hasB
      rw [HSZ.out]
      simp
    exact h
  clear HC HSZ
  unfold ov
  go_enter Tryz.func74, Tryz.ntmps74
  go_upto_region 1 with fail
  generalize w.alloc (.cells #[.int .i64 K, .string p, .string d, .int .i64 V, .int .i64 F] 38) = w1 at *
  obtain ⟨c0, c1, c2, c3, c4⟩ := HBX.out
  simp only [] at c0 c1 c2 c3 c4
  clear c1 HBX
  have hkk : K = 1 ∨ K = 2 ∨ K = 3 ∨ K = 4 ∨ (¬ K = 1 ∧ ¬ K = 2 ∧ ¬ K = 3 ∧ ¬ K = 4) := by omega
  rcases hkk with rfl | rfl | rfl | rfl | ⟨k1, k2, k3, k4⟩ <;> rcases Decidable.em (V = 0) with rfl | hv0 <;> rcases Decidable.em (F = 0) with rfl | hf00 <;> cases he : d.toList.isEmpty
  all_goals
    go_wp2
    go_ret
    exact ⟨by rw [HHB.out, he]; (first | simp [hv0, hf00, k1, k2, k3, k4] | simp [hv0, k1, k2, k3, k4] | simp [hf00, k1, k2, k3, k4] | simp [k1, k2, k3, k4] | simp [hv0, hf00] | simp [hv0] | simp [hf00] | simp), HB0.out⟩

set_option maxRecDepth 20000 in
set_option maxHeartbeats 4000000 in
theorem canBe_any (o : O) (w : World) (hS : Pa.Std w) (hg : Pl.goodB o.path.data.toList = true) (hp : o.path.size ≤ maxLen) (hf0 : 0 ≤ o.flags) (hf3 : o.flags ≤ 3) :
    Calls Tryz.prog 75 #[ov o] w fun e w' => e = .returned (.bool (Oq.canB o)) ∧ Below w.heap.size w w' := by
  have HBX : Hid (Box5 (w.alloc (.cells #[.int .i64 o.kind, .string o.path, .string o.data, .int .i64 o.ver, .int .i64 o.flags] 38)) w.heap.size o) := Box5.made w o _
  have HB0 : Hid (Below w.heap.size w (w.alloc (.cells #[.int .i64 o.kind, .string o.path, .string o.data, .int .i64 o.ver, .int .i64 o.flags] 38))) := (Below.refl _ w).alloc (Nat.le_refl _) _
  obtain ⟨C, hC⟩ : ∃ C : Bool, C = Oq.canB o := ⟨_, rfl⟩
  have HC : Hid (C = Oq.canB o) := hC
  rw [← hC]
  clear hC
  obtain ⟨K, p, d, V, F⟩ := o
  simp only [] at HBX HB0 hp hg hf0 hf3
  have HP : Hid (p.size ≤ maxLen ∧ Pl.goodB p.data.toList = true ∧ Pa.Std (w.alloc (.cells #[.int .i64 K, .string p, .string d, .int .i64 V, .int .i64 F] 38))) := ⟨hp, hg, hS.below HB0.out⟩
  clear hp hS hg
  unfold ov
  go_enter Tryz.func75, Tryz.ntmps75
  go_upto_region 1 with fail
  generalize w.alloc (.cells #[.int .i64 K, .string p, .string d, .int .i64 V, .int .i64 F] 38) = w1 at *
  obtain ⟨c0, c1, c2, c3, c4⟩ := HBX.out
  simp only [] at c0 c1 c2 c3 c4
  clear c0 c2 c3
  by_cases h2F : 2 ≤ F
  · have hand : bits .and .i64 F 2 = 2 := by rw [Oq.and2 F hf0 hf3, if_pos h2F]
    have HC2 : Hid (C = (decide (2 ≤ (Pl.parts p.data.toList).length) && Pl.goodB (p.data.toList ++ Pl.dig10 0))) := by
      have h : C = (decide (2 ≤ (Pl.parts p.data.toList).length) && Pl.goodB (p.data.toList ++ Pl.dig10 0)) := by
        rw [HC.out]
        unfold Oq.canB
        simp only []
        rw [decide_eq_false (by omega)]
        simp
      exact h
    by_cases hpl : 2 ≤ (Pl.parts p.data.toList).length
    · have HPL : Hid (2 ≤ (Pl.parts p.data.toList).length) := hpl
      clear hpl
      go_wp2_with fail
      refine (Pa.parent_yes p _ HP.out.2.2 HP.out.2.1 HPL.out).mono ?_
      rintro e w2 ⟨x, rfl, _, hb⟩
      have k1 := Below.kept hb c1
      have HS2 : Hid (Pa.Std w2) := HP.out.2.2.below hb
      have HB2 : Hid (Below w.heap.size w w2) := HB0.out.trans (hb.mono HB0.out.size)
      clear hb c1 c4
      go_wp2_with fail
      refine (Pa.number_any p 0 _ HS2.out HP.out.2.1 (by omega) (by omega)).mono ?_
      rintro e w3 hcase
      have hb3 : Below w2.heap.size w2 w3 := by rcases hcase with ⟨_, _, _, _, hb⟩ | ⟨_, _, hb⟩ <;> exact hb
      have HB3 : Hid (Below w.heap.size w w3) := HB2.out.trans (hb3.mono HB2.out.size)
      clear hb3 k1
      rcases hcase with ⟨x3, rfl, _, hgd, _⟩ | ⟨rfl, hgd, _⟩
      · have H3 : Hid (C = true) := by
          have h : C = true := by rw [HC2.out, decide_eq_true HPL.out]; exact hgd
          exact h
        clear hgd
        go_wp2
        go_ret
        rw [H3.out]
        exact ⟨rfl, HB3.out⟩
      · have H3 : Hid (C = false) := by
          have h : C = false := by rw [HC2.out, decide_eq_true HPL.out]; exact hgd
          exact h
        clear hgd
        go_wp2
        go_ret
        rw [H3.out]
        exact ⟨rfl, HB3.out⟩
    · have HPL : Hid ((Pl.parts p.data.toList).length < 2) := by
        have h : (Pl.parts p.data.toList).length < 2 := by omega
        exact h
      have H3 : Hid (C = false) := by
        have h : C = false := by rw [HC2.out, decide_eq_false hpl]; rfl
        exact h
      clear hpl
      go_wp2_with fail
      refine (Pa.parent_no p _ HP.out.2.2 HP.out.1 HPL.out).mono ?_
      rintro e w2 ⟨rfl, hb⟩
      have HB2 : Hid (Below w.heap.size w w2) := HB0.out.trans (hb.mono HB0.out.size)
      clear hb c1 c4
      go_wp2
      go_ret
      rw [H3.out]
      exact ⟨rfl, HB2.out⟩
  · have hand : bits .and .i64 F 2 = 0 := by rw [Oq.and2 F hf0 hf3, if_neg h2F]
    have H3 : Hid (C = true) := by
      have h : C = true := by
        rw [HC.out]
        unfold Oq.canB
        simp only []
        rw [decide_eq_true (by omega)]
        simp
      exact h
    go_wp2
    go_ret
    rw [H3.out]
    exact ⟨rfl, HB0.out⟩

set_option maxRecDepth 20000 in
set_option maxHeartbeats 4000000 in
theorem good_spec : GoodSpec := by
  intro o w hS hfit
  have HBX : Hid (Box5 (w.alloc (.cells #[.int .i64 o.kind, .string o.path, .string o.data, .int .i64 o.ver, .int .i64 o.flags] 38)) w.heap.size o) := Box5.made w o _
  have HB0 : Hid (Below w.heap.size w (w.alloc (.cells #[.int .i64 o.kind, .string o.path, .string o.data, .int .i64 o.ver, .int .i64 o.flags] 38))) := (Below.refl _ w).alloc (Nat.le_refl _) _
  obtain ⟨R, hR⟩ : ∃ R : Int, R = Oq.good o := ⟨_, rfl⟩
  have HR : Hid (R = Oq.good o) := hR
  rw [← hR]
  clear hR
  obtain ⟨C1, hC1⟩ : ∃ C : Bool, C = Oq.headB o := ⟨_, rfl⟩
  have HC1 : Hid (C1 = Oq.headB o) := hC1
  obtain ⟨C2, hC2⟩ : ∃ C : Bool, C = Oq.hasB o := ⟨_, rfl⟩
  have HC2 : Hid (C2 = Oq.hasB o) := hC2
  obtain ⟨C3, hC3⟩ : ∃ C : Bool, C = Oq.canB o := ⟨_, rfl⟩
  have HC3 : Hid (C3 = Oq.canB o) := hC3
  clear hC1 hC2 hC3
  obtain ⟨K, p, d, V, F⟩ := o
  simp only [] at HBX HB0
  have HP : Hid (p.size ≤ maxLen ∧ d.size ≤ maxLen ∧ Pa.Std (w.alloc (.cells #[.int .i64 K, .string p, .string d, .int .i64 V, .int .i64 F] 38))) := ⟨hfit.path, hfit.data, hS.below HB0.out⟩
  have hd1 : d.size ≤ 9223372036854775807 := by have := HP.out.2.1; unfold maxLen at this; exact this
  clear hfit hS
  unfold ov
  go_enter Tryz.func53, Tryz.ntmps53
  go_upto_region 1 with fail
  generalize w.alloc (.cells #[.int .i64 K, .string p, .string d, .int .i64 V, .int .i64 F] 38) = w1 at *
  obtain ⟨c0, c1, c2, c3, c4⟩ := HBX.out
  simp only [] at c0 c1 c2 c3 c4
  go_wp2_with fail
  refine (inRange_any ⟨K, p, d, V, F⟩ _ HP.out.2.2 HP.out.1).mono ?_
  rintro e w2 ⟨rfl, hb⟩
  rw [← HC1.out]
  have HX2 : Hid (Box5 w2 w.heap.size ⟨K, p, d, V, F⟩) := HBX.out.below hb
  have HS2 : Hid (Pa.Std w2) := HP.out.2.2.below hb
  have HB2 : Hid (Below w.heap.size w w2) := HB0.out.trans (hb.mono HB0.out.size)
  clear hb c0 c1 c2 c3 c4 HB0 HBX
  cases C1 with
  | true =>
    have H3 : Hid (R = 1) := by
      have h : R = 1 := by rw [HR.out]; exact Oq.good_head HC1.out.symm
      exact h
    go_wp2
    go_ret
    rw [H3.out]
    exact ⟨rfl, HB2.out⟩
  | false =>
    obtain ⟨_, _, hg, _, hf0, hf3⟩ := Oq.head_no HC1.out.symm
    simp only [] at hg hf0 hf3
    have HG : Hid (Pl.goodB p.data.toList = true ∧ 0 ≤ F ∧ F ≤ 3) := ⟨hg, hf0, hf3⟩
    clear hg hf0 hf3
    obtain ⟨c0, c1, c2, c3, c4⟩ := HX2.out
    simp only [] at c0 c1 c2 c3 c4
    by_cases hlong : 1000 < d.size
    · have hlong' : (1000 : Int) < (d.size : Int) := by omega
      have H3 : Hid (R = 2) := by
        have h : R = 2 := by rw [HR.out]; exact Oq.good_long HC1.out.symm hlong
        exact h
      go_wp2
      go_ret
      rw [H3.out]
      exact ⟨rfl, HB2.out⟩
    · have hlong' : ¬ (1000 : Int) < (d.size : Int) := by omega
      have HL : Hid (¬ 1000 < d.size) := hlong
      go_wp2_with fail
      refine (ofItsKind_any ⟨K, p, d, V, F⟩ _).mono ?_
      rintro e w3 ⟨rfl, hb⟩
      rw [← HC2.out]
      have HX3 : Hid (Box5 w3 w.heap.size ⟨K, p, d, V, F⟩) := HX2.out.below hb
      have HS3 : Hid (Pa.Std w3) := HS2.out.below hb
      have HB3 : Hid (Below w.heap.size w w3) := HB2.out.trans (hb.mono HB2.out.size)
      clear hb c0 c1 c2 c3 c4 hlong hlong'
      cases C2 with
      | true =>
        have H3 : Hid (R = 1) := by
          have h : R = 1 := by rw [HR.out]; exact Oq.good_has HC1.out.symm HL.out HC2.out.symm
          exact h
        go_wp2
        go_ret
        rw [H3.out]
        exact ⟨rfl, HB3.out⟩
      | false =>
        obtain ⟨c0, c1, c2, c3, c4⟩ := HX3.out
        simp only [] at c0 c1 c2 c3 c4
        go_wp2_with fail
        refine (canBe_any ⟨K, p, d, V, F⟩ _ HS3.out HG.out.1 HP.out.1 HG.out.2.1 HG.out.2.2).mono ?_
        rintro e w4 ⟨rfl, hb⟩
        rw [← HC3.out]
        have HB4 : Hid (Below w.heap.size w w4) := HB3.out.trans (hb.mono HB3.out.size)
        clear hb c0 c1 c2 c3 c4
        have HRS : Hid (R = if C3 then 0 else 1) := by
          have h : R = if C3 then 0 else 1 := by
            rw [HR.out, Oq.good_seq HC1.out.symm HL.out HC2.out.symm, Oq.seq_can HC1.out.symm HC2.out.symm, ← HC3.out]
            cases C3 <;> rfl
          exact h
        cases C3 with
        | true =>
          have H3 : Hid (R = 0) := HRS.out
          go_wp2
          go_ret
          rw [H3.out]
          exact ⟨rfl, HB4.out⟩
        | false =>
          have H3 : Hid (R = 1) := HRS.out
          go_wp2
          go_ret
          rw [H3.out]
          exact ⟨rfl, HB4.out⟩
end Go.Proofs.YtjimemnkmpapgaaGreatDoor
