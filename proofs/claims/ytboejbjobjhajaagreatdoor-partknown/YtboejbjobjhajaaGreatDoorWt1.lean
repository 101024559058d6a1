/- What op.Good answers, of every Op. What the landed tree's place and created answer. What the landed tree's created answers. What slices.Clone of names, may and asked answer of a tree's own node. What asked answers of a tree's own node. What the landed tree's Try answers. -/
import Derived.Test.YtboejbjobjhajaaGreatDoorSpecs11
import Derived.Test.YtboejbjobjhajaaGreatDoorWnd
import Derived.Test.YtboejbjobjhajaaGreatDoorWtk
import Derived.Test.YtboejbjobjhajaaGreatDoorBas
import Derived.Lib.SliceRun
namespace Go.Proofs.YtboejbjobjhajaaGreatDoor
open Go.RowKit

def GoodSpec : Prop := ∀ (o : O) (w : World), Pa.Std w → OFit o →
  Calls Tryz.prog 84 #[ov o] w fun e w' => e = .returned (.int .i64 (Oq.good o)) ∧ Below w.heap.size w w'
def Oq.canB (o : O) : Bool := decide (o.flags < 2) || (decide (2 ≤ (Pl.parts o.path.data.toList).length) && Pl.goodB (o.path.data.toList ++ Pl.dig10 0))

theorem Oq.seq_can {o : O} (h : Oq.headB o = false) (h2 : Oq.hasB o = false) : Oq.seqB o = !Oq.canB o := by
  obtain ⟨_, _, hg, _, hf0, hf3⟩ := Oq.head_no h
  have hl := (Pa.parts_len hg).1
  unfold Oq.seqB Oq.canB
  by_cases hf : 2 ≤ o.flags
  · have hk : o.kind = 1 := by
      unfold Oq.hasB at h2
      simp only [Bool.or_eq_false_iff, Bool.and_eq_false_iff, decide_eq_false_iff_not, Decidable.not_not] at h2
      rcases h2.2 with h | h
      · omega
      · exact h
    have e1 : decide (o.flags < 2) = false := decide_eq_false (by omega)
    rw [decide_eq_true hk, decide_eq_true hf, e1]
    by_cases hp : (Pl.parts o.path.data.toList).length = 1
    · rw [decide_eq_true hp, decide_eq_false (by omega)]
      simp
    · rw [decide_eq_false hp, decide_eq_true (by omega)]
      simp
  · have e1 : decide (o.flags < 2) = true := decide_eq_true (by omega)
    rw [decide_eq_false hf, e1]
    simp

set_option maxRecDepth 20000 in
set_option maxHeartbeats 4000000 in
theorem inRange_any (o : O) (w : World) (hS : Pa.Std w) (hp : o.path.size ≤ maxLen) :
    Calls Tryz.prog 122 #[ov o] w fun e w' => e = .returned (.bool (!Oq.headB o)) ∧ Below w.heap.size w w' := by
  have HBX : Hid (Box5 (w.alloc (.cells #[.int .i64 o.kind, .string o.path, .string o.data, .int .i64 o.ver, .int .i64 o.flags] 30)) w.heap.size o) := Box5.made w o _
  have HB0 : Hid (Below w.heap.size w (w.alloc (.cells #[.int .i64 o.kind, .string o.path, .string o.data, .int .i64 o.ver, .int .i64 o.flags] 30))) := (Below.refl _ w).alloc (Nat.le_refl _) _
  obtain ⟨C, hC⟩ : ∃ C : Bool, C = Oq.headB o := ⟨_, rfl⟩
  have HC : Hid (C = Oq.headB o) := hC
  rw [← hC]
  clear hC
  obtain ⟨K, p, d, V, F⟩ := o
  simp only [] at HBX HB0 hp
  have HP : Hid (p.size ≤ maxLen ∧ Pa.Std (w.alloc (.cells #[.int .i64 K, .string p, .string d, .int .i64 V, .int .i64 F] 30))) := ⟨hp, hS.below HB0.out⟩
  clear hp hS
  unfold ov
  go_enter Tryz.func122, Tryz.ntmps122
  go_upto_region 1 with fail
  generalize w.alloc (.cells #[.int .i64 K, .string p, .string d, .int .i64 V, .int .i64 F] 30) = w1 at *
  obtain ⟨c0, c1, c2, c3, c4⟩ := HBX.out
  simp only [] at c0 c1 c2 c3 c4
  by_cases h1 : K < 1
  · have H3 : Hid (C = true) := by
      have h : C = true := by rw [HC.out]; simp [Oq.headB, h1]
      exact h
    have h1' : ¬ (1 : Int) ≤ K := by omega
    go_wp2
    go_ret
    rw [H3.out]
    exact ⟨rfl, HB0.out⟩
  have h1' : (1 : Int) ≤ K := by omega
  by_cases h2 : 7 < K
  · have H3 : Hid (C = true) := by
      have h : C = true := by rw [HC.out]; simp [Oq.headB, h2]
      exact h
    have h2' : ¬ K ≤ (7 : Int) := by omega
    go_wp2
    go_ret
    rw [H3.out]
    exact ⟨rfl, HB0.out⟩
  have h2' : K ≤ (7 : Int) := by omega
  go_wp2_with fail
  refine (Pa.good_any p _ HP.out.2 HP.out.1).mono ?_
  rintro e w2 ⟨rfl, hb⟩
  have k3 := Below.kept hb c3
  have k4 := Below.kept hb c4
  have HB2 : Hid (Below w.heap.size w w2) := HB0.out.trans (hb.mono HB0.out.size)
  clear hb c0 c1 c2 c3 c4
  cases hg : Pl.goodB p.data.toList with
  | false =>
    have H3 : Hid (C = true) := by
      have h : C = true := by rw [HC.out]; simp [Oq.headB, hg]
      exact h
    clear hg
    go_wp2
    go_ret
    rw [H3.out]
    exact ⟨rfl, HB2.out⟩
  | true =>
    have HG : Hid (Pl.goodB p.data.toList = true) := hg
    clear hg
    by_cases h3 : V < -1
    · have H3 : Hid (C = true) := by
        have h : C = true := by rw [HC.out]; simp [Oq.headB, h3]
        exact h
      have h3' : ¬ (-1 : Int) ≤ V := by omega
      go_wp2
      go_ret
      rw [H3.out]
      exact ⟨rfl, HB2.out⟩
    have h3' : (-1 : Int) ≤ V := by omega
    by_cases h4 : F < 0
    · have H3 : Hid (C = true) := by
        have h : C = true := by rw [HC.out]; simp [Oq.headB, h4]
        exact h
      have h4' : ¬ (0 : Int) ≤ F := by omega
      go_wp2
      go_ret
      rw [H3.out]
      exact ⟨rfl, HB2.out⟩
    have h4' : (0 : Int) ≤ F := by omega
    by_cases h5 : 3 < F
    · have H3 : Hid (C = true) := by
        have h : C = true := by rw [HC.out]; simp [Oq.headB, h5]
        exact h
      have h5' : ¬ F ≤ (3 : Int) := by omega
      go_wp2
      go_ret
      rw [H3.out]
      exact ⟨ret_bool (decide_eq_false (by omega)), HB2.out⟩
    have h5' : F ≤ (3 : Int) := by omega
    have H3 : Hid (C = false) := by
      have h : C = false := by rw [HC.out]; simp [Oq.headB, h1, h2, h3, h4, h5, HG.out]
      exact h
    go_wp2
    go_ret
    rw [H3.out]
    exact ⟨rfl, HB2.out⟩

set_option maxRecDepth 20000 in
set_option maxHeartbeats 4000000 in
theorem ofItsKind_any (o : O) (w : World) :
    Calls Tryz.prog 123 #[ov o] w fun e w' => e = .returned (.bool (!Oq.hasB o)) ∧ Below w.heap.size w w' := by
  have HBX : Hid (Box5 (w.alloc (.cells #[.int .i64 o.kind, .string o.path, .string o.data, .int .i64 o.ver, .int .i64 o.flags] 30)) w.heap.size o) := Box5.made w o _
  have HB0 : Hid (Below w.heap.size w (w.alloc (.cells #[.int .i64 o.kind, .string o.path, .string o.data, .int .i64 o.ver, .int .i64 o.flags] 30))) := (Below.refl _ w).alloc (Nat.le_refl _) _
  obtain ⟨C, hC⟩ : ∃ C : Bool, C = Oq.hasB o := ⟨_, rfl⟩
  have HC : Hid (C = Oq.hasB o) := hC
  rw [← hC]
  clear hC
  obtain ⟨K, p, d, V, F⟩ := o
  simp only [] at HBX HB0
  have HSZ : Hid (d.toList.isEmpty = decide (d.size = 0)) := empty_size d
  have HHB : Hid (C = ((!d.toList.isEmpty && decide (K ≠ 1) && decide (K ≠ 3)) || (decide (V ≠ 0) && decide (K ≠ 2) && decide (K ≠ 3) && decide (K ≠ 4)) || (decide (F ≠ 0) && decide (K ≠ 1)))) := by
    have h : C = ((!d.toList.isEmpty && decide (K ≠ 1) && decide (K ≠ 3)) || (decide (V ≠ 0) && decide (K ≠ 2) && decide (K ≠ 3) && decide (K ≠ 4)) || (decide (F ≠ 0) && decide (K ≠ 1))) := by
      rw [HC.out]
      unfold Oq.hasB
      rw [HSZ.out]
      simp
    exact h
  clear HC HSZ
  unfold ov
  go_enter Tryz.func123, Tryz.ntmps123
  go_upto_region 1 with fail
  generalize w.alloc (.cells #[.int .i64 K, .string p, .string d, .int .i64 V, .int .i64 F] 30) = w1 at *
  obtain ⟨c0, c1, c2, c3, c4⟩ := HBX.out
  simp only [] at c0 c1 c2 c3 c4
  clear c1 HBX
  have hkk : K = 1 ∨ K = 2 ∨ K = 3 ∨ K = 4 ∨ (¬ K = 1 ∧ ¬ K = 2 ∧ ¬ K = 3 ∧ ¬ K = 4) := by omega
  rcases hkk with rfl | rfl | rfl | rfl | ⟨k1, k2, k3, k4⟩ <;> rcases Decidable.em (V = 0) with rfl | hv0 <;> rcases Decidable.em (F = 0) with rfl | hf00 <;> cases he : d.toList.isEmpty
  all_goals
    go_wp2
    go_ret
    exact ⟨by rw [HHB.out, he]; (first | simp [hv0, hf00, k1, k2, k3, k4] | simp [hv0, k1, k2, k3, k4] | simp [hf00, k1, k2, k3, k4] | simp [k1, k2, k3, k4] | simp [hv0, hf00] | simp [hv0] | simp [hf00] | simp), HB0.out⟩

set_option maxRecDepth 20000 in
set_option maxHeartbeats 4000000 in
theorem canBe_any (o : O) (w : World) (hS : Pa.Std w) (hg : Pl.goodB o.path.data.toList = true) (hp : o.path.size ≤ maxLen) (hf0 : 0 ≤ o.flags) (hf3 : o.flags ≤ 3) :
    Calls Tryz.prog 124 #[ov o] w fun e w' => e = .returned (.bool (Oq.canB o)) ∧ Below w.heap.size w w' := by
  have HBX : Hid (Box5 (w.alloc (.cells #[.int .i64 o.kind, .string o.path, .string o.data, .int .i64 o.ver, .int .i64 o.flags] 30)) w.heap.size o) := Box5.made w o _
  have HB0 : Hid (Below w.heap.size w (w.alloc (.cells #[.int .i64 o.kind, .string o.path, .string o.data, .int .i64 o.ver, .int .i64 o.flags] 30))) := (Below.refl _ w).alloc (Nat.le_refl _) _
  obtain ⟨C, hC⟩ : ∃ C : Bool, C = Oq.canB o := ⟨_, rfl⟩
  have HC : Hid (C = Oq.canB o) := hC
  rw [← hC]
  clear hC
  obtain ⟨K, p, d, V, F⟩ := o
  simp only [] at HBX HB0 hp hg hf0 hf3
  have HP : Hid (p.size ≤ maxLen ∧ Pl.goodB p.data.toList = true ∧ Pa.Std (w.alloc (.cells #[.int .i64 K, .string p, .string d, .int .i64 V, .int .i64 F] 30))) := ⟨hp, hg, hS.below HB0.out⟩
  clear hp hS hg
  unfold ov
  go_enter Tryz.func124, Tryz.ntmps124
  go_upto_region 1 with fail
  generalize w.alloc (.cells #[.int .i64 K, .string p, .string d, .int .i64 V, .int .i64 F] 30) = w1 at *
  obtain ⟨c0, c1, c2, c3, c4⟩ := HBX.out
  simp only [] at c0 c1 c2 c3 c4
  clear c0 c2 c3
  by_cases h2F : 2 ≤ F
  · have hand : bits .and .i64 F 2 = 2 := by rw [Oq.and2 F hf0 hf3, if_pos h2F]
    have HC2 : Hid (C = (decide (2 ≤ (Pl.parts p.data.toList).length) && Pl.goodB (p.data.toList ++ Pl.dig10 0))) := by
      have h : C = (decide (2 ≤ (Pl.parts p.data.toList).length) && Pl.goodB (p.data.toList ++ Pl.dig10 0)) := by
        rw [HC.out]
        unfold Oq.canB
        simp only []
        rw [decide_eq_false (by omega)]
        simp
      exact h
    by_cases hpl : 2 ≤ (Pl.parts p.data.toList).length
    · have HPL : Hid (2 ≤ (Pl.parts p.data.toList).length) := hpl
      clear hpl
      go_wp2_with fail
      refine (Pa.parent_yes p _ HP.out.2.2 HP.out.2.1 HPL.out).mono ?_
      rintro e w2 ⟨x, rfl, _, hb⟩
      have k1 := Below.kept hb c1
      have HS2 : Hid (Pa.Std w2) := HP.out.2.2.below hb
      have HB2 : Hid (Below w.heap.size w w2) := HB0.out.trans (hb.mono HB0.out.size)
      clear hb c1 c4
      go_wp2_with fail
      refine (Pa.number_any p 0 _ HS2.out HP.out.2.1 (by omega) (by omega)).mono ?_
      rintro e w3 hcase
      have hb3 : Below w2.heap.size w2 w3 := by rcases hcase with ⟨_, _, _, _, hb⟩ | ⟨_, _, hb⟩ <;> exact hb
      have HB3 : Hid (Below w.heap.size w w3) := HB2.out.trans (hb3.mono HB2.out.size)
      clear hb3 k1
      rcases hcase with ⟨x3, rfl, _, hgd, _⟩ | ⟨rfl, hgd, _⟩
      · have H3 : Hid (C = true) := by
          have h : C = true := by rw [HC2.out, decide_eq_true HPL.out]; exact hgd
          exact h
        clear hgd
        go_wp2
        go_ret
        rw [H3.out]
        exact ⟨rfl, HB3.out⟩
      · have H3 : Hid (C = false) := by
          have h : C = false := by rw [HC2.out, decide_eq_true HPL.out]; exact hgd
          exact h
        clear hgd
        go_wp2
        go_ret
        rw [H3.out]
        exact ⟨rfl, HB3.out⟩
    · have HPL : Hid ((Pl.parts p.data.toList).length < 2) := by
        have h : (Pl.parts p.data.toList).length < 2 := by omega
        exact h
      have H3 : Hid (C = false) := by
        have h : C = false := by rw [HC2.out, decide_eq_false hpl]; rfl
        exact h
      clear hpl
      go_wp2_with fail
      refine (Pa.parent_no p _ HP.out.2.2 HP.out.1 HPL.out).mono ?_
      rintro e w2 ⟨rfl, hb⟩
      have HB2 : Hid (Below w.heap.size w w2) := HB0.out.trans (hb.mono HB0.out.size)
      clear hb c1 c4
      go_wp2
      go_ret
      rw [H3.out]
      exact ⟨rfl, HB2.out⟩
  · have hand : bits .and .i64 F 2 = 0 := by rw [Oq.and2 F hf0 hf3, if_neg h2F]
    have H3 : Hid (C = true) := by
      have h : C = true := by
        rw [HC.out]
        unfold Oq.canB
        simp only []
        rw [decide_eq_true (by omega)]
        simp
      exact h
    go_wp2
    go_ret
    rw [H3.out]
    exact ⟨rfl, HB0.out⟩

set_option maxRecDepth 20000 in
set_option maxHeartbeats 4000000 in
theorem good_spec : GoodSpec := by
  intro o w hS hfit
  have HBX : Hid (Box5 (w.alloc (.cells #[.int .i64 o.kind, .string o.path, .string o.data, .int .i64 o.ver, .int .i64 o.flags] 30)) w.heap.size o) := Box5.made w o _
  have HB0 : Hid (Below w.heap.size w (w.alloc (.cells #[.int .i64 o.kind, .string o.path, .string o.data, .int .i64 o.ver, .int .i64 o.flags] 30))) := (Below.refl _ w).alloc (Nat.le_refl _) _
  obtain ⟨R, hR⟩ : ∃ R : Int, R = Oq.good o := ⟨_, rfl⟩
  have HR : Hid (R = Oq.good o) := hR
  rw [← hR]
  clear hR
  obtain ⟨C1, hC1⟩ : ∃ C : Bool, C = Oq.headB o := ⟨_, rfl⟩
  have HC1 : Hid (C1 = Oq.headB o) := hC1
  obtain ⟨C2, hC2⟩ : ∃ C : Bool, C = Oq.hasB o := ⟨_, rfl⟩
  have HC2 : Hid (C2 = Oq.hasB o) := hC2
  obtain ⟨C3, hC3⟩ : ∃ C : Bool, C = Oq.canB o := ⟨_, rfl⟩
  have HC3 : Hid (C3 = Oq.canB o) := hC3
  clear hC1 hC2 hC3
  obtain ⟨K, p, d, V, F⟩ := o
  simp only [] at HBX HB0
  have HP : Hid (p.size ≤ maxLen ∧ d.size ≤ maxLen ∧ Pa.Std (w.alloc (.cells #[.int .i64 K, .string p, .string d, .int .i64 V, .int .i64 F] 30))) := ⟨hfit.path, hfit.data, hS.below HB0.out⟩
  have hd1 : d.size ≤ 9223372036854775807 := by have := HP.out.2.1; unfold maxLen at this; exact this
  clear hfit hS
  unfold ov
  go_enter Tryz.func84, Tryz.ntmps84
  go_upto_region 1 with fail
  generalize w.alloc (.cells #[.int .i64 K, .string p, .string d, .int .i64 V, .int .i64 F] 30) = w1 at *
  obtain ⟨c0, c1, c2, c3, c4⟩ := HBX.out
  simp only [] at c0 c1 c2 c3 c4
  go_wp2_with fail
  refine (inRange_any ⟨K, p, d, V, F⟩ _ HP.out.2.2 HP.out.1).mono ?_
  rintro e w2 ⟨rfl, hb⟩
  rw [← HC1.out]
  have HX2 : Hid (Box5 w2 w.heap.size ⟨K, p, d, V, F⟩) := HBX.out.below hb
  have HS2 : Hid (Pa.Std w2) := HP.out.2.2.below hb
  have HB2 : Hid (Below w.heap.size w w2) := HB0.out.trans (hb.mono HB0.out.size)
  clear hb c0 c1 c2 c3 c4 HB0 HBX
  cases C1 with
  | true =>
    have H3 : Hid (R = 1) := by
      have h : R = 1 := by rw [HR.out]; exact Oq.good_head HC1.out.symm
      exact h
    go_wp2
    go_ret
    rw [H3.out]
    exact ⟨rfl, HB2.out⟩
  | false =>
    obtain ⟨_, _, hg, _, hf0, hf3⟩ := Oq.head_no HC1.out.symm
    simp only [] at hg hf0 hf3
    have HG : Hid (Pl.goodB p.data.toList = true ∧ 0 ≤ F ∧ F ≤ 3) := ⟨hg, hf0, hf3⟩
    clear hg hf0 hf3
    obtain ⟨c0, c1, c2, c3, c4⟩ := HX2.out
    simp only [] at c0 c1 c2 c3 c4
    by_cases hlong : 1000 < d.size
    · have hlong' : (1000 : Int) < (d.size : Int) := by omega
      have H3 : Hid (R = 2) := by
        have h : R = 2 := by rw [HR.out]; exact Oq.good_long HC1.out.symm hlong
        exact h
      go_wp2
      go_ret
      rw [H3.out]
      exact ⟨rfl, HB2.out⟩
    · have hlong' : ¬ (1000 : Int) < (d.size : Int) := by omega
      have HL : Hid (¬ 1000 < d.size) := hlong
      go_wp2_with fail
      refine (ofItsKind_any ⟨K, p, d, V, F⟩ _).mono ?_
      rintro e w3 ⟨rfl, hb⟩
      rw [← HC2.out]
      have HX3 : Hid (Box5 w3 w.heap.size ⟨K, p, d, V, F⟩) := HX2.out.below hb
      have HS3 : Hid (Pa.Std w3) := HS2.out.below hb
      have HB3 : Hid (Below w.heap.size w w3) := HB2.out.trans (hb.mono HB2.out.size)
      clear hb c0 c1 c2 c3 c4 hlong hlong'
      cases C2 with
      | true =>
        have H3 : Hid (R = 1) := by
          have h : R = 1 := by rw [HR.out]; exact Oq.good_has HC1.out.symm HL.out HC2.out.symm
          exact h
        go_wp2
        go_ret
        rw [H3.out]
        exact ⟨rfl, HB3.out⟩
      | false =>
        obtain ⟨c0, c1, c2, c3, c4⟩ := HX3.out
        simp only [] at c0 c1 c2 c3 c4
        go_wp2_with fail
        refine (canBe_any ⟨K, p, d, V, F⟩ _ HS3.out HG.out.1 HP.out.1 HG.out.2.1 HG.out.2.2).mono ?_
        rintro e w4 ⟨rfl, hb⟩
        rw [← HC3.out]
        have HB4 : Hid (Below w.heap.size w w4) := HB3.out.trans (hb.mono HB3.out.size)
        clear hb c0 c1 c2 c3 c4
        have HRS : Hid (R = if C3 then 0 else 1) := by
          have h : R = if C3 then 0 else 1 := by
            rw [HR.out, Oq.good_seq HC1.out.symm HL.out HC2.out.symm, Oq.seq_can HC1.out.symm HC2.out.symm, ← HC3.out]
            cases C3 <;> rfl
          exact h
        cases C3 with
        | true =>
          have H3 : Hid (R = 0) := HRS.out
          go_wp2
          go_ret
          rw [H3.out]
          exact ⟨rfl, HB4.out⟩
        | false =>
          have H3 : Hid (R = 1) := HRS.out
          go_wp2
          go_ret
          rw [H3.out]
          exact ⟨rfl, HB4.out⟩
end Go.Proofs.YtboejbjobjhajaaGreatDoor
namespace Go.Proofs.YtboejbjobjhajaaGreatDoor
open Go.RowKit

theorem Oq.and1 (F : Int) (h0 : 0 ≤ F) (h3 : F ≤ 3) : bits .and .i64 F 1 = if F = 1 ∨ F = 3 then 1 else 0 := by
  have : F = 0 ∨ F = 1 ∨ F = 2 ∨ F = 3 := by omega
  rcases this with rfl | rfl | rfl | rfl <;> decide
section
variable {w : World} {q m : Nat} {t : Tq.Tr} {G : Nat → Prop} {D : DataW Nat} {P : ByteArray → Nat} {V : ByteArray → Value}

set_option maxRecDepth 20000 in
set_option maxHeartbeats 4000000 in
theorem place_any11 (o : O) (h : TkU w q t G m D P V) (hS : Pa.Std w) (hg : Pl.goodB o.path.data.toList = true) (hf0 : 0 ≤ o.flags) (hf3 : o.flags ≤ 3) :
    Calls Tryz.prog 125 #[dptr q, ov o] w fun e w' => e = .returned (.tuple #[.string (Tq.placeT t o).1, .int .i64 (Tq.placeT t o).2]) ∧ Below w.heap.size w w' := by
  have HBX : Hid (Box5 (w.alloc (.cells #[.int .i64 o.kind, .string o.path, .string o.data, .int .i64 o.ver, .int .i64 o.flags] 30)) w.heap.size o) := Box5.made w o _
  have HB0 : Hid (Below w.heap.size w (w.alloc (.cells #[.int .i64 o.kind, .string o.path, .string o.data, .int .i64 o.ver, .int .i64 o.flags] 30))) := (Below.refl _ w).alloc (Nat.le_refl _) _
  have HD : Hid (TkU (w.alloc (.cells #[.int .i64 o.kind, .string o.path, .string o.data, .int .i64 o.ver, .int .i64 o.flags] 30)) q t G m D P V) := h.below HB0.out
  have HS : Hid (Pa.Std (w.alloc (.cells #[.int .i64 o.kind, .string o.path, .string o.data, .int .i64 o.ver, .int .i64 o.flags] 30)) ∧ Pl.goodB o.path.data.toList = true) := ⟨hS.below HB0.out, hg⟩
  have hand : bits .and .i64 o.flags 2 = if 2 ≤ o.flags then 2 else 0 := Oq.and2 o.flags hf0 hf3
  obtain ⟨b, hbw⟩ : ∃ b, b = w.heap.size := ⟨_, rfl⟩
  rw [← hbw] at HBX
  obtain ⟨R, hR⟩ : ∃ R, R = Tq.placeT t o := ⟨_, rfl⟩
  have HR : Hid (R = Tq.placeT t o) := hR
  rw [← hR]
  clear hR h hS hg
  unfold ov
  go_enter Tryz.func125, Tryz.ntmps125
  go_wp2_with fail
  rw [← hbw]
  clear hbw
  generalize w.alloc (.cells #[.int .i64 o.kind, .string o.path, .string o.data, .int .i64 o.ver, .int .i64 o.flags] 30) = w0 at *
  refine (parent_up o.path w0 HS.out.1 HS.out.2).mono ?_
  rintro e w1 ⟨hb, hy, hn⟩
  have H1 : Hid (Box5 w1 b o ∧ TkU w1 q t G m D P V ∧ Pa.Std w1 ∧ Below w.heap.size w w1) := ⟨HBX.out.below hb, HD.out.below hb, HS.out.1.below hb, HB0.out.trans (hb.mono HB0.out.size)⟩
  clear hb
  obtain ⟨c0, c1, c2, c3, c4⟩ := H1.out.1.all
  clear c0 c2 c3
  cases hu : Tq.up o.path with
  | none =>
    obtain rfl := hn hu
    have HRR : Hid (R = (o.path, 0)) := by
      have e : R = (o.path, 0) := by rw [HR.out]; unfold Tq.placeT; rw [hu]
      exact e
    clear hu hy hn hand
    go_wp2_with fail
    refine (sclone_any10 o.path _ (by have := good_len HS.out.2; omega)).mono ?_
    rintro e w2 ⟨rfl, hb⟩
    have H2 : Hid (Below w.heap.size w w2) := H1.out.2.2.2.trans (hb.mono H1.out.2.2.2.size)
    clear hb c1 c4
    go_wp2
    go_ret2
    rw [HRR.out]
    exact ⟨rfl, H2.out⟩
  | some u =>
    obtain rfl := hy u hu
    clear hn hy
    go_wp2_with fail
    refine (above_any11 o.path H1.out.2.1 H1.out.2.2.1 HS.out.2).mono ?_
    rintro e w2 ⟨hb, hy, hn⟩
    have H2 : Hid (Box5 w2 b o ∧ TkU w2 q t G m D P V ∧ Pa.Std w2 ∧ Below w.heap.size w w2) := ⟨H1.out.1.below hb, H1.out.2.1.below hb, H1.out.2.2.1.below hb, H1.out.2.2.2.trans (hb.mono H1.out.2.2.2.size)⟩
    clear hb c1 c4
    obtain ⟨c0, c1, c2, c3, c4⟩ := H2.out.1.all
    clear c0 c2 c3
    cases hf : Tq.find t.l u with
    | none =>
      have ha : Tq.abv t.l o.path = none := by unfold Tq.abv; rw [hu]; simp only []; rw [hf]; rfl
      obtain rfl := hn ha
      have HRR : Hid (R = (⟨#[]⟩, 4)) := by
        have e : R = (⟨#[]⟩, 4) := by rw [HR.out]; unfold Tq.placeT; rw [hu]; simp only []; rw [hf]
        exact e
      clear hu hf ha hy hn hand
      go_wp2
      go_ret2
      rw [HRR.out]
      exact ⟨rfl, H2.out.2.2.2⟩
    | some mm =>
      have ha : Tq.abv t.l o.path = some (u, mm) := by unfold Tq.abv; rw [hu]; simp only []; rw [hf]; rfl
      obtain ⟨pb, hpb⟩ : ∃ pb, pb = P u := ⟨_, rfl⟩
      have he : e = .returned (.tuple #[dptr pb, .bool true]) := by rw [hpb]; exact hy _ ha
      subst he
      have HO : Hid (Own11 w2 pb mm (V u)) := by
        have e : Own11 w2 pb mm (V u) := by rw [hpb]; exact H2.out.2.1.node _ (Tq.find_some hf)
        exact e
      clear ha hy hn hpb
      go_wp2_with fail
      refine (eph_any11 pb mm (V u) w2 HO.out.blk).mono ?_
      rintro e w3 ⟨rfl, hb⟩
      have H3 : Hid (Box5 w3 b o ∧ Own11 w3 pb mm (V u) ∧ Pa.Std w3 ∧ Below w.heap.size w w3) := ⟨H2.out.1.below hb, HO.out.keep (fun k hk => hb.block k (HO.out.flt hk)), H2.out.2.2.1.below hb, H2.out.2.2.2.trans (hb.mono H2.out.2.2.2.size)⟩
      clear hb c1 c4
      obtain ⟨c0, c1, c2, c3, c4⟩ := H3.out.1.all
      clear c0 c2 c3
      by_cases ho : mm.owner = 0
      · have he0 : decide (mm.owner ≠ 0) = false := by simp [ho]
        rw [he0]
        by_cases h2 : 2 ≤ o.flags
        · rw [if_pos h2] at hand
          have n8 : w3.cell? ⟨pb, 8, none⟩ = some (.int .i64 mm.next) := H3.out.2.1.blk.cell 8
          have HRR : Hid ((∀ x, Tq.num o.path mm.next = some x → R = (x, 0)) ∧ (Tq.num o.path mm.next = none → R = (⟨#[]⟩, 1))) := by
            refine ⟨fun x hx => ?_, fun hx => ?_⟩ <;> (rw [HR.out]; unfold Tq.placeT; rw [hu]; simp only []; rw [hf]; simp only []; rw [if_neg (by simp [ho]), if_pos h2, hx])
          clear hu hf he0 ho h2
          go_wp2_with fail
          refine wp_region_held_drew (S := fun w' => Below w3.heap.size w3 w') (by kernel_rfl) (Below.refl _ _).drew (fun _ => ?_)
          have H3 : Hid (Below w3.heap.size w3 w3.drew ∧ Pa.Std w3.drew ∧ Below w.heap.size w w3.drew) := ⟨(Below.refl _ _).drew, H3.out.2.2.1.below (Below.refl _ _).drew, H3.out.2.2.2.trans ((Below.refl _ _).drew.mono H3.out.2.2.2.size)⟩
          generalize w3.drew = w3d at *
          refine' take_at (i := 0) (d := 38) (v := _) rfl rfl (by kernel_rfl) (by kernel_rfl) (by kernel_rfl) (fun _ _ _ h => h) (Or.inl ⟨by rfl, ?h0⟩) (H3.out.1) ?_
          case h0 =>
            intro w hSw
            have c1 := Below.kept hSw c1
            have n8 := Below.kept hSw n8
            go_simp
            with_reducible rfl
          simp only [List.setIfInBounds_toArray, List.set_cons_zero, List.set_cons_succ]
          refine' take_at (i := 1) (d := 39) (v := _) rfl rfl (by kernel_rfl) (by kernel_rfl) (by kernel_rfl) (fun _ _ _ h => h) (Or.inl ⟨by rfl, ?h1⟩) (H3.out.1) ?_
          case h1 =>
            intro w hSw
            have c1 := Below.kept hSw c1
            have n8 := Below.kept hSw n8
            go_simp
            with_reducible rfl
          simp only [List.setIfInBounds_toArray, List.set_cons_zero, List.set_cons_succ]
          refine' take_at (i := 2) (d := 40) (v := _) rfl rfl (by kernel_rfl) (by kernel_rfl) (by kernel_rfl) (fun _ _ _ h => h) (Or.inl ⟨by rfl, ?h2⟩) (H3.out.1) ?_
          case h2 =>
            intro w hSw
            have c1 := Below.kept hSw c1
            have n8 := Below.kept hSw n8
            go_simp
            with_reducible rfl
          simp only [List.setIfInBounds_toArray, List.set_cons_zero, List.set_cons_succ]
          refine' take_at (i := 3) (d := 41) (v := _) rfl rfl (by kernel_rfl) (by kernel_rfl) (by kernel_rfl) (fun _ _ _ h => h) (Or.inl ⟨by rfl, ?h3⟩) (H3.out.1) ?_
          case h3 =>
            intro w hSw
            have c1 := Below.kept hSw c1
            have n8 := Below.kept hSw n8
            go_simp
            with_reducible rfl
          simp only [List.setIfInBounds_toArray, List.set_cons_zero, List.set_cons_succ]
          refine' take_at (i := 4) (d := 42) (v := _) rfl rfl (by kernel_rfl) (by kernel_rfl) (by kernel_rfl) (fun _ _ _ h => h) (Or.inl ⟨by rfl, ?h4⟩) (H3.out.1) ?_
          case h4 =>
            intro w hSw
            have c1 := Below.kept hSw c1
            have n8 := Below.kept hSw n8
            go_simp
            with_reducible rfl
          simp only [List.setIfInBounds_toArray, List.set_cons_zero, List.set_cons_succ]
          refine' take_at (i := 5) (d := 43) (v := _) rfl rfl (by kernel_rfl) (by kernel_rfl) (by kernel_rfl) (fun _ _ _ h => h) (Or.inl ⟨by rfl, ?h5⟩) (H3.out.1) ?_
          case h5 =>
            intro w hSw
            have c1 := Below.kept hSw c1
            have n8 := Below.kept hSw n8
            go_simp
            with_reducible rfl
          simp only [List.setIfInBounds_toArray, List.set_cons_zero, List.set_cons_succ]
          refine' take_at (i := 6) (d := 44) (v := _) rfl rfl (by kernel_rfl) (by kernel_rfl) (by kernel_rfl) (fun _ _ _ h => h) (Or.inl ⟨by rfl, ?h6⟩) (H3.out.1) ?_
          case h6 =>
            intro w hSw
            have c1 := Below.kept hSw c1
            have n8 := Below.kept hSw n8
            go_simp
            with_reducible rfl
          simp only [List.setIfInBounds_toArray, List.set_cons_zero, List.set_cons_succ]
          refine wpAnyH_ready (rs := [7]) (by kernel_rfl) (by simp) ?_
          refine AllReadyH.cons (o := _) rfl (fun KQ hKQ => ?_) AllReadyH.nil
          go_simp
          refine (number_num o.path mm.next w3d H3.out.2.1 HS.out.2).mono ?_
          rintro e w4 ⟨hb, hy, hn⟩
          have H4 : Hid (Below w.heap.size w w4 ∧ Below w3.heap.size w3 w4) := ⟨H3.out.2.2.trans (hb.mono H3.out.2.2.size), H3.out.1.trans (hb.mono H3.out.1.size)⟩
          clear hb n8 c1 c4 hand
          cases hx : Tq.num o.path mm.next with
          | none =>
            obtain rfl := hn hx
            have HE : Hid (R = (⟨#[]⟩, 1)) := HRR.out.2 hx
            clear hx hy hn
            simp only []
            refine hKQ.out _ _ H4.out.2 (fun _ => ?_)
            clear hKQ KQ
            refine' take_at (i := 8) (d := 46) (v := _) rfl rfl (by kernel_rfl) (by kernel_rfl) (by kernel_rfl) (fun _ _ _ h => h) (Or.inl ⟨by rfl, ?h8⟩) (H4.out.2) ?_
            case h8 =>
              intro w hSw
              go_simp
              with_reducible rfl
            simp only [List.setIfInBounds_toArray, List.set_cons_zero, List.set_cons_succ]
            refine' take_at (i := 9) (d := 47) (v := _) rfl rfl (by kernel_rfl) (by kernel_rfl) (by kernel_rfl) (fun _ _ _ h => h) (Or.inl ⟨by rfl, ?h9⟩) (H4.out.2) ?_
            case h9 =>
              intro w hSw
              go_simp
              with_reducible rfl
            simp only [List.setIfInBounds_toArray, List.set_cons_zero, List.set_cons_succ]
            refine' take_at (i := 10) (d := 4) (v := _) rfl rfl (by kernel_rfl) (by kernel_rfl) (by kernel_rfl) (fun _ _ _ h => h) (Or.inl ⟨by rfl, ?h10⟩) (H4.out.2) ?_
            case h10 =>
              intro w hSw
              go_simp
              with_reducible rfl
            simp only [List.setIfInBounds_toArray, List.set_cons_zero, List.set_cons_succ]
            refine' take_at (i := 11) (d := 5) (v := _) rfl rfl (by kernel_rfl) (by kernel_rfl) (by kernel_rfl) (fun _ _ _ h => h) (Or.inl ⟨by rfl, ?h11⟩) (H4.out.2) ?_
            case h11 =>
              intro w hSw
              go_simp
              with_reducible rfl
            simp only [List.setIfInBounds_toArray, List.set_cons_zero, List.set_cons_succ]
            refine wpAnyH_done (by kernel_rfl) ?_ _
            go_wp2
            go_ret2
            rw [HE.out]
            exact ⟨rfl, H4.out.1⟩
          | some x =>
            obtain rfl := hy x hx
            have HE : Hid (R = (x, 0)) := HRR.out.1 x hx
            clear hx hy hn
            simp only []
            refine hKQ.out _ _ H4.out.2 (fun _ => ?_)
            clear hKQ KQ
            refine' take_at (i := 8) (d := 46) (v := _) rfl rfl (by kernel_rfl) (by kernel_rfl) (by kernel_rfl) (fun _ _ _ h => h) (Or.inl ⟨by rfl, ?h8⟩) (H4.out.2) ?_
            case h8 =>
              intro w hSw
              go_simp
              with_reducible rfl
            simp only [List.setIfInBounds_toArray, List.set_cons_zero, List.set_cons_succ]
            refine' take_at (i := 9) (d := 47) (v := _) rfl rfl (by kernel_rfl) (by kernel_rfl) (by kernel_rfl) (fun _ _ _ h => h) (Or.inl ⟨by rfl, ?h9⟩) (H4.out.2) ?_
            case h9 =>
              intro w hSw
              go_simp
              with_reducible rfl
            simp only [List.setIfInBounds_toArray, List.set_cons_zero, List.set_cons_succ]
            refine' take_at (i := 10) (d := 4) (v := _) rfl rfl (by kernel_rfl) (by kernel_rfl) (by kernel_rfl) (fun _ _ _ h => h) (Or.inl ⟨by rfl, ?h10⟩) (H4.out.2) ?_
            case h10 =>
              intro w hSw
              go_simp
              with_reducible rfl
            simp only [List.setIfInBounds_toArray, List.set_cons_zero, List.set_cons_succ]
            refine' take_at (i := 11) (d := 5) (v := _) rfl rfl (by kernel_rfl) (by kernel_rfl) (by kernel_rfl) (fun _ _ _ h => h) (Or.inl ⟨by rfl, ?h11⟩) (H4.out.2) ?_
            case h11 =>
              intro w hSw
              go_simp
              with_reducible rfl
            simp only [List.setIfInBounds_toArray, List.set_cons_zero, List.set_cons_succ]
            refine wpAnyH_done (by kernel_rfl) ?_ _
            go_wp2
            go_ret2
            rw [HE.out]
            exact ⟨rfl, H4.out.1⟩
        · rw [if_neg h2] at hand
          have HRR : Hid (R = (o.path, 0)) := by
            have e : R = (o.path, 0) := by rw [HR.out]; unfold Tq.placeT; rw [hu]; simp only []; rw [hf]; simp only []; rw [if_neg (by simp [ho]), if_neg h2]
            exact e
          clear hu hf he0 ho h2
          go_wp2_with fail
          refine (sclone_any10 o.path _ (by have := good_len HS.out.2; omega)).mono ?_
          rintro e w4 ⟨rfl, hb⟩
          have H4 : Hid (Below w.heap.size w w4) := H3.out.2.2.2.trans (hb.mono H3.out.2.2.2.size)
          clear hb c1 c4 hand
          go_wp2
          go_ret2
          rw [HRR.out]
          exact ⟨rfl, H4.out⟩
      · have he0 : decide (mm.owner ≠ 0) = true := by simp [ho]
        rw [he0]
        have HRR : Hid (R = (⟨#[]⟩, 8)) := by
          have e : R = (⟨#[]⟩, 8) := by rw [HR.out]; unfold Tq.placeT; rw [hu]; simp only []; rw [hf]; simp only []; rw [if_pos ho]
          exact e
        clear hu hf he0 ho hand
        go_wp2
        go_ret2
        rw [HRR.out]
        exact ⟨rfl, H3.out.2.2.2⟩
end
end Go.Proofs.YtboejbjobjhajaaGreatDoor
namespace Go.Proofs.YtboejbjobjhajaaGreatDoor
open Go.RowKit
theorem statOf11 (n : Kq.Kn) (v : Value) (w : World) : (Instr.field 146 (.agg #[.int .i64 n.made, .int .i64 n.changed, .int .i64 n.ver, .int .i64 n.kids, .int .i64 n.owner, .int .i64 n.len, .int .i64 n.cnt, .string n.data, .int .i64 n.next, v]) 0).run Tryz.prog w = .ok (.agg #[.int .i64 n.made, .int .i64 n.changed, .int .i64 n.ver, .int .i64 n.kids, .int .i64 n.owner, .int .i64 n.len, .int .i64 n.cnt]) w := by kernel_rfl
structure Fr11 (W w : World) (b r : Nat) (o : O) : Prop where
  op : Box5 w b o
  res : Cb w r (xc (Tq.fail 0) (.slice none 0 0)) 75
  ne : b < r
  hi : W.heap.size ≤ b
  blk : Cb w b (oc o) 30
  below : Below W.heap.size W w
theorem Fr11.later {W w w' : World} {b r : Nat} {o : O} (h : Fr11 W w b r o) (hb : Below w.heap.size w w') : Fr11 W w' b r o := ⟨h.op.below hb, h.res.below hb, h.ne, h.hi, h.blk.below hb, h.below.trans (hb.mono h.below.size)⟩
theorem Fr11.made (w : World) (o : O) : Fr11 w ((w.alloc (.cells #[.int .i64 o.kind, .string o.path, .string o.data, .int .i64 o.ver, .int .i64 o.flags] 30)).alloc (.cells #[.int .i64 0, .string ⟨#[]⟩, .string ⟨#[]⟩, .slice none 0 0, .int .i64 0, .int .i64 0, .int .i64 0, .int .i64 0, .int .i64 0, .int .i64 0, .int .i64 0] 75)) w.heap.size (w.heap.size + 1) o := by
  have h1 := (Below.refl _ w).alloc (Nat.le_refl _) (.cells #[.int .i64 o.kind, .string o.path, .string o.data, .int .i64 o.ver, .int .i64 o.flags] 30)
  have h2 := (Below.refl _ (w.alloc (.cells #[.int .i64 o.kind, .string o.path, .string o.data, .int .i64 o.ver, .int .i64 o.flags] 30))).alloc (Nat.le_refl _) (.cells #[.int .i64 0, .string ⟨#[]⟩, .string ⟨#[]⟩, .slice none 0 0, .int .i64 0, .int .i64 0, .int .i64 0, .int .i64 0, .int .i64 0, .int .i64 0, .int .i64 0] 75)
  have h3 := Cb.made (w.alloc (.cells #[.int .i64 o.kind, .string o.path, .string o.data, .int .i64 o.ver, .int .i64 o.flags] 30)) (xc (Tq.fail 0) (.slice none 0 0)) 75
  rw [World.size_alloc] at h3
  exact ⟨(Box5.made w o _).below h2, h3, by omega, Nat.le_refl _, (Cb.made w (oc o) _).below h2, h1.trans (h2.mono h1.size)⟩
theorem Fr11.put {W w : World} {b r : Nat} {o : O} (h : Fr11 W w b r o) (x : X) (v : Value) : Cb (w.setRow r (xc x v).toArray) r (xc x v) 75 ∧ Below W.heap.size W (w.setRow r (xc x v).toArray) := ⟨h.res.rowed _, rowed_below h.below (Nat.le_refl _) (by have := h.ne; have := h.hi; omega) _⟩

section
variable {w : World} {q m : Nat} {t : Tq.Tr} {G : Nat → Prop} {D : DataW Nat} {P : ByteArray → Nat} {V : ByteArray → Value}

set_option maxRecDepth 20000 in
set_option maxHeartbeats 4000000 in
theorem created_any11 (o : O) (s z : Int) (h : TkU w q t G m D P V) (hS : Pa.Std w) (hg : Pl.goodB o.path.data.toList = true) (hd : o.data.size ≤ 1000) (hf0 : 0 ≤ o.flags) (hf3 : o.flags ≤ 3) :
    Calls Tryz.prog 85 #[dptr q, ov o, .int .i64 s, .int .i64 z] w fun e w' => e = .returned (rv (Tq.create t o s z).1 (.slice none 0 0)) ∧ Below w.heap.size w w' := by
  have HFR : Hid (Fr11 w ((w.alloc (.cells #[.int .i64 o.kind, .string o.path, .string o.data, .int .i64 o.ver, .int .i64 o.flags] 30)).alloc (.cells #[.int .i64 0, .string ⟨#[]⟩, .string ⟨#[]⟩, .slice none 0 0, .int .i64 0, .int .i64 0, .int .i64 0, .int .i64 0, .int .i64 0, .int .i64 0, .int .i64 0] 75)) w.heap.size (w.heap.size + 1) o) := Fr11.made w o
  have HD : Hid (TkU ((w.alloc (.cells #[.int .i64 o.kind, .string o.path, .string o.data, .int .i64 o.ver, .int .i64 o.flags] 30)).alloc (.cells #[.int .i64 0, .string ⟨#[]⟩, .string ⟨#[]⟩, .slice none 0 0, .int .i64 0, .int .i64 0, .int .i64 0, .int .i64 0, .int .i64 0, .int .i64 0, .int .i64 0] 75)) q t G m D P V ∧ Pa.Std ((w.alloc (.cells #[.int .i64 o.kind, .string o.path, .string o.data, .int .i64 o.ver, .int .i64 o.flags] 30)).alloc (.cells #[.int .i64 0, .string ⟨#[]⟩, .string ⟨#[]⟩, .slice none 0 0, .int .i64 0, .int .i64 0, .int .i64 0, .int .i64 0, .int .i64 0, .int .i64 0, .int .i64 0] 75))) := ⟨h.below HFR.out.below, hS.below HFR.out.below⟩
  have HS : Hid (Pl.goodB o.path.data.toList = true ∧ o.data.size ≤ 1000 ∧ 0 ≤ o.flags ∧ o.flags ≤ 3) := ⟨hg, hd, hf0, hf3⟩
  have hand : bits .and .i64 o.flags 1 = if o.flags = 1 ∨ o.flags = 3 then 1 else 0 := Oq.and1 o.flags hf0 hf3
  obtain ⟨b, hbw⟩ : ∃ b, b = w.heap.size := ⟨_, rfl⟩
  obtain ⟨r, hrw⟩ : ∃ r, r = w.heap.size + 1 := ⟨_, rfl⟩
  rw [← hrw, ← hbw] at HFR
  obtain ⟨R, hR⟩ : ∃ R, R = (Tq.create t o s z).1 := ⟨_, rfl⟩
  have HR : Hid (R = (Tq.create t o s z).1) := hR
  rw [← hR]
  have HPL : Hid (∀ w, TkU w q t G m D P V → Pa.Std w → Calls Tryz.prog 125 #[dptr q, ov o] w fun e w' => e = .returned (.tuple #[.string (Tq.placeT t o).1, .int .i64 (Tq.placeT t o).2]) ∧ Below w.heap.size w w') := fun w h hS => place_any11 o h hS hg hf0 hf3
  clear hR h hS hg hd hf0 hf3
  unfold ov at HPL
  unfold ov
  go_enter Tryz.func85, Tryz.ntmps85
  go_wp2_with fail
  rw [← hrw, ← hbw]
  clear hrw hbw
  generalize ((w.alloc (.cells #[.int .i64 o.kind, .string o.path, .string o.data, .int .i64 o.ver, .int .i64 o.flags] 30)).alloc (.cells #[.int .i64 0, .string ⟨#[]⟩, .string ⟨#[]⟩, .slice none 0 0, .int .i64 0, .int .i64 0, .int .i64 0, .int .i64 0, .int .i64 0, .int .i64 0, .int .i64 0] 75)) = w0 at *
  refine (HPL.out w0 HD.out.1 HD.out.2).mono ?_
  rintro e w1 ⟨rfl, hb⟩
  have H1 : Hid (Fr11 w w1 b r o ∧ TkU w1 q t G m D P V ∧ Pa.Std w1) := ⟨HFR.out.later hb, HD.out.1.below hb, HD.out.2.below hb⟩
  clear hb
  obtain ⟨px, hpx⟩ : ∃ x, x = (Tq.placeT t o).1 := ⟨_, rfl⟩
  obtain ⟨pe, hpe⟩ : ∃ x, x = (Tq.placeT t o).2 := ⟨_, rfl⟩
  rw [← hpx, ← hpe]
  have HP : Hid (px = (Tq.placeT t o).1 ∧ pe = (Tq.placeT t o).2) := ⟨hpx, hpe⟩
  clear hpx hpe
  by_cases h0 : pe = 0
  · have HC : Hid (Tq.create t o s z = Tq.makeAt t (Tq.up px) px (Tq.ownT o s) z o.data ∧ Pl.goodB px.data.toList = true) := by
      have h := Tq.create_may (t := t) (s := s) (z := z) HS.out.1 (by rw [← HP.out.2]; exact h0)
      rw [← HP.out.1] at h
      exact h
    subst h0
    go_wp2_with fail
    refine (mayLay_any11 px H1.out.2.1 (good_max HC.out.2)).mono ?_
    rintro e w2 ⟨rfl, hb⟩
    have H2 : Hid (Fr11 w w2 b r o ∧ TkU w2 q t G m D P V ∧ Pa.Std w2) := ⟨H1.out.1.later hb, H1.out.2.1.below hb, H1.out.2.2.below hb⟩
    clear hb
    obtain ⟨me, hme⟩ : ∃ x, x = Tq.mayT t px := ⟨_, rfl⟩
    rw [← hme]
    have HM : Hid (me = Tq.mayT t px) := hme
    clear hme
    by_cases h1 : me = 0
    · subst h1
      have HE : Hid (R = Tq.told px ⟨#[]⟩ [] (Kq.new z (Tq.ownT o s) o.data)) := by
        have e : R = Tq.told px ⟨#[]⟩ [] (Kq.new z (Tq.ownT o s) o.data) := by rw [HR.out, HC.out.1, Tq.make_may, if_neg (by rw [← HM.out]; simp)]
        exact e
      obtain ⟨c0, c1, c2, c3, c4⟩ := H2.out.1.op.all
      clear c0 c1 c3
      by_cases hfl : o.flags = 1 ∨ o.flags = 3
      · have HOW : Hid (Tq.ownT o s = s) := by
          have e : Tq.ownT o s = s := by unfold Tq.ownT; rw [if_pos hfl]
          exact e
        rw [HOW.out] at HE
        rw [if_pos hfl] at hand
        clear hfl
        go_wp2_with fail
        refine (new_any10 z s o.data w2 (by have := HS.out.2.1; omega)).mono ?_
        rintro e w3 ⟨na, nc, rfl, _, hb⟩
        have H3 : Hid (Fr11 w w3 b r o) := H2.out.1.later hb
        clear hb c2 c4 hand
        unfold kv
        have hfd := statOf11 (Kq.new z s o.data) (.slice na 0 nc)
        go_wp2_with (refine wpList_store_row rfl 75 _ _ rfl r (xc (Tq.told px ⟨#[]⟩ [] (Kq.new z s o.data)) (.slice none 0 0)).toArray rfl rfl 75 _ H3.out.res (by kernel_rfl) rfl (by kernel_rfl) ?_)
        have H4 := H3.out.put (Tq.told px ⟨#[]⟩ [] (Kq.new z s o.data)) (.slice none 0 0)
        refine bodyPost_ret (v := .agg (xc (Tq.told px ⟨#[]⟩ [] (Kq.new z s o.data)) (.slice none 0 0)).toArray) ?_ rfl ⟨by rw [HE.out]; rfl, H4.2⟩
        exact results_cell_row rfl _ _ r 75 _ (0, 0) _ rfl H4.1 Tryz.underlying75 rfl (by kernel_rfl)
      · have HOW : Hid (Tq.ownT o s = 0) := by
          have e : Tq.ownT o s = 0 := by unfold Tq.ownT; rw [if_neg hfl]
          exact e
        rw [HOW.out] at HE
        rw [if_neg hfl] at hand
        clear hfl
        go_wp2_with fail
        refine (new_any10 z 0 o.data w2 (by have := HS.out.2.1; omega)).mono ?_
        rintro e w3 ⟨na, nc, rfl, _, hb⟩
        have H3 : Hid (Fr11 w w3 b r o) := H2.out.1.later hb
        clear hb c2 c4 hand
        unfold kv
        have hfd := statOf11 (Kq.new z 0 o.data) (.slice na 0 nc)
        go_wp2_with (refine wpList_store_row rfl 75 _ _ rfl r (xc (Tq.told px ⟨#[]⟩ [] (Kq.new z 0 o.data)) (.slice none 0 0)).toArray rfl rfl 75 _ H3.out.res (by kernel_rfl) rfl (by kernel_rfl) ?_)
        have H4 := H3.out.put (Tq.told px ⟨#[]⟩ [] (Kq.new z 0 o.data)) (.slice none 0 0)
        refine bodyPost_ret (v := .agg (xc (Tq.told px ⟨#[]⟩ [] (Kq.new z 0 o.data)) (.slice none 0 0)).toArray) ?_ rfl ⟨by rw [HE.out]; rfl, H4.2⟩
        exact results_cell_row rfl _ _ r 75 _ (0, 0) _ rfl H4.1 Tryz.underlying75 rfl (by kernel_rfl)
    · have HE : Hid (R = Tq.fail me) := by
        have e : R = Tq.fail me := by rw [HR.out, HC.out.1, Tq.make_may, if_pos (by rw [← HM.out]; exact h1), HM.out]
        exact e
      go_wp2_with (refine wpList_store_row rfl 75 _ _ rfl r (xc (Tq.fail me) (.slice none 0 0)).toArray rfl rfl 75 _ H2.out.1.res (by kernel_rfl) rfl (by kernel_rfl) ?_)
      have H3 := H2.out.1.put (Tq.fail me) (.slice none 0 0)
      refine bodyPost_ret (v := .agg (xc (Tq.fail me) (.slice none 0 0)).toArray) ?_ rfl ⟨by rw [HE.out]; rfl, H3.2⟩
      exact results_cell_row rfl _ _ r 75 _ (0, 0) _ rfl H3.1 Tryz.underlying75 rfl (by kernel_rfl)
  · have HE : Hid (R = Tq.fail pe) := by
      have e : R = Tq.fail pe := by rw [HR.out, Tq.create_no (by rw [← HP.out.2]; exact h0), HP.out.2]
      exact e
    go_wp2_with (refine wpList_store_row rfl 75 _ _ rfl r (xc (Tq.fail pe) (.slice none 0 0)).toArray rfl rfl 75 _ H1.out.1.res (by kernel_rfl) rfl (by kernel_rfl) ?_)
    have H3 := H1.out.1.put (Tq.fail pe) (.slice none 0 0)
    refine bodyPost_ret (v := .agg (xc (Tq.fail pe) (.slice none 0 0)).toArray) ?_ rfl ⟨by rw [HE.out]; rfl, H3.2⟩
    exact results_cell_row rfl _ _ r 75 _ (0, 0) _ rfl H3.1 Tryz.underlying75 rfl (by kernel_rfl)
end
end Go.Proofs.YtboejbjobjhajaaGreatDoor
namespace Go.Proofs.YtboejbjobjhajaaGreatDoor.Tq
open Kq
def mayN (n : Kn) (o : O) : Int := if (o.kind = 2 ∨ o.kind = 3 ∨ o.kind = 4) ∧ o.ver ≠ -1 ∧ o.ver ≠ n.ver then 6 else if o.kind = 2 ∧ n.names ≠ [] then 7 else 0
def askT (o : O) (z : Int) (n : Kn) : X :=
  if mayN n o ≠ 0 then fail (mayN n o)
  else if o.kind = 2 then gone o.path
  else if o.kind = 3 then told o.path ⟨#[]⟩ [] (write n z o.data)
  else if o.kind = 4 then gone o.path
  else if o.kind = 5 then told o.path n.data [] n
  else if o.kind = 6 then told o.path ⟨#[]⟩ [] n
  else told o.path ⟨#[]⟩ n.names n
theorem atNode_ask (t : Tr) (o : O) (z : Int) (n : Kn) : (atNode t o z n).1 = askT o z n := by
  unfold atNode askT mayN
  repeat' split
  all_goals first
    | rfl
    | simp_all
end Go.Proofs.YtboejbjobjhajaaGreatDoor.Tq
namespace Go.Proofs.YtboejbjobjhajaaGreatDoor
open Go.RowKit

set_option maxRecDepth 20000 in
set_option maxHeartbeats 1000000 in
theorem clone_any11 (v : Value) (l : List ByteArray) (w : World) (h : Nm w v l) (hl : l.length ≤ 3000) :
    Calls Tryz.prog 130 #[v] w fun e w' => ∃ a c, e = .returned (.slice a l.length c) ∧ w'.ownsRow w.heap.size 9 1 (.slice a l.length c) l.length (sc l) ∧ Below w.heap.size w w' := by
  rcases h with ⟨rfl, rfl⟩ | ⟨g, o, c, rfl, hc, hcell⟩
  · have hq : ∀ W : World, (binOp .eql 71 (.slice none 0 0) (.slice none 0 0)).run Tryz.prog W = .ok (.bool true) W := fun W => Lib.run_eql_slice_nil W _ _ none 0 0 0 0 Tryz.underlying71
    go_enter Tryz.func130, Tryz.ntmps130
    go_wp2
    go_ret
    exact ⟨none, 0, rfl, World.ownsRow_nil _ _ _ _, Below.refl _ _⟩
  · have HC : Hid (Src w (.slice (some ⟨g, o, none⟩) l.length c) l) := Or.inr ⟨g, o, c, rfl, hcell⟩
    obtain ⟨N, hN⟩ : ∃ N, N = l.length := ⟨_, rfl⟩
    rw [← hN] at HC hc hl
    rw [← hN]
    have HN : Hid (N = l.length ∧ N ≤ 3000) := ⟨hN, hl⟩
    clear hcell hN hl
    have hq : ∀ W : World, (binOp .eql 71 (.slice (some ⟨g, o, none⟩) N c) (.slice none 0 0)).run Tryz.prog W = .ok (.bool false) W := fun W => Lib.run_eql_slice_nil W _ _ (some ⟨g, o, none⟩) N c 0 0 Tryz.underlying71
    go_enter Tryz.func130, Tryz.ntmps130
    go_wp2_with (at_builtin; refine append_strs rfl _ _ rfl w.heap.size (.slice (some ⟨w.heap.size, 0, none⟩) 0 0) (.slice (some ⟨g, o, none⟩) N c) [] l (w.alloc (.cells #[] 9)) rfl rfl (World.ownsRow_made w #[] 0 (Nat.le_refl _) (by decide) rfl) (by simp) (HC.out.below ((Below.refl _ w).alloc (Nat.le_refl _) _)) (by have := HN.out; simp; omega) ?_)
    intro v' w' h1 h2
    have HX : Hid (w'.ownsRow w.heap.size 9 1 v' l.length (sc l) ∧ Below w.heap.size w w') := ⟨by simpa using h1, ((Below.refl _ w).alloc (Nat.le_refl _) _).trans h2⟩
    obtain ⟨a1, c1, e1, _⟩ := row_form HX.out.1
    subst e1
    clear h1 h2 hq
    rw [← HN.out.1]
    rw [← HN.out.1] at HX
    go_wp2
    go_ret
    exact ⟨_, _, rfl, HX.out⟩

section
variable {w : World}

set_option maxRecDepth 20000 in
set_option maxHeartbeats 4000000 in
theorem may_any11 (p : Nat) (n : Kq.Kn) (a : Option Addr) (N c : Nat) (o : O) (h : Cb w p (k10 n (.slice a N c)) 175) (hN : N = n.names.length) (hm : n.names.length ≤ 3000) (hk : 2 ≤ o.kind ∧ o.kind ≤ 7) :
    Calls Tryz.prog 128 #[dptr p, ov o] w fun e w' => e = .returned (.int .i64 (Tq.mayN n o)) ∧ Below w.heap.size w w' := by
  have HBX : Hid (Box5 (w.alloc (.cells #[.int .i64 o.kind, .string o.path, .string o.data, .int .i64 o.ver, .int .i64 o.flags] 30)) w.heap.size o) := Box5.made w o _
  have HB0 : Hid (Below w.heap.size w (w.alloc (.cells #[.int .i64 o.kind, .string o.path, .string o.data, .int .i64 o.ver, .int .i64 o.flags] 30))) := (Below.refl _ w).alloc (Nat.le_refl _) _
  have HD : Hid (Cb (w.alloc (.cells #[.int .i64 o.kind, .string o.path, .string o.data, .int .i64 o.ver, .int .i64 o.flags] 30)) p (k10 n (.slice a N c)) 175) := h.below HB0.out
  obtain ⟨b, hbw⟩ : ∃ b, b = w.heap.size := ⟨_, rfl⟩
  rw [← hbw] at HBX
  obtain ⟨R, hR⟩ : ∃ R, R = Tq.mayN n o := ⟨_, rfl⟩
  have HR : Hid (R = Tq.mayN n o) := hR
  rw [← hR]
  have HN : Hid (N = n.names.length) := hN
  have hN3 : N ≤ 3000 := by omega
  clear hR h hN hm
  unfold ov
  go_enter Tryz.func128, Tryz.ntmps128
  go_upto_region 1 with fail
  rw [← hbw]
  clear hbw
  generalize (w.alloc (.cells #[.int .i64 o.kind, .string o.path, .string o.data, .int .i64 o.ver, .int .i64 o.flags] 30)) = w0 at *
  obtain ⟨c0, c1, c2, c3, c4⟩ := HBX.out.all
  have n2 : w0.cell? ⟨p, 2, none⟩ = some (.int .i64 n.ver) := HD.out.cell 2
  have n9 : w0.cell? ⟨p, 9, none⟩ = some (.slice a N c) := HD.out.cell 9
  clear c1 c2 c4
  have hkc : o.kind = 2 ∨ o.kind = 3 ∨ o.kind = 4 ∨ (o.kind = 5 ∨ o.kind = 6 ∨ o.kind = 7) := by omega
  rcases hkc with hk2 | hk2 | hk2 | hk2
  · by_cases hvv : o.ver ≠ -1 ∧ o.ver ≠ n.ver
    · have HE : Hid (R = 6) := by
        have e : R = 6 := by rw [HR.out]; unfold Tq.mayN; rw [if_pos ⟨by omega, hvv⟩]
        exact e
      obtain ⟨hv1, hv2⟩ := hvv
      have hb1 : (o.ver != -1) = true := by simp [hv1]
      have hb2 : (o.ver != n.ver) = true := by simp [hv2]
      go_wp2
      go_quiet (fail)
      go_wp2
      go_ret
      rw [HE.out]
      exact ⟨rfl, below_drewN HB0.out _⟩
    have HV : Hid (¬ ((o.kind = 2 ∨ o.kind = 3 ∨ o.kind = 4) ∧ o.ver ≠ -1 ∧ o.ver ≠ n.ver)) := by
      have e : ¬ ((o.kind = 2 ∨ o.kind = 3 ∨ o.kind = 4) ∧ o.ver ≠ -1 ∧ o.ver ≠ n.ver) := fun h => hvv h.2
      exact e
    have hv : (o.ver != -1) = false ∨ ((o.ver != -1) = true ∧ (o.ver != n.ver) = false) := by
      by_cases h1 : o.ver = -1
      · exact Or.inl (by simp [h1])
      · have h2 : o.ver = n.ver := by omega
        exact Or.inr ⟨by simp [h1], by simp [h2]⟩
    clear hvv
    by_cases h0 : N = 0
    · have HE : Hid (R = 0) := by
        have e : R = 0 := by rw [HR.out]; unfold Tq.mayN; rw [if_neg HV.out, if_neg (fun h => h.2 (List.length_eq_zero_iff.1 (by have := HN.out; omega)))]
        exact e
      have h0' : ¬ (0 : Int) < (N : Int) := by omega
      rcases hv with hv | ⟨hv, hv2⟩
      · go_wp2
        go_quiet (fail)
        go_wp2
        try (go_quiet (fail); go_wp2)
        go_ret
        rw [HE.out]
        first
          | exact ⟨rfl, below_drewN HB0.out _⟩
          | exact ⟨rfl, below_drewN (below_drewN HB0.out _) _⟩
      · go_wp2
        go_quiet (fail)
        go_wp2
        try (go_quiet (fail); go_wp2)
        go_ret
        rw [HE.out]
        first
          | exact ⟨rfl, below_drewN HB0.out _⟩
          | exact ⟨rfl, below_drewN (below_drewN HB0.out _) _⟩
    · have HE : Hid (R = 7) := by
        have e : R = 7 := by rw [HR.out]; unfold Tq.mayN; rw [if_neg HV.out, if_pos ⟨hk2, fun h => by rw [h] at HN; have := HN.out; simp at this; omega⟩]
        exact e
      have h0' : (0 : Int) < (N : Int) := by omega
      rcases hv with hv | ⟨hv, hv2⟩
      · go_wp2
        go_quiet (fail)
        go_wp2
        try (go_quiet (fail); go_wp2)
        go_ret
        rw [HE.out]
        first
          | exact ⟨rfl, below_drewN HB0.out _⟩
          | exact ⟨rfl, below_drewN (below_drewN HB0.out _) _⟩
      · go_wp2
        go_quiet (fail)
        go_wp2
        try (go_quiet (fail); go_wp2)
        go_ret
        rw [HE.out]
        first
          | exact ⟨rfl, below_drewN HB0.out _⟩
          | exact ⟨rfl, below_drewN (below_drewN HB0.out _) _⟩
  · by_cases hvv : o.ver ≠ -1 ∧ o.ver ≠ n.ver
    · have HE : Hid (R = 6) := by
        have e : R = 6 := by rw [HR.out]; unfold Tq.mayN; rw [if_pos ⟨by omega, hvv⟩]
        exact e
      obtain ⟨hv1, hv2⟩ := hvv
      have hb1 : (o.ver != -1) = true := by simp [hv1]
      have hb2 : (o.ver != n.ver) = true := by simp [hv2]
      go_wp2
      go_quiet (fail)
      go_wp2
      go_ret
      rw [HE.out]
      exact ⟨rfl, below_drewN HB0.out _⟩
    have HV : Hid (¬ ((o.kind = 2 ∨ o.kind = 3 ∨ o.kind = 4) ∧ o.ver ≠ -1 ∧ o.ver ≠ n.ver)) := by
      have e : ¬ ((o.kind = 2 ∨ o.kind = 3 ∨ o.kind = 4) ∧ o.ver ≠ -1 ∧ o.ver ≠ n.ver) := fun h => hvv h.2
      exact e
    have hv : (o.ver != -1) = false ∨ ((o.ver != -1) = true ∧ (o.ver != n.ver) = false) := by
      by_cases h1 : o.ver = -1
      · exact Or.inl (by simp [h1])
      · have h2 : o.ver = n.ver := by omega
        exact Or.inr ⟨by simp [h1], by simp [h2]⟩
    clear hvv
    have HE : Hid (R = 0) := by
      have e : R = 0 := by rw [HR.out]; unfold Tq.mayN; rw [if_neg HV.out, if_neg (by omega)]
      exact e
    rcases hv with hv | ⟨hv, hv2⟩
    · go_wp2
      go_quiet (fail)
      go_wp2
      try (go_quiet (fail); go_wp2)
      go_ret
      rw [HE.out]
      first
        | exact ⟨rfl, below_drewN HB0.out _⟩
        | exact ⟨rfl, below_drewN (below_drewN HB0.out _) _⟩
    · go_wp2
      go_quiet (fail)
      go_wp2
      try (go_quiet (fail); go_wp2)
      go_ret
      rw [HE.out]
      first
        | exact ⟨rfl, below_drewN HB0.out _⟩
        | exact ⟨rfl, below_drewN (below_drewN HB0.out _) _⟩
  · by_cases hvv : o.ver ≠ -1 ∧ o.ver ≠ n.ver
    · have HE : Hid (R = 6) := by
        have e : R = 6 := by rw [HR.out]; unfold Tq.mayN; rw [if_pos ⟨by omega, hvv⟩]
        exact e
      obtain ⟨hv1, hv2⟩ := hvv
      have hb1 : (o.ver != -1) = true := by simp [hv1]
      have hb2 : (o.ver != n.ver) = true := by simp [hv2]
      go_wp2
      go_quiet (fail)
      go_wp2
      go_ret
      rw [HE.out]
      exact ⟨rfl, below_drewN HB0.out _⟩
    have HV : Hid (¬ ((o.kind = 2 ∨ o.kind = 3 ∨ o.kind = 4) ∧ o.ver ≠ -1 ∧ o.ver ≠ n.ver)) := by
      have e : ¬ ((o.kind = 2 ∨ o.kind = 3 ∨ o.kind = 4) ∧ o.ver ≠ -1 ∧ o.ver ≠ n.ver) := fun h => hvv h.2
      exact e
    have hv : (o.ver != -1) = false ∨ ((o.ver != -1) = true ∧ (o.ver != n.ver) = false) := by
      by_cases h1 : o.ver = -1
      · exact Or.inl (by simp [h1])
      · have h2 : o.ver = n.ver := by omega
        exact Or.inr ⟨by simp [h1], by simp [h2]⟩
    clear hvv
    have HE : Hid (R = 0) := by
      have e : R = 0 := by rw [HR.out]; unfold Tq.mayN; rw [if_neg HV.out, if_neg (by omega)]
      exact e
    rcases hv with hv | ⟨hv, hv2⟩
    · go_wp2
      go_quiet (fail)
      go_wp2
      try (go_quiet (fail); go_wp2)
      go_ret
      rw [HE.out]
      first
        | exact ⟨rfl, below_drewN HB0.out _⟩
        | exact ⟨rfl, below_drewN (below_drewN HB0.out _) _⟩
    · go_wp2
      go_quiet (fail)
      go_wp2
      try (go_quiet (fail); go_wp2)
      go_ret
      rw [HE.out]
      first
        | exact ⟨rfl, below_drewN HB0.out _⟩
        | exact ⟨rfl, below_drewN (below_drewN HB0.out _) _⟩
  · have HE : Hid (R = 0) := by
      have e : R = 0 := by rw [HR.out]; unfold Tq.mayN; rw [if_neg (by omega), if_neg (by omega)]
      exact e
    rcases hk2 with hk2 | hk2 | hk2
    · go_wp2
      go_ret
      rw [HE.out]
      exact ⟨rfl, HB0.out⟩
    · go_wp2
      go_ret
      rw [HE.out]
      exact ⟨rfl, HB0.out⟩
    · go_wp2
      go_ret
      rw [HE.out]
      exact ⟨rfl, HB0.out⟩
end
end Go.Proofs.YtboejbjobjhajaaGreatDoor
namespace Go.Proofs.YtboejbjobjhajaaGreatDoor
open Go.RowKit
structure Ask11 (W w : World) (b r rr p : Nat) (o : O) (n : Kq.Kn) (v : Value) (x : X) (u : Value) : Prop where
  fr : Fr11 W w b r o
  nd : Own11 w p n v
  cb : Cb w rr (xc x u) 75
  nr : r < rr
  old : ∀ k, Fn p v k → k < W.heap.size
section
variable {W w w' : World} {b r rr p k : Nat} {o : O} {n : Kq.Kn} {v : Value} {x : X} {u : Value}
theorem Ask11.later (h : Ask11 W w b r rr p o n v x u) (hb : Below w.heap.size w w') : Ask11 W w' b r rr p o n v x u := ⟨h.fr.later hb, h.nd.keep (fun k hk => hb.block k (h.nd.flt hk)), h.cb.below hb, h.nr, h.old⟩
theorem Ask11.keep (h : Ask11 W w b r rr p o n v x u) {x' : X} {u' : Value} (hg : w.grownBy w' (some k)) (hk : rr ≤ k) (hc : Cb w' rr (xc x' u') 75) : Ask11 W w' b r rr p o n v x' u' := by
  have hb := h.fr.below
  have h1 := h.fr.ne
  have h2 := h.fr.hi
  have h3 := h.nr
  have hW : Below W.heap.size W w' := hb.grown hg hb.size (fun j hj => by simp at hj; omega)
  have hB := hg.block b h.fr.blk.lt (by simp; omega)
  exact ⟨⟨⟨(World.cell?_of_block hB).trans h.fr.op.c0, (World.cell?_of_block hB).trans h.fr.op.c1, (World.cell?_of_block hB).trans h.fr.op.c2, (World.cell?_of_block hB).trans h.fr.op.c3, (World.cell?_of_block hB).trans h.fr.op.c4⟩, h.fr.res.keep (hg.block r h.fr.res.lt (by simp; omega)), h1, h2, h.fr.blk.keep hB, hW⟩, h.nd.keep (fun j hj => hg.block j (h.nd.flt hj) (fun e => by have := h.old j hj; simp at e; omega)), hc, h.nr, h.old⟩
theorem Ask11.other (h : Ask11 W w b r rr p o n v x u) (hg : w.grownBy w' (some k)) (hk : rr < k) : Ask11 W w' b r rr p o n v x u := h.keep hg (by omega) (h.cb.keep (hg.block rr h.cb.lt (by simp; omega)))
theorem Ask11.fill (h : Ask11 W w b r rr p o n v x u) (x' : X) (u' : Value) : Ask11 W (w.setRow rr (xc x' u').toArray) b r rr p o n v x' u' := h.keep (rowed_grown w rr _) (Nat.le_refl _) (h.cb.rowed _)
end
section
variable {w : World}
theorem sq_of_row {B : Nat} {v : Value} {l : List ByteArray} (h : w.ownsRow B 9 1 v l.length (sc l)) : Sq w v l := by
  rcases Nm.of_row h with ⟨rfl, rfl⟩ | ⟨g, o, c, rfl, h2, h3⟩
  · exact Sq.nil _
  · exact ⟨_, _, _, rfl, rfl, h2, fun e => (by cases e), fun j s hs => ⟨g, o, rfl, h3 j s hs⟩⟩
theorem sq_rowed {v : Value} {l : List ByteArray} {r : Nat} {cs : Array Value} (h : Sq w v l) (hv : ∀ k, v.ownBlock = some k → k ≠ r) : Sq (w.setRow r cs) v l := by
  obtain ⟨av, k, c, rfl, hk, hkc, hn, hs⟩ := h
  refine ⟨av, k, c, rfl, hk, hkc, hn, fun j s hj => ?_⟩
  obtain ⟨g, o, e, hc⟩ := hs j s hj
  refine ⟨g, o, e, ?_⟩
  rw [cell_setRow_other]
  · exact hc
  · exact hv g (by rw [e]; rfl)
theorem fine11_10 {n : Kq.Kn} (h : Node11 n) : Fine10 n := ⟨h.ver, h.kids, h.next, by have := h.many; omega, fun s hs => by have := name_len (h.long s hs); omega, h.data⟩
set_option maxRecDepth 20000 in
set_option maxHeartbeats 4000000 in
theorem asked_any11 (p : Nat) (n : Kq.Kn) (v : Value) (o : O) (z : Int) (h : Own11 w p n v) (hf : Node11 n) (hS : Pa.Std w) (hg : Pl.goodB o.path.data.toList = true) (hd : o.data.size ≤ 1000) (hk : 2 ≤ o.kind ∧ o.kind ≤ 7) :
    Calls Tryz.prog 86 #[dptr p, ov o, .int .i64 z] w fun e w' => ∃ u, e = .returned (rv (Tq.askT o z n) u) ∧ Sq w' u (Tq.askT o z n).names ∧ (∀ k, u.ownBlock = some k → w.heap.size ≤ k) ∧ Below w.heap.size w w' := by
  obtain ⟨a, c, rfl, hc, _⟩ := row_form h.row
  have HFR : Hid (Fr11 w ((w.alloc (.cells #[.int .i64 o.kind, .string o.path, .string o.data, .int .i64 o.ver, .int .i64 o.flags] 30)).alloc (.cells #[.int .i64 0, .string ⟨#[]⟩, .string ⟨#[]⟩, .slice none 0 0, .int .i64 0, .int .i64 0, .int .i64 0, .int .i64 0, .int .i64 0, .int .i64 0, .int .i64 0] 75)) w.heap.size (w.heap.size + 1) o) := Fr11.made w o
  have HD : Hid (Own11 ((w.alloc (.cells #[.int .i64 o.kind, .string o.path, .string o.data, .int .i64 o.ver, .int .i64 o.flags] 30)).alloc (.cells #[.int .i64 0, .string ⟨#[]⟩, .string ⟨#[]⟩, .slice none 0 0, .int .i64 0, .int .i64 0, .int .i64 0, .int .i64 0, .int .i64 0, .int .i64 0, .int .i64 0] 75)) p n (.slice a n.names.length c) ∧ Pa.Std ((w.alloc (.cells #[.int .i64 o.kind, .string o.path, .string o.data, .int .i64 o.ver, .int .i64 o.flags] 30)).alloc (.cells #[.int .i64 0, .string ⟨#[]⟩, .string ⟨#[]⟩, .slice none 0 0, .int .i64 0, .int .i64 0, .int .i64 0, .int .i64 0, .int .i64 0, .int .i64 0, .int .i64 0] 75))) := ⟨h.keep (fun k hk => HFR.out.below.block k (h.flt hk)), hS.below HFR.out.below⟩
  have HS : Hid (Node11 n ∧ Pl.goodB o.path.data.toList = true ∧ o.data.size ≤ 1000 ∧ ∀ k, Fn p (.slice a n.names.length c) k → k < w.heap.size) := ⟨hf, hg, hd, fun k hk => h.flt hk⟩
  obtain ⟨b, hbw⟩ : ∃ b, b = w.heap.size := ⟨_, rfl⟩
  obtain ⟨r, hrw⟩ : ∃ r, r = w.heap.size + 1 := ⟨_, rfl⟩
  rw [← hrw, ← hbw] at HFR
  obtain ⟨R, hR⟩ : ∃ R, R = Tq.askT o z n := ⟨_, rfl⟩
  have HR : Hid (R = Tq.askT o z n) := hR
  rw [← hR]
  have HMY : Hid (∀ w, Cb w p (k10 n (.slice a n.names.length c)) 175 → Calls Tryz.prog 128 #[dptr p, ov o] w fun e w' => e = .returned (.int .i64 (Tq.mayN n o)) ∧ Below w.heap.size w w') := fun w h => may_any11 p n a n.names.length c o h rfl (by have := hf.many; omega) hk
  clear hR h hS hg hd hf
  unfold ov at HMY
  unfold ov
  go_enter Tryz.func86, Tryz.ntmps86
  go_wp2_with fail
  rw [← hrw, ← hbw]
  clear hrw hbw
  generalize ((w.alloc (.cells #[.int .i64 o.kind, .string o.path, .string o.data, .int .i64 o.ver, .int .i64 o.flags] 30)).alloc (.cells #[.int .i64 0, .string ⟨#[]⟩, .string ⟨#[]⟩, .slice none 0 0, .int .i64 0, .int .i64 0, .int .i64 0, .int .i64 0, .int .i64 0, .int .i64 0, .int .i64 0] 75)) = w0 at *
  refine (HMY.out w0 HD.out.1.blk).mono ?_
  rintro e w1 ⟨rfl, hb⟩
  have H1 : Hid (Fr11 w w1 b r o ∧ Own11 w1 p n (.slice a n.names.length c) ∧ Pa.Std w1) := ⟨HFR.out.later hb, HD.out.1.keep (fun k hk => hb.block k (HD.out.1.flt hk)), HD.out.2.below hb⟩
  clear hb
  obtain ⟨pe, hpe⟩ : ∃ x, x = Tq.mayN n o := ⟨_, rfl⟩
  rw [← hpe]
  have HP : Hid (pe = Tq.mayN n o) := hpe
  clear hpe
  by_cases h0 : pe = 0
  · subst h0
    obtain ⟨c0, c1, c2, c3, c4⟩ := H1.out.1.op.all
    go_wp2_with fail
    refine (sclone_any10 o.path _ (by have := good_len HS.out.2.1; omega)).mono ?_
    rintro e w2 ⟨rfl, hb⟩
    have H2 : Hid (Fr11 w w2 b r o ∧ Own11 w2 p n (.slice a n.names.length c) ∧ Pa.Std w2) := ⟨H1.out.1.later hb, H1.out.2.1.keep (fun k hk => hb.block k (H1.out.2.1.flt hk)), H1.out.2.2.below hb⟩
    clear hb c0 c1 c2 c3 c4
    obtain ⟨rr, hrr⟩ : ∃ x, x = w2.heap.size := ⟨_, rfl⟩
    have H3 : Hid (Ask11 w (w2.alloc (.cells #[.int .i64 0, .string o.path, .string ⟨#[]⟩, .slice none 0 0, .int .i64 0, .int .i64 0, .int .i64 0, .int .i64 0, .int .i64 0, .int .i64 0, .int .i64 0] 75)) b r rr p o n (.slice a n.names.length c) (Tq.gone o.path) (.slice none 0 0)) := by
      have hba := (Below.refl _ w2).alloc (Nat.le_refl _) (.cells #[.int .i64 0, .string o.path, .string ⟨#[]⟩, .slice none 0 0, .int .i64 0, .int .i64 0, .int .i64 0, .int .i64 0, .int .i64 0, .int .i64 0, .int .i64 0] 75)
      refine ⟨H2.out.1.later hba, H2.out.2.1.keep (fun k hk => hba.block k (H2.out.2.1.flt hk)), ?_, ?_, HS.out.2.2.2⟩
      · rw [hrr]
        exact Cb.made w2 (xc (Tq.gone o.path) (.slice none 0 0)) _
      · rw [hrr]
        exact H2.out.1.res.lt
    go_upto_region 5 with fail
    rw [← hrr]
    clear hrr H2
    generalize (w2.alloc (.cells #[.int .i64 0, .string o.path, .string ⟨#[]⟩, .slice none 0 0, .int .i64 0, .int .i64 0, .int .i64 0, .int .i64 0, .int .i64 0, .int .i64 0, .int .i64 0] 75)) = w3 at *
    have o0 : w3.cell? ⟨b, 0, none⟩ = some (.int .i64 o.kind) := H3.out.fr.op.c0
    have HZ : Hid (Tq.mayN n o = 0) := HP.out.symm
    have hkc : o.kind = 2 ∨ o.kind = 3 ∨ o.kind = 4 ∨ o.kind = 5 ∨ o.kind = 6 ∨ o.kind = 7 := by omega
    clear hk
    rcases hkc with hk | hk | hk | hk | hk | hk
    · have HE : Hid (R = Tq.gone o.path) := by
        have e : R = Tq.gone o.path := by rw [HR.out]; unfold Tq.askT; rw [HZ.out, if_neg (by simp), if_pos hk]
        exact e
      go_wp2_with (first
        | (refine wpList_load_row rfl 75 _ rfl rr rfl 75 (xc (Tq.gone o.path) (.slice none 0 0)).toArray (0, 0) _ H3.out.cb Tryz.underlying75 rfl (by kernel_rfl) ?_)
        | (refine wpList_store_row rfl 75 _ _ rfl r (xc (Tq.gone o.path) (.slice none 0 0)).toArray rfl rfl 75 _ H3.out.fr.res (by kernel_rfl) rfl (by kernel_rfl) ?_))
      have H9 := H3.out.fr.put (Tq.gone o.path) (.slice none 0 0)
      refine bodyPost_ret (v := .agg (xc (Tq.gone o.path) (.slice none 0 0)).toArray) ?_ rfl ⟨_, by rw [HE.out]; rfl, by rw [HE.out]; exact Sq.nil _, fun k hk => by (cases hk), H9.2⟩
      exact results_cell_row rfl _ _ r 75 _ (0, 0) _ rfl H9.1 Tryz.underlying75 rfl (by kernel_rfl)
    · have HE : Hid (R = Tq.told o.path ⟨#[]⟩ [] (Kq.write n z o.data)) := by
        have e : R = Tq.told o.path ⟨#[]⟩ [] (Kq.write n z o.data) := by rw [HR.out]; unfold Tq.askT; rw [HZ.out, if_neg (by simp), if_neg (by omega), if_pos hk]
        exact e
      obtain ⟨wr, hwr⟩ : ∃ x, x = w3.heap.size := ⟨_, rfl⟩
      have H4 : Hid (Ask11 w (w3.alloc (.cells #[.int .i64 n.made, .int .i64 n.changed, .int .i64 n.ver, .int .i64 n.kids, .int .i64 n.owner, .int .i64 n.len, .int .i64 n.cnt, .string n.data, .int .i64 n.next, (.slice a n.names.length c)] 175)) b r rr p o n (.slice a n.names.length c) (Tq.gone o.path) (.slice none 0 0) ∧ Cb (w3.alloc (.cells #[.int .i64 n.made, .int .i64 n.changed, .int .i64 n.ver, .int .i64 n.kids, .int .i64 n.owner, .int .i64 n.len, .int .i64 n.cnt, .string n.data, .int .i64 n.next, (.slice a n.names.length c)] 175)) wr (k10 n (.slice a n.names.length c)) 175 ∧ rr < wr) := by
        have hba := (Below.refl _ w3).alloc (Nat.le_refl _) (.cells (k10 n (.slice a n.names.length c)).toArray 175)
        exact ⟨H3.out.later hba, by rw [hwr]; exact Cb.made w3 (k10 n (.slice a n.names.length c)) _, by rw [hwr]; exact H3.out.cb.lt⟩
      go_upto_region 8 with (refine wpList_load_row rfl 175 _ rfl p rfl 175 #[.int .i64 n.made, .int .i64 n.changed, .int .i64 n.ver, .int .i64 n.kids, .int .i64 n.owner, .int .i64 n.len, .int .i64 n.cnt, .string n.data, .int .i64 n.next, (.slice a n.names.length c)] (0, 0) _ H3.out.nd.blk Tryz.underlying175 rfl (by kernel_rfl) ?_)
      rw [← hwr]
      clear hwr o0 H3
      generalize (w3.alloc (.cells #[.int .i64 n.made, .int .i64 n.changed, .int .i64 n.ver, .int .i64 n.kids, .int .i64 n.owner, .int .i64 n.len, .int .i64 n.cnt, .string n.data, .int .i64 n.next, (.slice a n.names.length c)] 175)) = w4 at *
      have o2 : w4.cell? ⟨b, 2, none⟩ = some (.string o.data) := H4.out.1.fr.op.c2
      go_wp2_with fail
      refine (write_any11 wr n (.slice a n.names.length c) z o.data w4 H4.out.2.1 (fine11_10 HS.out.1) (by have := HS.out.2.2.1; omega)).mono ?_
      rintro e w5 ⟨rfl, hcb, hg⟩
      have H5 : Hid (Ask11 w w5 b r rr p o n (.slice a n.names.length c) (Tq.gone o.path) (.slice none 0 0) ∧ Cb w5 wr (k10 (Kq.write n z o.data) (.slice a n.names.length c)) 175) := ⟨H4.out.1.other hg H4.out.2.2, hcb⟩
      clear hcb hg o2 H4
      go_upto_region 16 with (first
        | (refine wpList_load_part rfl 73 _ rfl wr 0 rfl 175 _ #[.int .i64 (Kq.write n z o.data).made, .int .i64 (Kq.write n z o.data).changed, .int .i64 (Kq.write n z o.data).ver, .int .i64 (Kq.write n z o.data).kids, .int .i64 (Kq.write n z o.data).owner, .int .i64 (Kq.write n z o.data).len, .int .i64 (Kq.write n z o.data).cnt] _ H5.out.2 Tryz.underlying73 rfl (by kernel_rfl) rfl ?_)
        | (refine wpList_store_part rfl 73 _ _ rfl rr 4 #[.int .i64 (Kq.write n z o.data).made, .int .i64 (Kq.write n z o.data).changed, .int .i64 (Kq.write n z o.data).ver, .int .i64 (Kq.write n z o.data).kids, .int .i64 (Kq.write n z o.data).owner, .int .i64 (Kq.write n z o.data).len, .int .i64 (Kq.write n z o.data).cnt] rfl rfl 75 _ (xc (Tq.told o.path ⟨#[]⟩ [] (Kq.write n z o.data)) (.slice none 0 0)) H5.out.1.cb (by kernel_rfl) (Nat.le_of_ble_eq_true rfl) (by kernel_rfl) rfl ?_))
      have H6 : Hid (Ask11 w (w5.setRow rr (xc (Tq.told o.path ⟨#[]⟩ [] (Kq.write n z o.data)) (.slice none 0 0)).toArray) b r rr p o n (.slice a n.names.length c) (Tq.told o.path ⟨#[]⟩ [] (Kq.write n z o.data)) (.slice none 0 0)) := H5.out.1.fill _ _
      clear H5
      generalize w5.setRow rr (xc (Tq.told o.path ⟨#[]⟩ [] (Kq.write n z o.data)) (.slice none 0 0)).toArray = w6 at *
      go_wp2_with (first
        | (refine wpList_load_row rfl 75 _ rfl rr rfl 75 (xc (Tq.told o.path ⟨#[]⟩ [] (Kq.write n z o.data)) (.slice none 0 0)).toArray (0, 0) _ H6.out.cb Tryz.underlying75 rfl (by kernel_rfl) ?_)
        | (refine wpList_store_row rfl 75 _ _ rfl r (xc (Tq.told o.path ⟨#[]⟩ [] (Kq.write n z o.data)) (.slice none 0 0)).toArray rfl rfl 75 _ H6.out.fr.res (by kernel_rfl) rfl (by kernel_rfl) ?_))
      have H9 := H6.out.fr.put (Tq.told o.path ⟨#[]⟩ [] (Kq.write n z o.data)) (.slice none 0 0)
      refine bodyPost_ret (v := .agg (xc (Tq.told o.path ⟨#[]⟩ [] (Kq.write n z o.data)) (.slice none 0 0)).toArray) ?_ rfl ⟨_, by rw [HE.out]; rfl, by rw [HE.out]; exact Sq.nil _, fun k hk => by (cases hk), H9.2⟩
      exact results_cell_row rfl _ _ r 75 _ (0, 0) _ rfl H9.1 Tryz.underlying75 rfl (by kernel_rfl)
    · have HE : Hid (R = Tq.gone o.path) := by
        have e : R = Tq.gone o.path := by rw [HR.out]; unfold Tq.askT; rw [HZ.out, if_neg (by simp), if_neg (by omega), if_neg (by omega), if_pos hk]
        exact e
      go_wp2_with (first
        | (refine wpList_load_row rfl 75 _ rfl rr rfl 75 (xc (Tq.gone o.path) (.slice none 0 0)).toArray (0, 0) _ H3.out.cb Tryz.underlying75 rfl (by kernel_rfl) ?_)
        | (refine wpList_store_row rfl 75 _ _ rfl r (xc (Tq.gone o.path) (.slice none 0 0)).toArray rfl rfl 75 _ H3.out.fr.res (by kernel_rfl) rfl (by kernel_rfl) ?_))
      have H9 := H3.out.fr.put (Tq.gone o.path) (.slice none 0 0)
      refine bodyPost_ret (v := .agg (xc (Tq.gone o.path) (.slice none 0 0)).toArray) ?_ rfl ⟨_, by rw [HE.out]; rfl, by rw [HE.out]; exact Sq.nil _, fun k hk => by (cases hk), H9.2⟩
      exact results_cell_row rfl _ _ r 75 _ (0, 0) _ rfl H9.1 Tryz.underlying75 rfl (by kernel_rfl)
    · have HE : Hid (R = Tq.told o.path n.data [] n) := by
        have e : R = Tq.told o.path n.data [] n := by rw [HR.out]; unfold Tq.askT; rw [HZ.out, if_neg (by simp), if_neg (by omega), if_neg (by omega), if_neg (by omega), if_pos hk]
        exact e
      go_wp2_with fail
      refine wp_region_held_drew (S := fun w' => Cb w' p (k10 n (.slice a n.names.length c)) 175) (by kernel_rfl) H3.out.nd.blk (fun _ => ?_)
      have H4 : Hid (Ask11 w w3.drew b r rr p o n (.slice a n.names.length c) (Tq.gone o.path) (.slice none 0 0)) := H3.out.later (Below.refl _ _).drew
      clear o0 H3
      generalize w3.drew = w4 at *
      refine' take_at (i := 0) (d := 39) (v := _) rfl rfl (by kernel_rfl) (by kernel_rfl) (by kernel_rfl) (fun _ _ _ h => h) (Or.inl ⟨by rfl, ?h0⟩) (H4.out.nd.blk) ?_
      case h0 =>
        intro w hSw
        obtain ⟨c0, c1, c2, c3, c4, c5, c6, c7, c8, c9⟩ := ten_cells hSw
        go_simp
        with_reducible rfl
      simp only [List.setIfInBounds_toArray, List.set_cons_zero, List.set_cons_succ]
      refine' take_at (i := 1) (d := 40) (v := _) rfl rfl (by kernel_rfl) (by kernel_rfl) (by kernel_rfl) (fun _ _ _ h => h) (Or.inl ⟨by rfl, ?h1⟩) (H4.out.nd.blk) ?_
      case h1 =>
        intro w hSw
        obtain ⟨c0, c1, c2, c3, c4, c5, c6, c7, c8, c9⟩ := ten_cells hSw
        go_simp
        with_reducible rfl
      simp only [List.setIfInBounds_toArray, List.set_cons_zero, List.set_cons_succ]
      refine' take_at (i := 2) (d := 41) (v := _) rfl rfl (by kernel_rfl) (by kernel_rfl) (by kernel_rfl) (fun _ _ _ h => h) (Or.inl ⟨by rfl, ?h2⟩) (H4.out.nd.blk) ?_
      case h2 =>
        intro w hSw
        obtain ⟨c0, c1, c2, c3, c4, c5, c6, c7, c8, c9⟩ := ten_cells hSw
        go_simp
        with_reducible rfl
      simp only [List.setIfInBounds_toArray, List.set_cons_zero, List.set_cons_succ]
      refine' take_at (i := 3) (d := 42) (v := _) rfl rfl (by kernel_rfl) (by kernel_rfl) (by kernel_rfl) (fun _ _ _ h => h) (Or.inl ⟨by rfl, ?h3⟩) (H4.out.nd.blk) ?_
      case h3 =>
        intro w hSw
        obtain ⟨c0, c1, c2, c3, c4, c5, c6, c7, c8, c9⟩ := ten_cells hSw
        go_simp
        with_reducible rfl
      simp only [List.setIfInBounds_toArray, List.set_cons_zero, List.set_cons_succ]
      refine' take_at (i := 4) (d := 43) (v := _) rfl rfl (by kernel_rfl) (by kernel_rfl) (by kernel_rfl) (fun _ _ _ h => h) (Or.inl ⟨by rfl, ?h4⟩) (H4.out.nd.blk) ?_
      case h4 =>
        intro w hSw
        obtain ⟨c0, c1, c2, c3, c4, c5, c6, c7, c8, c9⟩ := ten_cells hSw
        go_simp
        with_reducible rfl
      simp only [List.setIfInBounds_toArray, List.set_cons_zero, List.set_cons_succ]
      refine' take_at (i := 5) (d := 44) (v := _) rfl rfl (by kernel_rfl) (by kernel_rfl) (by kernel_rfl) (fun _ _ _ h => h) (Or.inl ⟨by rfl, ?h5⟩) (H4.out.nd.blk) ?_
      case h5 =>
        intro w hSw
        obtain ⟨c0, c1, c2, c3, c4, c5, c6, c7, c8, c9⟩ := ten_cells hSw
        go_simp
        with_reducible rfl
      simp only [List.setIfInBounds_toArray, List.set_cons_zero, List.set_cons_succ]
      refine' take_at (i := 6) (d := 45) (v := _) rfl rfl (by kernel_rfl) (by kernel_rfl) (by kernel_rfl) (fun _ _ _ h => h) (Or.inl ⟨by rfl, ?h6⟩) (H4.out.nd.blk) ?_
      case h6 =>
        intro w hSw
        obtain ⟨c0, c1, c2, c3, c4, c5, c6, c7, c8, c9⟩ := ten_cells hSw
        go_simp
        with_reducible rfl
      simp only [List.setIfInBounds_toArray, List.set_cons_zero, List.set_cons_succ]
      refine' take_at (i := 7) (d := 46) (v := _) rfl rfl (by kernel_rfl) (by kernel_rfl) (by kernel_rfl) (fun _ _ _ h => h) (Or.inl ⟨by rfl, ?h7⟩) (H4.out.nd.blk) ?_
      case h7 =>
        intro w hSw
        obtain ⟨c0, c1, c2, c3, c4, c5, c6, c7, c8, c9⟩ := ten_cells hSw
        go_simp
        with_reducible rfl
      simp only [List.setIfInBounds_toArray, List.set_cons_zero, List.set_cons_succ]
      refine' take_at (i := 8) (d := 47) (v := _) rfl rfl (by kernel_rfl) (by kernel_rfl) (by kernel_rfl) (fun _ _ _ h => h) (Or.inl ⟨by rfl, ?h8⟩) (H4.out.nd.blk) ?_
      case h8 =>
        intro w hSw
        obtain ⟨c0, c1, c2, c3, c4, c5, c6, c7, c8, c9⟩ := ten_cells hSw
        go_simp
        with_reducible rfl
      simp only [List.setIfInBounds_toArray, List.set_cons_zero, List.set_cons_succ]
      refine' take_at (i := 9) (d := 48) (v := _) rfl rfl (by kernel_rfl) (by kernel_rfl) (by kernel_rfl) (fun _ _ _ h => h) (Or.inl ⟨by rfl, ?h9⟩) (H4.out.nd.blk) ?_
      case h9 =>
        intro w hSw
        obtain ⟨c0, c1, c2, c3, c4, c5, c6, c7, c8, c9⟩ := ten_cells hSw
        go_simp
        with_reducible rfl
      simp only [List.setIfInBounds_toArray, List.set_cons_zero, List.set_cons_succ]
      refine' take_at (i := 10) (d := 49) (v := _) rfl rfl (by kernel_rfl) (by kernel_rfl) (by kernel_rfl) (fun _ _ _ h => h) (Or.inl ⟨by rfl, ?h10⟩) (H4.out.nd.blk) ?_
      case h10 =>
        intro w hSw
        obtain ⟨c0, c1, c2, c3, c4, c5, c6, c7, c8, c9⟩ := ten_cells hSw
        go_simp
        with_reducible rfl
      simp only [List.setIfInBounds_toArray, List.set_cons_zero, List.set_cons_succ]
      refine wpAnyH_ready (rs := [11]) (by kernel_rfl) (by simp) ?_
      refine AllReadyH.cons (o := _) rfl (fun KQ hKQ => ?_) AllReadyH.nil
      have r2 : w4.cell? ⟨rr, 2, none⟩ = some (.string ⟨#[]⟩) := H4.out.cb.cell 2
      have f2 := H4.out.cb.free 2
      go_simp
      clear r2 f2
      have H5 : Hid (Ask11 w (w4.setCell ⟨rr, 2, none⟩ (.string n.data)) b r rr p o n (.slice a n.names.length c) ⟨0, o.path, n.data, [], 0, 0, 0, 0, 0, 0, 0⟩ (.slice none 0 0)) := H4.out.keep (grownBy_setCell w4 ⟨rr, 2, none⟩ _) (Nat.le_refl _) (H4.out.cb.set 2 _)
      clear H4
      generalize w4.setCell ⟨rr, 2, none⟩ (.string n.data) = w5 at *
      refine hKQ.out _ _ H5.out.nd.blk (fun _ => ?_)
      clear hKQ KQ
      refine' take_at (i := 12) (d := 50) (v := _) rfl rfl (by kernel_rfl) (by kernel_rfl) (by kernel_rfl) (fun _ _ _ h => h) (Or.inl ⟨by rfl, ?h12⟩) (H5.out.nd.blk) ?_
      case h12 =>
        intro w hSw
        go_simp
        with_reducible rfl
      simp only [List.setIfInBounds_toArray, List.set_cons_zero, List.set_cons_succ]
      refine wpAnyH_ready (rs := [13]) (by kernel_rfl) (by simp) ?_
      refine AllReadyH.cons (o := _) rfl (fun KQ hKQ => ?_) AllReadyH.nil
      refine wp_store_part 73 _ _ rfl rr 4 #[.int .i64 n.made, .int .i64 n.changed, .int .i64 n.ver, .int .i64 n.kids, .int .i64 n.owner, .int .i64 n.len, .int .i64 n.cnt] rfl rfl 75 _ (xc (Tq.told o.path n.data [] n) (.slice none 0 0)) H5.out.cb (by kernel_rfl) (Nat.le_of_ble_eq_true rfl) (by kernel_rfl) rfl ?_
      have H6 : Hid (Ask11 w (w5.setRow rr (xc (Tq.told o.path n.data [] n) (.slice none 0 0)).toArray) b r rr p o n (.slice a n.names.length c) (Tq.told o.path n.data [] n) (.slice none 0 0)) := H5.out.fill _ _
      clear H5
      generalize w5.setRow rr (xc (Tq.told o.path n.data [] n) (.slice none 0 0)).toArray = w6 at *
      go_simp
      refine hKQ.out _ _ H6.out.nd.blk (fun _ => ?_)
      clear hKQ KQ
      refine wpAnyH_done (by kernel_rfl) ?_ _
      go_wp2_with (first
        | (refine wpList_load_row rfl 75 _ rfl rr rfl 75 (xc (Tq.told o.path n.data [] n) (.slice none 0 0)).toArray (0, 0) _ H6.out.cb Tryz.underlying75 rfl (by kernel_rfl) ?_)
        | (refine wpList_store_row rfl 75 _ _ rfl r (xc (Tq.told o.path n.data [] n) (.slice none 0 0)).toArray rfl rfl 75 _ H6.out.fr.res (by kernel_rfl) rfl (by kernel_rfl) ?_))
      have H9 := H6.out.fr.put (Tq.told o.path n.data [] n) (.slice none 0 0)
      refine bodyPost_ret (v := .agg (xc (Tq.told o.path n.data [] n) (.slice none 0 0)).toArray) ?_ rfl ⟨_, by rw [HE.out]; rfl, by rw [HE.out]; exact Sq.nil _, fun k hk => by (cases hk), H9.2⟩
      exact results_cell_row rfl _ _ r 75 _ (0, 0) _ rfl H9.1 Tryz.underlying75 rfl (by kernel_rfl)
    · have HE : Hid (R = Tq.told o.path ⟨#[]⟩ [] n) := by
        have e : R = Tq.told o.path ⟨#[]⟩ [] n := by rw [HR.out]; unfold Tq.askT; rw [HZ.out, if_neg (by simp), if_neg (by omega), if_neg (by omega), if_neg (by omega), if_neg (by omega), if_pos hk]
        exact e
      go_upto_region 16 with (first
        | (refine wpList_load_part rfl 73 _ rfl p 0 rfl 175 _ #[.int .i64 n.made, .int .i64 n.changed, .int .i64 n.ver, .int .i64 n.kids, .int .i64 n.owner, .int .i64 n.len, .int .i64 n.cnt] _ H3.out.nd.blk Tryz.underlying73 rfl (by kernel_rfl) rfl ?_)
        | (refine wpList_store_part rfl 73 _ _ rfl rr 4 #[.int .i64 n.made, .int .i64 n.changed, .int .i64 n.ver, .int .i64 n.kids, .int .i64 n.owner, .int .i64 n.len, .int .i64 n.cnt] rfl rfl 75 _ (xc (Tq.told o.path ⟨#[]⟩ [] n) (.slice none 0 0)) H3.out.cb (by kernel_rfl) (Nat.le_of_ble_eq_true rfl) (by kernel_rfl) rfl ?_))
      have H6 : Hid (Ask11 w (w3.setRow rr (xc (Tq.told o.path ⟨#[]⟩ [] n) (.slice none 0 0)).toArray) b r rr p o n (.slice a n.names.length c) (Tq.told o.path ⟨#[]⟩ [] n) (.slice none 0 0)) := H3.out.fill _ _
      clear H3 o0
      generalize w3.setRow rr (xc (Tq.told o.path ⟨#[]⟩ [] n) (.slice none 0 0)).toArray = w6 at *
      go_wp2_with (first
        | (refine wpList_load_row rfl 75 _ rfl rr rfl 75 (xc (Tq.told o.path ⟨#[]⟩ [] n) (.slice none 0 0)).toArray (0, 0) _ H6.out.cb Tryz.underlying75 rfl (by kernel_rfl) ?_)
        | (refine wpList_store_row rfl 75 _ _ rfl r (xc (Tq.told o.path ⟨#[]⟩ [] n) (.slice none 0 0)).toArray rfl rfl 75 _ H6.out.fr.res (by kernel_rfl) rfl (by kernel_rfl) ?_))
      have H9 := H6.out.fr.put (Tq.told o.path ⟨#[]⟩ [] n) (.slice none 0 0)
      refine bodyPost_ret (v := .agg (xc (Tq.told o.path ⟨#[]⟩ [] n) (.slice none 0 0)).toArray) ?_ rfl ⟨_, by rw [HE.out]; rfl, by rw [HE.out]; exact Sq.nil _, fun k hk => by (cases hk), H9.2⟩
      exact results_cell_row rfl _ _ r 75 _ (0, 0) _ rfl H9.1 Tryz.underlying75 rfl (by kernel_rfl)
    · have HE : Hid (R = Tq.told o.path ⟨#[]⟩ n.names n) := by
        have e : R = Tq.told o.path ⟨#[]⟩ n.names n := by rw [HR.out]; unfold Tq.askT; rw [HZ.out, if_neg (by simp), if_neg (by omega), if_neg (by omega), if_neg (by omega), if_neg (by omega), if_neg (by omega)]
        exact e
      have HCL : Hid (∀ w, Own11 w p n (.slice a n.names.length c) → Calls Tryz.prog 130 #[(.slice a n.names.length c)] w fun e w' => ∃ a c, e = .returned (.slice a n.names.length c) ∧ w'.ownsRow w.heap.size 9 1 (.slice a n.names.length c) n.names.length (sc n.names) ∧ Below w.heap.size w w') := fun w h => clone_any11 _ n.names w (Nm.of_row h.row) (by have := HS.out.1.many; omega)
      go_wp2_with fail
      refine wp_region_held_drew (S := fun w' => Cb w' p (k10 n (.slice a n.names.length c)) 175) (by kernel_rfl) H3.out.nd.blk (fun _ => ?_)
      have H4 : Hid (Ask11 w w3.drew b r rr p o n (.slice a n.names.length c) (Tq.gone o.path) (.slice none 0 0)) := H3.out.later (Below.refl _ _).drew
      clear o0 H3
      generalize w3.drew = w4 at *
      refine' take_at (i := 0) (d := 61) (v := _) rfl rfl (by kernel_rfl) (by kernel_rfl) (by kernel_rfl) (fun _ _ _ h => h) (Or.inl ⟨by rfl, ?h0⟩) (H4.out.nd.blk) ?_
      case h0 =>
        intro w hSw
        obtain ⟨c0, c1, c2, c3, c4, c5, c6, c7, c8, c9⟩ := ten_cells hSw
        go_simp
        with_reducible rfl
      simp only [List.setIfInBounds_toArray, List.set_cons_zero, List.set_cons_succ]
      refine' take_at (i := 1) (d := 62) (v := _) rfl rfl (by kernel_rfl) (by kernel_rfl) (by kernel_rfl) (fun _ _ _ h => h) (Or.inl ⟨by rfl, ?h1⟩) (H4.out.nd.blk) ?_
      case h1 =>
        intro w hSw
        obtain ⟨c0, c1, c2, c3, c4, c5, c6, c7, c8, c9⟩ := ten_cells hSw
        go_simp
        with_reducible rfl
      simp only [List.setIfInBounds_toArray, List.set_cons_zero, List.set_cons_succ]
      refine' take_at (i := 2) (d := 63) (v := _) rfl rfl (by kernel_rfl) (by kernel_rfl) (by kernel_rfl) (fun _ _ _ h => h) (Or.inl ⟨by rfl, ?h2⟩) (H4.out.nd.blk) ?_
      case h2 =>
        intro w hSw
        obtain ⟨c0, c1, c2, c3, c4, c5, c6, c7, c8, c9⟩ := ten_cells hSw
        go_simp
        with_reducible rfl
      simp only [List.setIfInBounds_toArray, List.set_cons_zero, List.set_cons_succ]
      refine' take_at (i := 3) (d := 64) (v := _) rfl rfl (by kernel_rfl) (by kernel_rfl) (by kernel_rfl) (fun _ _ _ h => h) (Or.inl ⟨by rfl, ?h3⟩) (H4.out.nd.blk) ?_
      case h3 =>
        intro w hSw
        obtain ⟨c0, c1, c2, c3, c4, c5, c6, c7, c8, c9⟩ := ten_cells hSw
        go_simp
        with_reducible rfl
      simp only [List.setIfInBounds_toArray, List.set_cons_zero, List.set_cons_succ]
      refine' take_at (i := 4) (d := 65) (v := _) rfl rfl (by kernel_rfl) (by kernel_rfl) (by kernel_rfl) (fun _ _ _ h => h) (Or.inl ⟨by rfl, ?h4⟩) (H4.out.nd.blk) ?_
      case h4 =>
        intro w hSw
        obtain ⟨c0, c1, c2, c3, c4, c5, c6, c7, c8, c9⟩ := ten_cells hSw
        go_simp
        with_reducible rfl
      simp only [List.setIfInBounds_toArray, List.set_cons_zero, List.set_cons_succ]
      refine' take_at (i := 6) (d := 67) (v := _) rfl rfl (by kernel_rfl) (by kernel_rfl) (by kernel_rfl) (fun _ _ _ h => h) (Or.inl ⟨by rfl, ?h6⟩) (H4.out.nd.blk) ?_
      case h6 =>
        intro w hSw
        obtain ⟨c0, c1, c2, c3, c4, c5, c6, c7, c8, c9⟩ := ten_cells hSw
        go_simp
        with_reducible rfl
      simp only [List.setIfInBounds_toArray, List.set_cons_zero, List.set_cons_succ]
      refine' take_at (i := 7) (d := 68) (v := _) rfl rfl (by kernel_rfl) (by kernel_rfl) (by kernel_rfl) (fun _ _ _ h => h) (Or.inl ⟨by rfl, ?h7⟩) (H4.out.nd.blk) ?_
      case h7 =>
        intro w hSw
        obtain ⟨c0, c1, c2, c3, c4, c5, c6, c7, c8, c9⟩ := ten_cells hSw
        go_simp
        with_reducible rfl
      simp only [List.setIfInBounds_toArray, List.set_cons_zero, List.set_cons_succ]
      refine' take_at (i := 8) (d := 69) (v := _) rfl rfl (by kernel_rfl) (by kernel_rfl) (by kernel_rfl) (fun _ _ _ h => h) (Or.inl ⟨by rfl, ?h8⟩) (H4.out.nd.blk) ?_
      case h8 =>
        intro w hSw
        obtain ⟨c0, c1, c2, c3, c4, c5, c6, c7, c8, c9⟩ := ten_cells hSw
        go_simp
        with_reducible rfl
      simp only [List.setIfInBounds_toArray, List.set_cons_zero, List.set_cons_succ]
      refine' take_at (i := 9) (d := 70) (v := _) rfl rfl (by kernel_rfl) (by kernel_rfl) (by kernel_rfl) (fun _ _ _ h => h) (Or.inl ⟨by rfl, ?h9⟩) (H4.out.nd.blk) ?_
      case h9 =>
        intro w hSw
        obtain ⟨c0, c1, c2, c3, c4, c5, c6, c7, c8, c9⟩ := ten_cells hSw
        go_simp
        with_reducible rfl
      simp only [List.setIfInBounds_toArray, List.set_cons_zero, List.set_cons_succ]
      refine' take_at (i := 10) (d := 71) (v := _) rfl rfl (by kernel_rfl) (by kernel_rfl) (by kernel_rfl) (fun _ _ _ h => h) (Or.inl ⟨by rfl, ?h10⟩) (H4.out.nd.blk) ?_
      case h10 =>
        intro w hSw
        obtain ⟨c0, c1, c2, c3, c4, c5, c6, c7, c8, c9⟩ := ten_cells hSw
        go_simp
        with_reducible rfl
      simp only [List.setIfInBounds_toArray, List.set_cons_zero, List.set_cons_succ]
      refine wpAnyH_ready (rs := [5]) (by kernel_rfl) (by simp) ?_
      refine AllReadyH.cons (o := _) rfl (fun KQ hKQ => ?_) AllReadyH.nil
      go_simp
      refine (HCL.out w4 H4.out.nd).mono ?_
      rintro e w5 ⟨a5, c5, rfl, hrow, hb⟩
      have H5 : Hid (Ask11 w w5 b r rr p o n (.slice a n.names.length c) (Tq.gone o.path) (.slice none 0 0) ∧ w5.ownsRow w4.heap.size 9 1 (.slice a5 n.names.length c5) n.names.length (sc n.names) ∧ rr < w4.heap.size) := ⟨H4.out.later hb, hrow, H4.out.cb.lt⟩
      clear hrow hb H4
      simp only []
      refine hKQ.out _ _ H5.out.1.nd.blk (fun _ => ?_)
      clear hKQ KQ
      refine' take_at (i := 11) (d := 72) (v := _) rfl rfl (by kernel_rfl) (by kernel_rfl) (by kernel_rfl) (fun _ _ _ h => h) (Or.inl ⟨by rfl, ?h11⟩) (H5.out.1.nd.blk) ?_
      case h11 =>
        intro w hSw
        go_simp
        with_reducible rfl
      simp only [List.setIfInBounds_toArray, List.set_cons_zero, List.set_cons_succ]
      refine wpAnyH_ready (rs := [12]) (by kernel_rfl) (by simp) ?_
      refine AllReadyH.cons (o := _) rfl (fun KQ hKQ => ?_) AllReadyH.nil
      have r2 : w5.cell? ⟨rr, 3, none⟩ = some (.slice none 0 0) := H5.out.1.cb.cell 3
      have f2 := H5.out.1.cb.free 3
      go_simp
      clear r2 f2
      have H6 : Hid (Ask11 w (w5.setCell ⟨rr, 3, none⟩ (.slice a5 n.names.length c5)) b r rr p o n (.slice a n.names.length c) ⟨0, o.path, ⟨#[]⟩, n.names, 0, 0, 0, 0, 0, 0, 0⟩ (.slice a5 n.names.length c5) ∧ (w5.setCell ⟨rr, 3, none⟩ (.slice a5 n.names.length c5)).ownsRow w4.heap.size 9 1 (.slice a5 n.names.length c5) n.names.length (sc n.names) ∧ rr < w4.heap.size) := ⟨H5.out.1.keep (grownBy_setCell w5 ⟨rr, 3, none⟩ _) (Nat.le_refl _) (H5.out.1.cb.set 3 _), row_stays H5.out.2.1 (fun k hk => (grownBy_setCell w5 ⟨rr, 3, none⟩ _).block k (H5.out.2.1.lt k hk).2 (by have := (H5.out.2.1.lt k hk).1; have := H5.out.2.2; simp; omega)), H5.out.2.2⟩
      clear H5
      generalize w5.setCell ⟨rr, 3, none⟩ (.slice a5 n.names.length c5) = w6 at *
      refine hKQ.out _ _ H6.out.1.nd.blk (fun _ => ?_)
      clear hKQ KQ
      refine' take_at (i := 13) (d := 73) (v := _) rfl rfl (by kernel_rfl) (by kernel_rfl) (by kernel_rfl) (fun _ _ _ h => h) (Or.inl ⟨by rfl, ?h13⟩) (H6.out.1.nd.blk) ?_
      case h13 =>
        intro w hSw
        go_simp
        with_reducible rfl
      simp only [List.setIfInBounds_toArray, List.set_cons_zero, List.set_cons_succ]
      refine wpAnyH_ready (rs := [14]) (by kernel_rfl) (by simp) ?_
      refine AllReadyH.cons (o := _) rfl (fun KQ hKQ => ?_) AllReadyH.nil
      refine wp_store_part 73 _ _ rfl rr 4 #[.int .i64 n.made, .int .i64 n.changed, .int .i64 n.ver, .int .i64 n.kids, .int .i64 n.owner, .int .i64 n.len, .int .i64 n.cnt] rfl rfl 75 _ (xc (Tq.told o.path ⟨#[]⟩ n.names n) (.slice a5 n.names.length c5)) H6.out.1.cb (by kernel_rfl) (Nat.le_of_ble_eq_true rfl) (by kernel_rfl) rfl ?_
      have H7 : Hid (Ask11 w (w6.setRow rr (xc (Tq.told o.path ⟨#[]⟩ n.names n) (.slice a5 n.names.length c5)).toArray) b r rr p o n (.slice a n.names.length c) (Tq.told o.path ⟨#[]⟩ n.names n) (.slice a5 n.names.length c5)) := H6.out.1.fill _ _
      have H7R : Hid ((w6.setRow rr (xc (Tq.told o.path ⟨#[]⟩ n.names n) (.slice a5 n.names.length c5)).toArray).ownsRow w4.heap.size 9 1 (.slice a5 n.names.length c5) n.names.length (sc n.names) ∧ r < w4.heap.size) := ⟨row_stays H6.out.2.1 (fun k hk => (rowed_grown w6 rr _).block k (H6.out.2.1.lt k hk).2 (by have := (H6.out.2.1.lt k hk).1; have := H6.out.2.2; simp; omega)), by have := H6.out.2.2; have := H6.out.1.nr; omega⟩
      clear H6
      generalize w6.setRow rr (xc (Tq.told o.path ⟨#[]⟩ n.names n) (.slice a5 n.names.length c5)).toArray = w7 at *
      go_simp
      refine hKQ.out _ _ H7.out.nd.blk (fun _ => ?_)
      clear hKQ KQ
      refine wpAnyH_done (by kernel_rfl) ?_ _
      go_wp2_with (first
        | (refine wpList_load_row rfl 75 _ rfl rr rfl 75 (xc (Tq.told o.path ⟨#[]⟩ n.names n) (.slice a5 n.names.length c5)).toArray (0, 0) _ H7.out.cb Tryz.underlying75 rfl (by kernel_rfl) ?_)
        | (refine wpList_store_row rfl 75 _ _ rfl r (xc (Tq.told o.path ⟨#[]⟩ n.names n) (.slice a5 n.names.length c5)).toArray rfl rfl 75 _ H7.out.fr.res (by kernel_rfl) rfl (by kernel_rfl) ?_))
      have H9 := H7.out.fr.put (Tq.told o.path ⟨#[]⟩ n.names n) (.slice a5 n.names.length c5)
      have H10 := row_stays H7R.out.1 (fun k hk => (rowed_grown w7 r (xc (Tq.told o.path ⟨#[]⟩ n.names n) (.slice a5 n.names.length c5)).toArray).block k (H7R.out.1.lt k hk).2 (by have := (H7R.out.1.lt k hk).1; have := H7R.out.2; simp; omega))
      refine bodyPost_ret (v := .agg (xc (Tq.told o.path ⟨#[]⟩ n.names n) (.slice a5 n.names.length c5)).toArray) ?_ rfl ⟨_, by rw [HE.out]; rfl, by rw [HE.out]; exact sq_of_row H10, fun k hk => by have := (H10.lt k hk).1; have := H7R.out.2; have := H7.out.fr.ne; have := H7.out.fr.hi; omega, H9.2⟩
      exact results_cell_row rfl _ _ r 75 _ (0, 0) _ rfl H9.1 Tryz.underlying75 rfl (by kernel_rfl)
  · have HE : Hid (R = Tq.fail pe) := by
      have e : R = Tq.fail pe := by rw [HR.out]; unfold Tq.askT; rw [if_pos (by rw [← HP.out]; exact h0), HP.out]
      exact e
    go_wp2_with (refine wpList_store_row rfl 75 _ _ rfl r (xc (Tq.fail pe) (.slice none 0 0)).toArray rfl rfl 75 _ H1.out.1.res (by kernel_rfl) rfl (by kernel_rfl) ?_)
    have H3 := H1.out.1.put (Tq.fail pe) (.slice none 0 0)
    refine bodyPost_ret (v := .agg (xc (Tq.fail pe) (.slice none 0 0)).toArray) ?_ rfl ⟨_, by rw [HE.out]; rfl, by rw [HE.out]; exact Sq.nil _, fun k hk => by (cases hk), H3.2⟩
    exact results_cell_row rfl _ _ r 75 _ (0, 0) _ rfl H3.1 Tryz.underlying75 rfl (by kernel_rfl)
end
end Go.Proofs.YtboejbjobjhajaaGreatDoor
namespace Go.Proofs.YtboejbjobjhajaaGreatDoor.Tq
theorem make_names (t : Tr) (u : Option ByteArray) (p d : ByteArray) (own z : Int) : (makeAt t u p own z d).1.names = [] := by
  unfold makeAt
  repeat' split
  all_goals rfl
theorem create_names (t : Tr) (o : O) (s z : Int) : (create t o s z).1.names = [] := by
  unfold create
  simp only []
  repeat' split
  all_goals first
    | rfl
    | exact make_names _ _ _ _ _ _
end Go.Proofs.YtboejbjobjhajaaGreatDoor.Tq
namespace Go.Proofs.YtboejbjobjhajaaGreatDoor
open Go.RowKit
section
variable {w : World} {q m : Nat} {t : Tq.Tr} {G : Nat → Prop} {D : DataW Nat} {P : ByteArray → Nat} {V : ByteArray → Value}
theorem TkU.look_yes (h : TkU w q t G m D P V) {p : ByteArray} {n : Kq.Kn} (hp : p.size ≤ maxLen) (hf : Tq.find t.l p = some n) : (Instr.lookup 111 (.map (some m)) (.string p) true).run Tryz.prog w = .ok (.tuple #[dptr (P p), .bool true]) w := by
  obtain ⟨v, ps, h1, h2⟩ := h.own.look_ok (H := Nat) keyed11 Tryz.underlying111 (zeroPtr11 w) (zd := .nil) (zp := []) rfl (key_of hp)
  rw [(h.there hf).2] at h2
  rw [fElem_held h2, (h.there hf).1] at h1
  exact h1
theorem TkU.look_no (h : TkU w q t G m D P V) {p : ByteArray} (hp : p.size ≤ maxLen) (hf : Tq.find t.l p = none) : (Instr.lookup 111 (.map (some m)) (.string p) true).run Tryz.prog w = .ok (.tuple #[.pointer none, .bool false]) w := by
  obtain ⟨v, ps, h1, h2⟩ := h.own.look_ok (H := Nat) keyed11 Tryz.underlying111 (zeroPtr11 w) (zd := .nil) (zp := []) rfl (key_of hp)
  rw [Maps.atKey_of_not_has (h.nowhere hf)] at h2
  rw [fElem_nil h2, h.nowhere hf] at h1
  exact h1
theorem TkU.look_one (h : TkU w q t G m D P V) {p : ByteArray} {n : Kq.Kn} (hp : p.size ≤ maxLen) (hf : Tq.find t.l p = some n) : (Instr.lookup 111 (.map (some m)) (.string p) false).run Tryz.prog w = .ok (dptr (P p)) w := by
  obtain ⟨v, ps, h1, h2⟩ := h.own.lookup (H := Nat) keyed11 Tryz.underlying111 (zeroPtr11 w) (zd := .nil) (zp := []) rfl (key_of hp)
  rw [(h.there hf).2] at h2
  rw [fElem_held h2] at h1
  exact h1

set_option maxRecDepth 20000 in
set_option maxHeartbeats 4000000 in
theorem try_any11 (o : O) (s z : Int) (h : TkU w q t G m D P V) (hf : Fine11 t) (hS : Pa.Std w) (ho : OFit o) :
    Calls Tryz.prog 39 #[dptr q, ov o, .int .i64 s, .int .i64 z] w fun e w' => ∃ u, e = .returned (rv (Tq.doo t o s z).1 u) ∧ Sq w' u (Tq.doo t o s z).1.names ∧ (∀ k, u.ownBlock = some k → w.heap.size ≤ k) ∧ Below w.heap.size w w' := by
  have HFR : Hid (Fr11 w ((w.alloc (.cells #[.int .i64 o.kind, .string o.path, .string o.data, .int .i64 o.ver, .int .i64 o.flags] 30)).alloc (.cells #[.int .i64 0, .string ⟨#[]⟩, .string ⟨#[]⟩, .slice none 0 0, .int .i64 0, .int .i64 0, .int .i64 0, .int .i64 0, .int .i64 0, .int .i64 0, .int .i64 0] 75)) w.heap.size (w.heap.size + 1) o) := Fr11.made w o
  have HD : Hid (TkU ((w.alloc (.cells #[.int .i64 o.kind, .string o.path, .string o.data, .int .i64 o.ver, .int .i64 o.flags] 30)).alloc (.cells #[.int .i64 0, .string ⟨#[]⟩, .string ⟨#[]⟩, .slice none 0 0, .int .i64 0, .int .i64 0, .int .i64 0, .int .i64 0, .int .i64 0, .int .i64 0, .int .i64 0] 75)) q t G m D P V ∧ Pa.Std ((w.alloc (.cells #[.int .i64 o.kind, .string o.path, .string o.data, .int .i64 o.ver, .int .i64 o.flags] 30)).alloc (.cells #[.int .i64 0, .string ⟨#[]⟩, .string ⟨#[]⟩, .slice none 0 0, .int .i64 0, .int .i64 0, .int .i64 0, .int .i64 0, .int .i64 0, .int .i64 0, .int .i64 0] 75))) := ⟨h.below HFR.out.below, hS.below HFR.out.below⟩
  have HS : Hid (Fine11 t ∧ OFit o) := ⟨hf, ho⟩
  obtain ⟨b, hbw⟩ : ∃ b, b = w.heap.size := ⟨_, rfl⟩
  obtain ⟨r, hrw⟩ : ∃ r, r = w.heap.size + 1 := ⟨_, rfl⟩
  rw [← hrw, ← hbw] at HFR
  obtain ⟨R, hR⟩ : ∃ R, R = (Tq.doo t o s z).1 := ⟨_, rfl⟩
  have HR : Hid (R = (Tq.doo t o s z).1) := hR
  rw [← hR]
  have HGD : Hid (∀ w, Pa.Std w → Calls Tryz.prog 84 #[ov o] w fun e w' => e = .returned (.int .i64 (Oq.good o)) ∧ Below w.heap.size w w') := fun w hS => good_spec o w hS ho
  have HCR : Hid (∀ w, TkU w q t G m D P V → Pa.Std w → Oq.good o = 0 → Calls Tryz.prog 85 #[dptr q, ov o, .int .i64 s, .int .i64 z] w fun e w' => e = .returned (rv (Tq.create t o s z).1 (.slice none 0 0)) ∧ Below w.heap.size w w') := fun w h hS hg => created_any11 o s z h hS (Tq.good_path hg) (Tq.good_zero hg).2.1 (Oq.head_no (Tq.good_zero hg).1).2.2.2.2.1 (Oq.head_no (Tq.good_zero hg).1).2.2.2.2.2
  have HAK : Hid (∀ w (p : Nat) (n : Kq.Kn) (v : Value), Own11 w p n v → Node11 n → Pa.Std w → Oq.good o = 0 → o.kind ≠ 1 → Calls Tryz.prog 86 #[dptr p, ov o, .int .i64 z] w fun e w' => ∃ u, e = .returned (rv (Tq.askT o z n) u) ∧ Sq w' u (Tq.askT o z n).names ∧ (∀ k, u.ownBlock = some k → w.heap.size ≤ k) ∧ Below w.heap.size w w') := fun w p n v h hn hS hg hk => asked_any11 p n v o z h hn hS (Tq.good_path hg) (Tq.good_zero hg).2.1 (by have h1 := Oq.head_no (Tq.good_zero hg).1; omega)
  clear hR h hS hf ho
  unfold ov at HGD HCR HAK
  unfold ov
  go_enter Tryz.func39, Tryz.ntmps39
  go_wp2_with fail
  rw [← hrw, ← hbw]
  clear hrw hbw
  generalize ((w.alloc (.cells #[.int .i64 o.kind, .string o.path, .string o.data, .int .i64 o.ver, .int .i64 o.flags] 30)).alloc (.cells #[.int .i64 0, .string ⟨#[]⟩, .string ⟨#[]⟩, .slice none 0 0, .int .i64 0, .int .i64 0, .int .i64 0, .int .i64 0, .int .i64 0, .int .i64 0, .int .i64 0] 75)) = w0 at *
  refine (HGD.out w0 HD.out.2).mono ?_
  rintro e w1 ⟨rfl, hb⟩
  have H1 : Hid (Fr11 w w1 b r o ∧ TkU w1 q t G m D P V ∧ Pa.Std w1) := ⟨HFR.out.later hb, HD.out.1.below hb, HD.out.2.below hb⟩
  clear hb
  obtain ⟨pe, hpe⟩ : ∃ x, x = Oq.good o := ⟨_, rfl⟩
  rw [← hpe]
  have HP : Hid (pe = Oq.good o) := hpe
  clear hpe
  by_cases h0 : pe = 0
  · subst h0
    have HG : Hid (Oq.good o = 0) := HP.out.symm
    by_cases hs1 : s < 1
    · have HE : Hid (R = Tq.fail 1) := by
        have e : R = Tq.fail 1 := by rw [HR.out]; unfold Tq.doo; rw [HG.out, if_neg (by simp), if_pos (Or.inl hs1)]
        exact e
      go_wp2_with (refine wpList_store_row rfl 75 _ _ rfl r (xc (Tq.fail 1) (.slice none 0 0)).toArray rfl rfl 75 _ H1.out.1.res (by kernel_rfl) rfl (by kernel_rfl) ?_)
      have H9 := H1.out.1.put (Tq.fail 1) (.slice none 0 0)
      refine bodyPost_ret (v := .agg (xc (Tq.fail 1) (.slice none 0 0)).toArray) ?_ rfl ⟨_, by rw [HE.out]; rfl, by rw [HE.out]; exact Sq.nil _, fun k hk => by (cases hk), H9.2⟩
      exact results_cell_row rfl _ _ r 75 _ (0, 0) _ rfl H9.1 Tryz.underlying75 rfl (by kernel_rfl)
    by_cases hz1 : z < 0
    · have HE : Hid (R = Tq.fail 1) := by
        have e : R = Tq.fail 1 := by rw [HR.out]; unfold Tq.doo; rw [HG.out, if_neg (by simp), if_pos (Or.inr hz1)]
        exact e
      go_wp2_with (refine wpList_store_row rfl 75 _ _ rfl r (xc (Tq.fail 1) (.slice none 0 0)).toArray rfl rfl 75 _ H1.out.1.res (by kernel_rfl) rfl (by kernel_rfl) ?_)
      have H9 := H1.out.1.put (Tq.fail 1) (.slice none 0 0)
      refine bodyPost_ret (v := .agg (xc (Tq.fail 1) (.slice none 0 0)).toArray) ?_ rfl ⟨_, by rw [HE.out]; rfl, by rw [HE.out]; exact Sq.nil _, fun k hk => by (cases hk), H9.2⟩
      exact results_cell_row rfl _ _ r 75 _ (0, 0) _ rfl H9.1 Tryz.underlying75 rfl (by kernel_rfl)
    have HR2 : Hid (R = (if o.kind = 1 then Tq.create t o s z else match Tq.find t.l o.path with | none => (Tq.fail 4, t) | some n => Tq.atNode t o z n).1) := by
      have e : R = (if o.kind = 1 then Tq.create t o s z else match Tq.find t.l o.path with | none => (Tq.fail 4, t) | some n => Tq.atNode t o z n).1 := by rw [HR.out]; unfold Tq.doo; rw [HG.out, if_neg (by simp), if_neg (by omega)]; rfl
      exact e
    obtain ⟨c0, c1, c2, c3, c4⟩ := H1.out.1.op.all
    by_cases hk : o.kind = 1
    · have HE : Hid (R = (Tq.create t o s z).1 ∧ R.names = []) := by
        have e : R = (Tq.create t o s z).1 := by rw [HR2.out, if_pos hk]
        exact ⟨e, by rw [e]; exact Tq.create_names _ _ _ _⟩
      have hkb : (o.kind == 1) = true := by simp [hk]
      clear hk
      go_wp2_with fail
      refine (HCR.out w1 H1.out.2.1 H1.out.2.2 HG.out).mono ?_
      rintro e w2 ⟨rfl, hb⟩
      have H2 : Hid (Fr11 w w2 b r o ∧ True) := ⟨H1.out.1.later hb, trivial⟩
      rw [← HE.out.1]
      clear hb c0 c1 c2 c3 c4
      unfold rv
      go_wp2_with (refine wpList_store_row rfl 75 _ _ rfl r (xc R (.slice none 0 0)).toArray rfl rfl 75 _ H2.out.1.res (by kernel_rfl) rfl (by kernel_rfl) ?_)
      have H9 := H2.out.1.put R (.slice none 0 0)
      refine bodyPost_ret (v := .agg (xc R (.slice none 0 0)).toArray) ?_ rfl ⟨_, rfl, by rw [HE.out.2]; exact Sq.nil _, fun k hk => by (cases hk), H9.2⟩
      exact results_cell_row rfl _ _ r 75 _ (0, 0) _ rfl H9.1 Tryz.underlying75 rfl (by kernel_rfl)
    · have m0 : w1.cell? ⟨q, 0, none⟩ = some (.map (some m)) := H1.out.2.1.blk.cell 0
      cases hfd : Tq.find t.l o.path with
      | none =>
        have HE : Hid (R = Tq.fail 4) := by
          have e : R = Tq.fail 4 := by rw [HR2.out, if_neg hk, hfd]
          exact e
        have hlk : ∀ n, (Instr.lookup 111 (.map (some m)) (.string o.path) true).run Tryz.prog (w1.drewN n) = .ok (.tuple #[.pointer none, .bool false]) (w1.drewN n) := fun n => (H1.out.2.1.below (below_drewN (Below.refl _ w1) n)).look_no (good_max (Tq.good_path HG.out)) hfd
        clear hfd c2 c3 c4
        go_wp2
        go_quiet (fail)
        have H2 : Hid (Fr11 w (w1.drewN nq) b r o ∧ True) := ⟨H1.out.1.later (below_drewN (Below.refl _ w1) nq), trivial⟩
        clear hlk m0 c0 c1
        generalize w1.drewN nq = w2 at *
        go_wp2_with (refine wpList_store_row rfl 75 _ _ rfl r (xc (Tq.fail 4) (.slice none 0 0)).toArray rfl rfl 75 _ H2.out.1.res (by kernel_rfl) rfl (by kernel_rfl) ?_)
        have H9 := H2.out.1.put (Tq.fail 4) (.slice none 0 0)
        refine bodyPost_ret (v := .agg (xc (Tq.fail 4) (.slice none 0 0)).toArray) ?_ rfl ⟨_, by rw [HE.out]; rfl, by rw [HE.out]; exact Sq.nil _, fun k hk => by (cases hk), H9.2⟩
        exact results_cell_row rfl _ _ r 75 _ (0, 0) _ rfl H9.1 Tryz.underlying75 rfl (by kernel_rfl)
      | some n =>
        have HE : Hid (R = Tq.askT o z n ∧ Node11 n) := by
          have e : R = Tq.askT o z n := by rw [HR2.out, if_neg hk, hfd]; exact Tq.atNode_ask _ _ _ _
          exact ⟨e, Tq.find_node HS.out.1 hfd⟩
        obtain ⟨pb, hpb⟩ : ∃ pb, pb = P o.path := ⟨_, rfl⟩
        have HO : Hid (Own11 w1 pb n (V o.path)) := by
          have e : Own11 w1 pb n (V o.path) := by rw [hpb]; exact H1.out.2.1.node _ (Tq.find_some hfd)
          exact e
        have hlk : ∀ n, (Instr.lookup 111 (.map (some m)) (.string o.path) true).run Tryz.prog (w1.drewN n) = .ok (.tuple #[dptr pb, .bool true]) (w1.drewN n) := fun n => by
          rw [hpb]
          exact (H1.out.2.1.below (below_drewN (Below.refl _ w1) n)).look_yes (good_max (Tq.good_path HG.out)) hfd
        clear hfd hpb
        go_wp2
        go_quiet (fail)
        have hbd := below_drewN (Below.refl w1.heap.size w1) nq
        have H2 : Hid (Fr11 w (w1.drewN nq) b r o ∧ Own11 (w1.drewN nq) pb n (V o.path) ∧ Pa.Std (w1.drewN nq)) := ⟨H1.out.1.later hbd, HO.out.keep (fun k hk => hbd.block k (HO.out.flt hk)), H1.out.2.2.below hbd⟩
        clear hlk m0 c0 c1 c2 c3 c4 hbd
        generalize w1.drewN nq = w2 at *
        obtain ⟨c0, c1, c2, c3, c4⟩ := H2.out.1.op.all
        go_wp2_with fail
        refine (HAK.out w2 pb n (V o.path) H2.out.2.1 HE.out.2 H2.out.2.2 HG.out hk).mono ?_
        rintro e w3 ⟨u, rfl, hsq, hnew, hb⟩
        have H3 : Hid (Fr11 w w3 b r o ∧ Sq w3 u R.names ∧ (∀ k, u.ownBlock = some k → w2.heap.size ≤ k) ∧ r < w2.heap.size) := ⟨H2.out.1.later hb, by rw [HE.out.1]; exact hsq, hnew, H2.out.1.res.lt⟩
        rw [← HE.out.1]
        obtain ⟨ua, uk, uc, rfl, hj⟩ := hsq
        clear hj hnew hb c0 c1 c2 c3 c4
        unfold rv
        go_wp2_with (refine wpList_store_row rfl 75 _ _ rfl r (xc R (.slice ua uk uc)).toArray rfl rfl 75 _ H3.out.1.res (by kernel_rfl) rfl (by kernel_rfl) ?_)
        have H9 := H3.out.1.put R (.slice ua uk uc)
        refine bodyPost_ret (v := .agg (xc R (.slice ua uk uc)).toArray) ?_ rfl ⟨_, rfl, sq_rowed H3.out.2.1 (fun k hk => by have := H3.out.2.2.1 k hk; have := H3.out.2.2.2; omega), fun k hk => by have h1 := H3.out.2.2.1 k hk; have h2 := H3.out.2.2.2; have h3 := H3.out.1.ne; have h4 := H3.out.1.hi; omega, H9.2⟩
        exact results_cell_row rfl _ _ r 75 _ (0, 0) _ rfl H9.1 Tryz.underlying75 rfl (by kernel_rfl)
  · have HE : Hid (R = Tq.fail pe) := by
      have e : R = Tq.fail pe := by rw [HR.out]; unfold Tq.doo; rw [if_pos (by rw [← HP.out]; exact h0), HP.out]
      exact e
    go_wp2_with (refine wpList_store_row rfl 75 _ _ rfl r (xc (Tq.fail pe) (.slice none 0 0)).toArray rfl rfl 75 _ H1.out.1.res (by kernel_rfl) rfl (by kernel_rfl) ?_)
    have H9 := H1.out.1.put (Tq.fail pe) (.slice none 0 0)
    refine bodyPost_ret (v := .agg (xc (Tq.fail pe) (.slice none 0 0)).toArray) ?_ rfl ⟨_, by rw [HE.out]; rfl, by rw [HE.out]; exact Sq.nil _, fun k hk => by (cases hk), H9.2⟩
    exact results_cell_row rfl _ _ r 75 _ (0, 0) _ rfl H9.1 Tryz.underlying75 rfl (by kernel_rfl)
end
end Go.Proofs.YtboejbjobjhajaaGreatDoor
