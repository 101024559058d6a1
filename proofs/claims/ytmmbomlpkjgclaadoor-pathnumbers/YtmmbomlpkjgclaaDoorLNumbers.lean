/- The walk of the statement PathNumbers: it answers true. -/
import Derived.Test.YtmmbomlpkjgclaaDoorWAwake
import Derived.Test.YtmmbomlpkjgclaaDoorPlain3
namespace Go.Proofs.YtmmbomlpkjgclaaDoor
open Go.RowKit

set_option maxHeartbeats 1000000 in
theorem numbers_out0 (p : ByteArray) (a b : Int) (w : World) (hS : Std w) (hp : p.size ≤ maxLen)  (h0 : 300 < (p.size : Int)) :
    Calls Tryd.prog 7 #[.string p, .int .i64 a, .int .i64 b] w fun e w' => e = .returned (.bool true) ∧ Below w.heap.size w w' := by
  have HS : Hid (Std w) := hS
  have HP : Hid (p.size ≤ maxLen) := hp
  unfold maxLen at hp
  have _ := HP
  clear hS
  go_enter Tryd.func7, Tryd.ntmps7
  go_wp2_with fail
  refine (awake_any _ HS.out).mono ?_
  rintro e w1 ⟨rfl, hb⟩
  have HB1 : Hid (Below w.heap.size w w1) := hb
  have HS1 : Hid (Std w1) := HS.out.below hb
  clear hb
  go_wp2
  go_ret
  exact ⟨rfl, HB1.out⟩

set_option maxHeartbeats 1000000 in
theorem numbers_out1 (p : ByteArray) (a b : Int) (w : World) (hS : Std w) (hp : p.size ≤ maxLen) (h0 : ¬ 300 < (p.size : Int)) (h1 : a < 0) :
    Calls Tryd.prog 7 #[.string p, .int .i64 a, .int .i64 b] w fun e w' => e = .returned (.bool true) ∧ Below w.heap.size w w' := by
  have HS : Hid (Std w) := hS
  have HP : Hid (p.size ≤ maxLen) := hp
  unfold maxLen at hp
  have _ := HP
  clear hS
  go_enter Tryd.func7, Tryd.ntmps7
  go_wp2_with fail
  refine (awake_any _ HS.out).mono ?_
  rintro e w1 ⟨rfl, hb⟩
  have HB1 : Hid (Below w.heap.size w w1) := hb
  have HS1 : Hid (Std w1) := HS.out.below hb
  clear hb
  go_wp2
  go_ret
  exact ⟨rfl, HB1.out⟩

set_option maxHeartbeats 1000000 in
theorem numbers_out2 (p : ByteArray) (a b : Int) (w : World) (hS : Std w) (hp : p.size ≤ maxLen) (h0 : ¬ 300 < (p.size : Int)) (h1 : ¬ a < 0) (h2 : 2147483647 < a) :
    Calls Tryd.prog 7 #[.string p, .int .i64 a, .int .i64 b] w fun e w' => e = .returned (.bool true) ∧ Below w.heap.size w w' := by
  have HS : Hid (Std w) := hS
  have HP : Hid (p.size ≤ maxLen) := hp
  unfold maxLen at hp
  have _ := HP
  clear hS
  go_enter Tryd.func7, Tryd.ntmps7
  go_wp2_with fail
  refine (awake_any _ HS.out).mono ?_
  rintro e w1 ⟨rfl, hb⟩
  have HB1 : Hid (Below w.heap.size w w1) := hb
  have HS1 : Hid (Std w1) := HS.out.below hb
  clear hb
  go_wp2
  go_ret
  exact ⟨rfl, HB1.out⟩

set_option maxHeartbeats 1000000 in
theorem numbers_out3 (p : ByteArray) (a b : Int) (w : World) (hS : Std w) (hp : p.size ≤ maxLen) (h0 : ¬ 300 < (p.size : Int)) (h1 : ¬ a < 0) (h2 : ¬ 2147483647 < a) (h3 : b < 0) :
    Calls Tryd.prog 7 #[.string p, .int .i64 a, .int .i64 b] w fun e w' => e = .returned (.bool true) ∧ Below w.heap.size w w' := by
  have HS : Hid (Std w) := hS
  have HP : Hid (p.size ≤ maxLen) := hp
  unfold maxLen at hp
  have _ := HP
  clear hS
  go_enter Tryd.func7, Tryd.ntmps7
  go_wp2_with fail
  refine (awake_any _ HS.out).mono ?_
  rintro e w1 ⟨rfl, hb⟩
  have HB1 : Hid (Below w.heap.size w w1) := hb
  have HS1 : Hid (Std w1) := HS.out.below hb
  clear hb
  go_wp2
  go_ret
  exact ⟨rfl, HB1.out⟩

set_option maxHeartbeats 1000000 in
theorem numbers_out4 (p : ByteArray) (a b : Int) (w : World) (hS : Std w) (hp : p.size ≤ maxLen) (h0 : ¬ 300 < (p.size : Int)) (h1 : ¬ a < 0) (h2 : ¬ 2147483647 < a) (h3 : ¬ b < 0) (h4 : 2147483647 < b) :
    Calls Tryd.prog 7 #[.string p, .int .i64 a, .int .i64 b] w fun e w' => e = .returned (.bool true) ∧ Below w.heap.size w w' := by
  have HS : Hid (Std w) := hS
  have HP : Hid (p.size ≤ maxLen) := hp
  unfold maxLen at hp
  have _ := HP
  clear hS
  go_enter Tryd.func7, Tryd.ntmps7
  go_wp2_with fail
  refine (awake_any _ HS.out).mono ?_
  rintro e w1 ⟨rfl, hb⟩
  have HB1 : Hid (Below w.heap.size w w1) := hb
  have HS1 : Hid (Std w1) := HS.out.below hb
  clear hb
  go_wp2
  go_ret
  exact ⟨rfl, HB1.out⟩

set_option maxHeartbeats 1000000 in
theorem numbers_bad (p : ByteArray) (a b : Int) (w : World) (hS : Std w) (hp : p.size ≤ maxLen) (h0 : ¬ 300 < (p.size : Int)) (h1 : ¬ a < 0) (h2 : ¬ 2147483647 < a) (h3 : ¬ b < 0) (h4 : ¬ 2147483647 < b) (hg : Pl.goodB p.data.toList = false) :
    Calls Tryd.prog 7 #[.string p, .int .i64 a, .int .i64 b] w fun e w' => e = .returned (.bool true) ∧ Below w.heap.size w w' := by
  have HS : Hid (Std w) := hS
  have HP : Hid (p.size ≤ maxLen) := hp
  unfold maxLen at hp
  have _ := HP
  clear hS
  have HG : Hid (Pl.goodB p.data.toList = false) := hg
  clear hg
  go_enter Tryd.func7, Tryd.ntmps7
  go_wp2_with fail
  refine (awake_any _ HS.out).mono ?_
  rintro e w1 ⟨rfl, hb⟩
  have HB1 : Hid (Below w.heap.size w w1) := hb
  have HS1 : Hid (Std w1) := HS.out.below hb
  clear hb
  go_wp2_with fail
  refine (number_no p a _ HS1.out HP.out (Or.inl HG.out)).mono ?_
  rintro e w2 ⟨rfl, hb⟩
  have HB2 : Hid (Below w.heap.size w w2) := HB1.out.trans (hb.mono HB1.out.size)
  have HS2 : Hid (Std w2) := HS1.out.below hb
  clear hb
  go_wp2_with fail
  refine (number_no p b _ HS2.out HP.out (Or.inl HG.out)).mono ?_
  rintro e w3 ⟨rfl, hb⟩
  have HB3 : Hid (Below w.heap.size w w3) := HB2.out.trans (hb.mono HB2.out.size)
  have HS3 : Hid (Std w3) := HS2.out.below hb
  clear hb
  go_wp2
  go_ret
  exact ⟨rfl, HB3.out⟩

set_option maxHeartbeats 1000000 in
theorem numbers_none (p : ByteArray) (a b : Int) (w : World) (hS : Std w) (hp : p.size ≤ maxLen) (h0 : ¬ 300 < (p.size : Int)) (h1 : ¬ a < 0) (h2 : ¬ 2147483647 < a) (h3 : ¬ b < 0) (h4 : ¬ 2147483647 < b) (hg : Pl.goodB p.data.toList = true) (hga : Pl.goodB (p.data.toList ++ Pl.dig10 a.toNat) = false) (hgb : Pl.goodB (p.data.toList ++ Pl.dig10 b.toNat) = false) :
    Calls Tryd.prog 7 #[.string p, .int .i64 a, .int .i64 b] w fun e w' => e = .returned (.bool true) ∧ Below w.heap.size w w' := by
  have HS : Hid (Std w) := hS
  have HP : Hid (p.size ≤ maxLen) := hp
  unfold maxLen at hp
  have _ := HP
  clear hS
  have HG : Hid (Pl.goodB p.data.toList = true) := hg
  have ha : 0 ≤ a := by omega
  have hb0 : 0 ≤ b := by omega
  have ha1 : a ≤ 2147483647 := by omega
  have hb1 : b ≤ 2147483647 := by omega
  have HA : Hid (Pl.goodB (p.data.toList ++ Pl.dig10 a.toNat) = false) := hga
  have HA2 : Hid (Pl.goodB (p.data.toList ++ Pl.dig10 b.toNat) = false) := hgb
  clear hg hga hgb
  go_enter Tryd.func7, Tryd.ntmps7
  go_wp2_with fail
  refine (awake_any _ HS.out).mono ?_
  rintro e w1 ⟨rfl, hb⟩
  have HB1 : Hid (Below w.heap.size w w1) := hb
  have HS1 : Hid (Std w1) := HS.out.below hb
  clear hb
  go_wp2_with fail
  refine (number_any p a _ HS1.out HG.out ha ha1).mono ?_
  rintro e w2 (⟨_, _, _, hx, _⟩ | ⟨rfl, _, hb⟩)
  case inl => rw [HA.out] at hx; cases hx
  have HB2 : Hid (Below w.heap.size w w2) := HB1.out.trans (hb.mono HB1.out.size)
  have HS2 : Hid (Std w2) := HS1.out.below hb
  clear hb
  go_wp2_with fail
  refine (number_any p b _ HS2.out HG.out hb0 hb1).mono ?_
  rintro e w3 (⟨_, _, _, hx, _⟩ | ⟨rfl, _, hb⟩)
  case inl => rw [HA2.out] at hx; cases hx
  have HB3 : Hid (Below w.heap.size w w3) := HB2.out.trans (hb.mono HB2.out.size)
  have HS3 : Hid (Std w3) := HS2.out.below hb
  clear hb
  go_wp2
  go_ret
  exact ⟨rfl, HB3.out⟩

theorem num_less {a b : Int} (ha : 0 ≤ a ∧ a ≤ 2147483647) (hb : 0 ≤ b ∧ b ≤ 2147483647) (p : List UInt8) : Op.bytesLess (p ++ Pl.dig10 a.toNat) (p ++ Pl.dig10 b.toNat) = decide (a < b) := by
  rw [Pl.less_append, Pl.dig10_fx (by omega), Pl.dig10_fx (by omega), Pl.fx_less 10 _ _ (by omega) (by omega), decide_eq_decide]
  omega
theorem num_eq {a b : Int} (ha : 0 ≤ a ∧ a ≤ 2147483647) (hb : 0 ≤ b ∧ b ≤ 2147483647) (p : List UInt8) : (p ++ Pl.dig10 a.toNat == p ++ Pl.dig10 b.toNat) = (a == b) := by
  rw [Bool.eq_iff_iff, beq_iff_eq, beq_iff_eq, List.append_right_inj, Pl.dig10_fx (by omega), Pl.dig10_fx (by omega)]
  constructor
  · intro h
    have := Pl.fx_inj 10 _ _ (by omega) (by omega) h
    omega
  · intro h; rw [h]
theorem num_len {a : Int} (ha : 0 ≤ a ∧ a ≤ 2147483647) : (Pl.dig10 a.toNat).length = 10 := by
  rw [Pl.dig10_fx (by omega), Pl.fx_len]
theorem num_digits {a : Int} (ha : 0 ≤ a ∧ a ≤ 2147483647) : ∀ c ∈ Pl.dig10 a.toNat, 48 ≤ c.toNat ∧ c.toNat ≤ 57 := by
  rw [Pl.dig10_fx (by omega)]; exact Pl.fx_digits 10 _
theorem num_clean {a : Int} (ha : 0 ≤ a ∧ a ≤ 2147483647) : ∀ c ∈ Pl.dig10 a.toNat, c ≠ 47 := by
  intro c hc e
  have := num_digits ha c hc
  rw [e] at this
  simp at this

set_option maxHeartbeats 1000000 in
theorem numbers_deep (p : ByteArray) (a b : Int) (w : World) (hS : Std w) (hp : p.size ≤ maxLen) (h0 : ¬ 300 < (p.size : Int)) (h1 : ¬ a < 0) (h2 : ¬ 2147483647 < a) (h3 : ¬ b < 0) (h4 : ¬ 2147483647 < b) (hg : Pl.goodB p.data.toList = true) (hga : Pl.goodB (p.data.toList ++ Pl.dig10 a.toNat) = true) (hgb : Pl.goodB (p.data.toList ++ Pl.dig10 b.toNat) = true) (h2 : 2 ≤ (Pl.parts p.data.toList).length) :
    Calls Tryd.prog 7 #[.string p, .int .i64 a, .int .i64 b] w fun e w' => e = .returned (.bool true) ∧ Below w.heap.size w w' := by
  have HS : Hid (Std w) := hS
  have HP : Hid (p.size ≤ maxLen) := hp
  unfold maxLen at hp
  have _ := HP
  clear hS
  have HG : Hid (Pl.goodB p.data.toList = true) := hg
  have ha : 0 ≤ a := by omega
  have hb0 : 0 ≤ b := by omega
  have ha1 : a ≤ 2147483647 := by omega
  have hb1 : b ≤ 2147483647 := by omega
  have HA : Hid (Pl.goodB (p.data.toList ++ Pl.dig10 a.toNat) = true) := hga
  have HA2 : Hid (Pl.goodB (p.data.toList ++ Pl.dig10 b.toNat) = true) := hgb
  have HZ : Hid ((0 ≤ a ∧ a ≤ 2147483647) ∧ (0 ≤ b ∧ b ≤ 2147483647)) := ⟨⟨ha, ha1⟩, ⟨hb0, hb1⟩⟩
  have HD : Hid ((Pl.dig10 a.toNat).length = 10) := num_len ⟨ha, ha1⟩
  have HPP : Hid ((Pl.parts (p.data.toList ++ Pl.dig10 a.toNat)).length = (Pl.parts p.data.toList).length ∧ Pl.parent (p.data.toList ++ Pl.dig10 a.toNat) = Pl.parent p.data.toList) := Pl.num_parts hg hga (num_clean ⟨ha, ha1⟩)
  have H2 : Hid (2 ≤ (Pl.parts p.data.toList).length) := h2
  clear hg hga hgb h2
  go_enter Tryd.func7, Tryd.ntmps7
  go_wp2_with fail
  refine (awake_any _ HS.out).mono ?_
  rintro e w1 ⟨rfl, hb⟩
  have HB1 : Hid (Below w.heap.size w w1) := hb
  have HS1 : Hid (Std w1) := HS.out.below hb
  clear hb
  go_wp2_with fail
  refine (number_any p a _ HS1.out HG.out ha ha1).mono ?_
  rintro e w2 (⟨x, rfl, hx, _, hb⟩ | ⟨_, hx, _⟩)
  case inr => rw [HA.out] at hx; cases hx
  have HX : Hid (x.data.toList = p.data.toList ++ Pl.dig10 a.toNat) := hx
  clear hx
  have HB2 : Hid (Below w.heap.size w w2) := HB1.out.trans (hb.mono HB1.out.size)
  have HS2 : Hid (Std w2) := HS1.out.below hb
  clear hb
  go_wp2_with fail
  refine (number_any p b _ HS2.out HG.out hb0 hb1).mono ?_
  rintro e w3 (⟨y, rfl, hy, _, hb⟩ | ⟨_, hy, _⟩)
  case inr => rw [HA2.out] at hy; cases hy
  have HY : Hid (y.data.toList = p.data.toList ++ Pl.dig10 b.toNat) := hy
  clear hy
  have HB3 : Hid (Below w.heap.size w w3) := HB2.out.trans (hb.mono HB2.out.size)
  have HS3 : Hid (Std w3) := HS2.out.below hb
  clear hb
  have hless : Op.bytesLess x.toList y.toList = decide (a < b) := by
    rw [Lib.toList_data, Lib.toList_data, HX.out, HY.out]; exact num_less HZ.out.1 HZ.out.2 p.data.toList
  have heq : (x.toList == y.toList) = (a == b) := by
    rw [Lib.toList_data, Lib.toList_data, HX.out, HY.out]; exact num_eq HZ.out.1 HZ.out.2 p.data.toList
  have hxs : ((x.size : Int) == (p.size : Int) + 10) = true := by
    rw [← sz_list, HX.out, List.length_append, HD.out, sz_list, beq_iff_eq]; omega
  have hxm : x.size ≤ 400 := by
    have := beq_iff_eq.1 hxs
    omega
  go_wp2_with fail
  refine (parent_yes x _ HS3.out (by rw [HX.out]; exact HA.out) (by rw [HX.out, HPP.out.1]; exact H2.out)).mono ?_
  rintro e w4 ⟨u, rfl, hu, hb⟩
  rw [HX.out, HPP.out.2] at hu
  have HU : Hid (u.data.toList = Pl.parent p.data.toList) := hu
  clear hu
  have HB4 : Hid (Below w.heap.size w w4) := HB3.out.trans (hb.mono HB3.out.size)
  have HS4 : Hid (Std w4) := HS3.out.below hb
  clear hb
  go_wp2_with fail
  refine (parent_yes p _ HS4.out HG.out H2.out).mono ?_
  rintro e w5 ⟨v, rfl, hv, hb⟩
  obtain rfl : v = u := ByteArray.ext (Array.toList_inj.1 (hv.trans HU.out.symm))
  clear hv HU
  have HB5 : Hid (Below w.heap.size w w5) := HB4.out.trans (hb.mono HB4.out.size)
  have HS5 : Hid (Std w5) := HS4.out.below hb
  clear hb
  go_wp2
  go_ret
  exact ⟨rfl, HB5.out⟩

set_option maxHeartbeats 1000000 in
theorem numbers_top (p : ByteArray) (a b : Int) (w : World) (hS : Std w) (hp : p.size ≤ maxLen) (h0 : ¬ 300 < (p.size : Int)) (h1 : ¬ a < 0) (h2 : ¬ 2147483647 < a) (h3 : ¬ b < 0) (h4 : ¬ 2147483647 < b) (hg : Pl.goodB p.data.toList = true) (hga : Pl.goodB (p.data.toList ++ Pl.dig10 a.toNat) = true) (hgb : Pl.goodB (p.data.toList ++ Pl.dig10 b.toNat) = true) (h2 : (Pl.parts p.data.toList).length < 2) :
    Calls Tryd.prog 7 #[.string p, .int .i64 a, .int .i64 b] w fun e w' => e = .returned (.bool true) ∧ Below w.heap.size w w' := by
  have HS : Hid (Std w) := hS
  have HP : Hid (p.size ≤ maxLen) := hp
  unfold maxLen at hp
  have _ := HP
  clear hS
  have HG : Hid (Pl.goodB p.data.toList = true) := hg
  have ha : 0 ≤ a := by omega
  have hb0 : 0 ≤ b := by omega
  have ha1 : a ≤ 2147483647 := by omega
  have hb1 : b ≤ 2147483647 := by omega
  have HA : Hid (Pl.goodB (p.data.toList ++ Pl.dig10 a.toNat) = true) := hga
  have HA2 : Hid (Pl.goodB (p.data.toList ++ Pl.dig10 b.toNat) = true) := hgb
  have HZ : Hid ((0 ≤ a ∧ a ≤ 2147483647) ∧ (0 ≤ b ∧ b ≤ 2147483647)) := ⟨⟨ha, ha1⟩, ⟨hb0, hb1⟩⟩
  have HD : Hid ((Pl.dig10 a.toNat).length = 10) := num_len ⟨ha, ha1⟩
  have HPP : Hid ((Pl.parts (p.data.toList ++ Pl.dig10 a.toNat)).length = (Pl.parts p.data.toList).length ∧ Pl.parent (p.data.toList ++ Pl.dig10 a.toNat) = Pl.parent p.data.toList) := Pl.num_parts hg hga (num_clean ⟨ha, ha1⟩)
  have H2 : Hid ((Pl.parts p.data.toList).length < 2) := h2
  clear hg hga hgb h2
  go_enter Tryd.func7, Tryd.ntmps7
  go_wp2_with fail
  refine (awake_any _ HS.out).mono ?_
  rintro e w1 ⟨rfl, hb⟩
  have HB1 : Hid (Below w.heap.size w w1) := hb
  have HS1 : Hid (Std w1) := HS.out.below hb
  clear hb
  go_wp2_with fail
  refine (number_any p a _ HS1.out HG.out ha ha1).mono ?_
  rintro e w2 (⟨x, rfl, hx, _, hb⟩ | ⟨_, hx, _⟩)
  case inr => rw [HA.out] at hx; cases hx
  have HX : Hid (x.data.toList = p.data.toList ++ Pl.dig10 a.toNat) := hx
  clear hx
  have HB2 : Hid (Below w.heap.size w w2) := HB1.out.trans (hb.mono HB1.out.size)
  have HS2 : Hid (Std w2) := HS1.out.below hb
  clear hb
  go_wp2_with fail
  refine (number_any p b _ HS2.out HG.out hb0 hb1).mono ?_
  rintro e w3 (⟨y, rfl, hy, _, hb⟩ | ⟨_, hy, _⟩)
  case inr => rw [HA2.out] at hy; cases hy
  have HY : Hid (y.data.toList = p.data.toList ++ Pl.dig10 b.toNat) := hy
  clear hy
  have HB3 : Hid (Below w.heap.size w w3) := HB2.out.trans (hb.mono HB2.out.size)
  have HS3 : Hid (Std w3) := HS2.out.below hb
  clear hb
  have hless : Op.bytesLess x.toList y.toList = decide (a < b) := by
    rw [Lib.toList_data, Lib.toList_data, HX.out, HY.out]; exact num_less HZ.out.1 HZ.out.2 p.data.toList
  have heq : (x.toList == y.toList) = (a == b) := by
    rw [Lib.toList_data, Lib.toList_data, HX.out, HY.out]; exact num_eq HZ.out.1 HZ.out.2 p.data.toList
  have hxs : ((x.size : Int) == (p.size : Int) + 10) = true := by
    rw [← sz_list, HX.out, List.length_append, HD.out, sz_list, beq_iff_eq]; omega
  have hxm : x.size ≤ 400 := by
    have := beq_iff_eq.1 hxs
    omega
  go_wp2_with fail
  refine (parent_no x _ HS3.out (by unfold maxLen; show x.size ≤ 2 ^ 63 - 1; omega) (by rw [HX.out, HPP.out.1]; exact H2.out)).mono ?_
  rintro e w4 ⟨rfl, hb⟩
  have HB4 : Hid (Below w.heap.size w w4) := HB3.out.trans (hb.mono HB3.out.size)
  have HS4 : Hid (Std w4) := HS3.out.below hb
  clear hb
  go_wp2_with fail
  refine (parent_no p _ HS4.out HP.out H2.out).mono ?_
  rintro e w5 ⟨rfl, hb⟩
  have HB5 : Hid (Below w.heap.size w w5) := HB4.out.trans (hb.mono HB4.out.size)
  have HS5 : Hid (Std w5) := HS4.out.below hb
  clear hb
  go_wp2
  go_ret
  exact ⟨rfl, HB5.out⟩

theorem numbers_any (p : ByteArray) (a b : Int) (w : World) (hS : Std w) (hp : p.size ≤ maxLen) :
    Calls Tryd.prog 7 #[.string p, .int .i64 a, .int .i64 b] w fun e w' => e = .returned (.bool true) ∧ Below w.heap.size w w' := by
  by_cases h0 : 300 < (p.size : Int)
  · exact numbers_out0 p a b w hS hp h0
  by_cases h1 : a < 0
  · exact numbers_out1 p a b w hS hp h0 h1
  by_cases h2 : 2147483647 < a
  · exact numbers_out2 p a b w hS hp h0 h1 h2
  by_cases h3 : b < 0
  · exact numbers_out3 p a b w hS hp h0 h1 h2 h3
  by_cases h4 : 2147483647 < b
  · exact numbers_out4 p a b w hS hp h0 h1 h2 h3 h4
  cases hg : Pl.goodB p.data.toList with
  | false => exact numbers_bad p a b w hS hp h0 h1 h2 h3 h4 hg
  | true =>
    have ha : 0 ≤ a ∧ a ≤ 2147483647 := by omega
    have hb : 0 ≤ b ∧ b ≤ 2147483647 := by omega
    have e : Pl.goodB (p.data.toList ++ Pl.dig10 a.toNat) = Pl.goodB (p.data.toList ++ Pl.dig10 b.toNat) := by
      rw [Pl.good_num hg (num_len ha) (num_digits ha), Pl.good_num hg (num_len hb) (num_digits hb)]
    cases hga : Pl.goodB (p.data.toList ++ Pl.dig10 a.toNat) with
    | false => exact numbers_none p a b w hS hp h0 h1 h2 h3 h4 hg hga (e.symm.trans hga)
    | true =>
      by_cases hl : 2 ≤ (Pl.parts p.data.toList).length
      · exact numbers_deep p a b w hS hp h0 h1 h2 h3 h4 hg hga (e.symm.trans hga) hl
      · exact numbers_top p a b w hS hp h0 h1 h2 h3 h4 hg hga (e.symm.trans hga) (by omega)
end Go.Proofs.YtmmbomlpkjgclaaDoor
