/- The walk of the statement PathApart: it answers true. -/
import Derived.Test.YtmmbomlpkjgclabDoorWAwake
import Derived.Test.YtmmbomlpkjgclabDoorPlain2
namespace Go.Proofs.YtmmbomlpkjgclabDoor
open Go.RowKit

set_option maxHeartbeats 1000000 in
theorem apart_long (p q : ByteArray) (w : World) (hS : Std w) (hp : p.size ≤ maxLen) (hq : q.size ≤ maxLen) (h1 : 300 < (p.size : Int)) :
    Calls Tryd.prog 3 #[.string p, .string q] w fun e w' => e = .returned (.bool true) ∧ Below w.heap.size w w' := by
  have HS : Hid (Std w) := hS
  have HP : Hid (p.size ≤ maxLen) := hp
  have HQ : Hid (q.size ≤ maxLen) := hq
  unfold maxLen at hp hq
  have _ := HP
  have _ := HQ
  clear hS
  go_enter Tryd.func3, Tryd.ntmps3
  go_wp2_with fail
  refine (awake_any _ HS.out).mono ?_
  rintro e w1 ⟨rfl, hb⟩
  have HB1 : Hid (Below w.heap.size w w1) := hb
  have HS1 : Hid (Std w1) := HS.out.below hb
  clear hb
  go_wp2
  go_ret
  exact ⟨rfl, HB1.out⟩

set_option maxHeartbeats 1000000 in
theorem apart_long2 (p q : ByteArray) (w : World) (hS : Std w) (hp : p.size ≤ maxLen) (hq : q.size ≤ maxLen) (h1 : ¬ 300 < (p.size : Int)) (h2 : 300 < (q.size : Int)) :
    Calls Tryd.prog 3 #[.string p, .string q] w fun e w' => e = .returned (.bool true) ∧ Below w.heap.size w w' := by
  have HS : Hid (Std w) := hS
  have HP : Hid (p.size ≤ maxLen) := hp
  have HQ : Hid (q.size ≤ maxLen) := hq
  unfold maxLen at hp hq
  have _ := HP
  have _ := HQ
  clear hS
  go_enter Tryd.func3, Tryd.ntmps3
  go_wp2_with fail
  refine (awake_any _ HS.out).mono ?_
  rintro e w1 ⟨rfl, hb⟩
  have HB1 : Hid (Below w.heap.size w w1) := hb
  have HS1 : Hid (Std w1) := HS.out.below hb
  clear hb
  go_wp2
  go_ret
  exact ⟨rfl, HB1.out⟩

set_option maxHeartbeats 1000000 in
theorem apart_bad (p q : ByteArray) (w : World) (hS : Std w) (hp : p.size ≤ maxLen) (hq : q.size ≤ maxLen) (h1 : ¬ 300 < (p.size : Int)) (h2 : ¬ 300 < (q.size : Int)) (hg : Pl.goodB p.data.toList = false) :
    Calls Tryd.prog 3 #[.string p, .string q] w fun e w' => e = .returned (.bool true) ∧ Below w.heap.size w w' := by
  have HS : Hid (Std w) := hS
  have HP : Hid (p.size ≤ maxLen) := hp
  have HQ : Hid (q.size ≤ maxLen) := hq
  unfold maxLen at hp hq
  have _ := HP
  have _ := HQ
  clear hS
  have HG : Hid (Pl.goodB p.data.toList = false) := hg
  clear hg
  go_enter Tryd.func3, Tryd.ntmps3
  go_wp2_with fail
  refine (awake_any _ HS.out).mono ?_
  rintro e w1 ⟨rfl, hb⟩
  have HB1 : Hid (Below w.heap.size w w1) := hb
  have HS1 : Hid (Std w1) := HS.out.below hb
  clear hb
  go_wp2_with fail
  refine (good_any p _ HS1.out HP.out).mono ?_
  rintro e w2 ⟨rfl, hb⟩
  rw [HG.out]
  have HB2 : Hid (Below w.heap.size w w2) := HB1.out.trans (hb.mono HB1.out.size)
  have HS2 : Hid (Std w2) := HS1.out.below hb
  clear hb
  go_wp2
  go_ret
  exact ⟨rfl, HB2.out⟩

set_option maxHeartbeats 1000000 in
theorem apart_bad2 (p q : ByteArray) (w : World) (hS : Std w) (hp : p.size ≤ maxLen) (hq : q.size ≤ maxLen) (h1 : ¬ 300 < (p.size : Int)) (h2 : ¬ 300 < (q.size : Int)) (hg : Pl.goodB p.data.toList = true) (hg2 : Pl.goodB q.data.toList = false) :
    Calls Tryd.prog 3 #[.string p, .string q] w fun e w' => e = .returned (.bool true) ∧ Below w.heap.size w w' := by
  have HS : Hid (Std w) := hS
  have HP : Hid (p.size ≤ maxLen) := hp
  have HQ : Hid (q.size ≤ maxLen) := hq
  unfold maxLen at hp hq
  have _ := HP
  have _ := HQ
  clear hS
  have HG : Hid (Pl.goodB p.data.toList = true) := hg
  have HG2 : Hid (Pl.goodB q.data.toList = false) := hg2
  clear hg hg2
  go_enter Tryd.func3, Tryd.ntmps3
  go_wp2_with fail
  refine (awake_any _ HS.out).mono ?_
  rintro e w1 ⟨rfl, hb⟩
  have HB1 : Hid (Below w.heap.size w w1) := hb
  have HS1 : Hid (Std w1) := HS.out.below hb
  clear hb
  go_wp2_with fail
  refine (good_any p _ HS1.out HP.out).mono ?_
  rintro e w2 ⟨rfl, hb⟩
  rw [HG.out]
  have HB2 : Hid (Below w.heap.size w w2) := HB1.out.trans (hb.mono HB1.out.size)
  have HS2 : Hid (Std w2) := HS1.out.below hb
  clear hb
  go_wp2_with fail
  refine (good_any q _ HS2.out HQ.out).mono ?_
  rintro e w3 ⟨rfl, hb⟩
  rw [HG2.out]
  have HB3 : Hid (Below w.heap.size w w3) := HB2.out.trans (hb.mono HB2.out.size)
  have HS3 : Hid (Std w3) := HS2.out.below hb
  clear hb
  go_wp2
  go_ret
  exact ⟨rfl, HB3.out⟩

set_option maxHeartbeats 1000000 in
theorem apart_same (p q : ByteArray) (w : World) (hS : Std w) (hp : p.size ≤ maxLen) (hq : q.size ≤ maxLen) (h1 : ¬ 300 < (p.size : Int)) (h2 : ¬ 300 < (q.size : Int)) (hg : Pl.goodB p.data.toList = true) (hg2 : Pl.goodB q.data.toList = true) (ht : Pl.top p.data.toList = Pl.top q.data.toList) :
    Calls Tryd.prog 3 #[.string p, .string q] w fun e w' => e = .returned (.bool true) ∧ Below w.heap.size w w' := by
  have HS : Hid (Std w) := hS
  have HP : Hid (p.size ≤ maxLen) := hp
  have HQ : Hid (q.size ≤ maxLen) := hq
  unfold maxLen at hp hq
  have _ := HP
  have _ := HQ
  clear hS
  have HG : Hid (Pl.goodB p.data.toList = true) := hg
  have HG2 : Hid (Pl.goodB q.data.toList = true) := hg2
  have HT : Hid (Pl.top p.data.toList = Pl.top q.data.toList) := ht
  clear hg hg2 ht
  go_enter Tryd.func3, Tryd.ntmps3
  go_wp2_with fail
  refine (awake_any _ HS.out).mono ?_
  rintro e w1 ⟨rfl, hb⟩
  have HB1 : Hid (Below w.heap.size w w1) := hb
  have HS1 : Hid (Std w1) := HS.out.below hb
  clear hb
  go_wp2_with fail
  refine (good_any p _ HS1.out HP.out).mono ?_
  rintro e w2 ⟨rfl, hb⟩
  rw [HG.out]
  have HB2 : Hid (Below w.heap.size w w2) := HB1.out.trans (hb.mono HB1.out.size)
  have HS2 : Hid (Std w2) := HS1.out.below hb
  clear hb
  go_wp2_with fail
  refine (good_any q _ HS2.out HQ.out).mono ?_
  rintro e w3 ⟨rfl, hb⟩
  rw [HG2.out]
  have HB3 : Hid (Below w.heap.size w w3) := HB2.out.trans (hb.mono HB2.out.size)
  have HS3 : Hid (Std w3) := HS2.out.below hb
  clear hb
  go_wp2_with fail
  refine (top_any p _ HS3.out HG.out).mono ?_
  rintro e w4 ⟨x, rfl, hx, hb⟩
  have HX : Hid (x.data.toList = Pl.top p.data.toList) := hx
  clear hx
  have HB4 : Hid (Below w.heap.size w w4) := HB3.out.trans (hb.mono HB3.out.size)
  have HS4 : Hid (Std w4) := HS3.out.below hb
  clear hb
  go_wp2_with fail
  refine (top_any q _ HS4.out HG2.out).mono ?_
  rintro e w5 ⟨y, rfl, hy, hb⟩
  have HY : Hid (y.data.toList = Pl.top q.data.toList) := hy
  clear hy
  have HB5 : Hid (Below w.heap.size w w5) := HB4.out.trans (hb.mono HB4.out.size)
  have HS5 : Hid (Std w5) := HS4.out.below hb
  clear hb
  obtain rfl : x = y := ByteArray.ext (Array.toList_inj.1 (HX.out.trans (HT.out.trans HY.out.symm)))
  clear HX HY
  go_wp2
  go_ret
  exact ⟨rfl, HB5.out⟩

set_option maxHeartbeats 1000000 in
theorem apart_rest00 (p q : ByteArray) (w : World) (hS : Std w) (hp : p.size ≤ maxLen) (hq : q.size ≤ maxLen) (h1 : ¬ 300 < (p.size : Int)) (h2 : ¬ 300 < (q.size : Int)) (hg : Pl.goodB p.data.toList = true) (hg2 : Pl.goodB q.data.toList = true) (ht : Pl.top p.data.toList ≠ Pl.top q.data.toList) (hl : (Pl.parts p.data.toList).length < 2) (hm : (Pl.parts q.data.toList).length < 2) :
    Calls Tryd.prog 3 #[.string p, .string q] w fun e w' => e = .returned (.bool true) ∧ Below w.heap.size w w' := by
  have HS : Hid (Std w) := hS
  have HP : Hid (p.size ≤ maxLen) := hp
  have HQ : Hid (q.size ≤ maxLen) := hq
  unfold maxLen at hp hq
  have _ := HP
  have _ := HQ
  clear hS
  have HG : Hid (Pl.goodB p.data.toList = true) := hg
  have HG2 : Hid (Pl.goodB q.data.toList = true) := hg2
  have HT : Hid (Pl.top p.data.toList ≠ Pl.top q.data.toList) := ht
  have HW1 : Hid (Pl.withinB p.data.toList q.data.toList = false) := Pl.apart_within hg hg2 ht
  have HW2 : Hid (Pl.withinB q.data.toList p.data.toList = false) := Pl.apart_within hg2 hg (Ne.symm ht)
  have hpq : (p.toList == q.toList) = false := by
    rw [beq_eq_false_iff_ne, Lib.toList_data, Lib.toList_data]
    intro e; exact ht (by rw [e])
  have HPQ : Hid ((p.toList == q.toList) = false) := hpq
  clear hpq
  have H2 : Hid ((Pl.parts p.data.toList).length < 2) := hl
  have H3 : Hid ((Pl.parts q.data.toList).length < 2) := hm
  clear hg hg2 ht hl hm
  go_enter Tryd.func3, Tryd.ntmps3
  go_wp2_with fail
  refine (awake_any _ HS.out).mono ?_
  rintro e w1 ⟨rfl, hb⟩
  have HB1 : Hid (Below w.heap.size w w1) := hb
  have HS1 : Hid (Std w1) := HS.out.below hb
  clear hb
  go_wp2_with fail
  refine (good_any p _ HS1.out HP.out).mono ?_
  rintro e w2 ⟨rfl, hb⟩
  rw [HG.out]
  have HB2 : Hid (Below w.heap.size w w2) := HB1.out.trans (hb.mono HB1.out.size)
  have HS2 : Hid (Std w2) := HS1.out.below hb
  clear hb
  go_wp2_with fail
  refine (good_any q _ HS2.out HQ.out).mono ?_
  rintro e w3 ⟨rfl, hb⟩
  rw [HG2.out]
  have HB3 : Hid (Below w.heap.size w w3) := HB2.out.trans (hb.mono HB2.out.size)
  have HS3 : Hid (Std w3) := HS2.out.below hb
  clear hb
  go_wp2_with fail
  refine (top_any p _ HS3.out HG.out).mono ?_
  rintro e w4 ⟨x, rfl, hx, hb⟩
  have HX : Hid (x.data.toList = Pl.top p.data.toList) := hx
  clear hx
  have HB4 : Hid (Below w.heap.size w w4) := HB3.out.trans (hb.mono HB3.out.size)
  have HS4 : Hid (Std w4) := HS3.out.below hb
  clear hb
  go_wp2_with fail
  refine (top_any q _ HS4.out HG2.out).mono ?_
  rintro e w5 ⟨y, rfl, hy, hb⟩
  have HY : Hid (y.data.toList = Pl.top q.data.toList) := hy
  clear hy
  have HB5 : Hid (Below w.heap.size w w5) := HB4.out.trans (hb.mono HB4.out.size)
  have HS5 : Hid (Std w5) := HS4.out.below hb
  clear hb
  have hxy : (x.toList == y.toList) = false := by
    rw [beq_eq_false_iff_ne, Lib.toList_data, Lib.toList_data, HX.out, HY.out]; exact HT.out
  clear HX HY
  go_wp2_with fail
  refine (parent_no p _ HS5.out HP.out H2.out).mono ?_
  rintro e w6 ⟨rfl, hb⟩
  have HB6 : Hid (Below w.heap.size w w6) := HB5.out.trans (hb.mono HB5.out.size)
  have HS6 : Hid (Std w6) := HS5.out.below hb
  clear hb
  go_wp2_with fail
  refine (parent_no q _ HS6.out HQ.out H3.out).mono ?_
  rintro e w7 ⟨rfl, hb⟩
  have HB7 : Hid (Below w.heap.size w w7) := HB6.out.trans (hb.mono HB6.out.size)
  have HS7 : Hid (Std w7) := HS6.out.below hb
  clear hb
  go_wp2_with fail
  refine (within_any p q _ HS7.out HP.out HQ.out).mono ?_
  rintro e w8 ⟨rfl, hb⟩
  rw [HW1.out]
  have HB8 : Hid (Below w.heap.size w w8) := HB7.out.trans (hb.mono HB7.out.size)
  have HS8 : Hid (Std w8) := HS7.out.below hb
  clear hb
  go_wp2_with fail
  refine (within_any q p _ HS8.out HQ.out HP.out).mono ?_
  rintro e w9 ⟨rfl, hb⟩
  rw [HW2.out]
  have HB9 : Hid (Below w.heap.size w w9) := HB8.out.trans (hb.mono HB8.out.size)
  have HS9 : Hid (Std w9) := HS8.out.below hb
  clear hb
  have hpq := HPQ.out
  go_wp2
  go_ret
  exact ⟨rfl, HB9.out⟩

set_option maxHeartbeats 1000000 in
theorem apart_rest01 (p q : ByteArray) (w : World) (hS : Std w) (hp : p.size ≤ maxLen) (hq : q.size ≤ maxLen) (h1 : ¬ 300 < (p.size : Int)) (h2 : ¬ 300 < (q.size : Int)) (hg : Pl.goodB p.data.toList = true) (hg2 : Pl.goodB q.data.toList = true) (ht : Pl.top p.data.toList ≠ Pl.top q.data.toList) (hl : (Pl.parts p.data.toList).length < 2) (hm : 2 ≤ (Pl.parts q.data.toList).length) :
    Calls Tryd.prog 3 #[.string p, .string q] w fun e w' => e = .returned (.bool true) ∧ Below w.heap.size w w' := by
  have HS : Hid (Std w) := hS
  have HP : Hid (p.size ≤ maxLen) := hp
  have HQ : Hid (q.size ≤ maxLen) := hq
  unfold maxLen at hp hq
  have _ := HP
  have _ := HQ
  clear hS
  have HG : Hid (Pl.goodB p.data.toList = true) := hg
  have HG2 : Hid (Pl.goodB q.data.toList = true) := hg2
  have HT : Hid (Pl.top p.data.toList ≠ Pl.top q.data.toList) := ht
  have HW1 : Hid (Pl.withinB p.data.toList q.data.toList = false) := Pl.apart_within hg hg2 ht
  have HW2 : Hid (Pl.withinB q.data.toList p.data.toList = false) := Pl.apart_within hg2 hg (Ne.symm ht)
  have hpq : (p.toList == q.toList) = false := by
    rw [beq_eq_false_iff_ne, Lib.toList_data, Lib.toList_data]
    intro e; exact ht (by rw [e])
  have HPQ : Hid ((p.toList == q.toList) = false) := hpq
  clear hpq
  have H2 : Hid ((Pl.parts p.data.toList).length < 2) := hl
  have H3 : Hid (2 ≤ (Pl.parts q.data.toList).length) := hm
  clear hg hg2 ht hl hm
  go_enter Tryd.func3, Tryd.ntmps3
  go_wp2_with fail
  refine (awake_any _ HS.out).mono ?_
  rintro e w1 ⟨rfl, hb⟩
  have HB1 : Hid (Below w.heap.size w w1) := hb
  have HS1 : Hid (Std w1) := HS.out.below hb
  clear hb
  go_wp2_with fail
  refine (good_any p _ HS1.out HP.out).mono ?_
  rintro e w2 ⟨rfl, hb⟩
  rw [HG.out]
  have HB2 : Hid (Below w.heap.size w w2) := HB1.out.trans (hb.mono HB1.out.size)
  have HS2 : Hid (Std w2) := HS1.out.below hb
  clear hb
  go_wp2_with fail
  refine (good_any q _ HS2.out HQ.out).mono ?_
  rintro e w3 ⟨rfl, hb⟩
  rw [HG2.out]
  have HB3 : Hid (Below w.heap.size w w3) := HB2.out.trans (hb.mono HB2.out.size)
  have HS3 : Hid (Std w3) := HS2.out.below hb
  clear hb
  go_wp2_with fail
  refine (top_any p _ HS3.out HG.out).mono ?_
  rintro e w4 ⟨x, rfl, hx, hb⟩
  have HX : Hid (x.data.toList = Pl.top p.data.toList) := hx
  clear hx
  have HB4 : Hid (Below w.heap.size w w4) := HB3.out.trans (hb.mono HB3.out.size)
  have HS4 : Hid (Std w4) := HS3.out.below hb
  clear hb
  go_wp2_with fail
  refine (top_any q _ HS4.out HG2.out).mono ?_
  rintro e w5 ⟨y, rfl, hy, hb⟩
  have HY : Hid (y.data.toList = Pl.top q.data.toList) := hy
  clear hy
  have HB5 : Hid (Below w.heap.size w w5) := HB4.out.trans (hb.mono HB4.out.size)
  have HS5 : Hid (Std w5) := HS4.out.below hb
  clear hb
  have hxy : (x.toList == y.toList) = false := by
    rw [beq_eq_false_iff_ne, Lib.toList_data, Lib.toList_data, HX.out, HY.out]; exact HT.out
  clear HX HY
  go_wp2_with fail
  refine (parent_no p _ HS5.out HP.out H2.out).mono ?_
  rintro e w6 ⟨rfl, hb⟩
  have HB6 : Hid (Below w.heap.size w w6) := HB5.out.trans (hb.mono HB5.out.size)
  have HS6 : Hid (Std w6) := HS5.out.below hb
  clear hb
  go_wp2_with fail
  refine (parent_yes q _ HS6.out HG2.out H3.out).mono ?_
  rintro e w7 ⟨v, rfl, hv, hb⟩
  have hvp : (v.toList == p.toList) = false := by
    rw [beq_eq_false_iff_ne, Lib.toList_data, Lib.toList_data, hv]; exact Pl.apart_parent HG2.out H3.out (Ne.symm HT.out)
  have HVP : Hid ((v.toList == p.toList) = false) := hvp
  clear hv hvp
  have HB7 : Hid (Below w.heap.size w w7) := HB6.out.trans (hb.mono HB6.out.size)
  have HS7 : Hid (Std w7) := HS6.out.below hb
  clear hb
  go_wp2_with fail
  refine (within_any p q _ HS7.out HP.out HQ.out).mono ?_
  rintro e w8 ⟨rfl, hb⟩
  rw [HW1.out]
  have HB8 : Hid (Below w.heap.size w w8) := HB7.out.trans (hb.mono HB7.out.size)
  have HS8 : Hid (Std w8) := HS7.out.below hb
  clear hb
  go_wp2_with fail
  refine (within_any q p _ HS8.out HQ.out HP.out).mono ?_
  rintro e w9 ⟨rfl, hb⟩
  rw [HW2.out]
  have HB9 : Hid (Below w.heap.size w w9) := HB8.out.trans (hb.mono HB8.out.size)
  have HS9 : Hid (Std w9) := HS8.out.below hb
  clear hb
  have hvp := HVP.out
  have hpq := HPQ.out
  go_wp2
  go_ret
  exact ⟨rfl, HB9.out⟩

set_option maxHeartbeats 1000000 in
theorem apart_rest10 (p q : ByteArray) (w : World) (hS : Std w) (hp : p.size ≤ maxLen) (hq : q.size ≤ maxLen) (h1 : ¬ 300 < (p.size : Int)) (h2 : ¬ 300 < (q.size : Int)) (hg : Pl.goodB p.data.toList = true) (hg2 : Pl.goodB q.data.toList = true) (ht : Pl.top p.data.toList ≠ Pl.top q.data.toList) (hl : 2 ≤ (Pl.parts p.data.toList).length) (hm : (Pl.parts q.data.toList).length < 2) :
    Calls Tryd.prog 3 #[.string p, .string q] w fun e w' => e = .returned (.bool true) ∧ Below w.heap.size w w' := by
  have HS : Hid (Std w) := hS
  have HP : Hid (p.size ≤ maxLen) := hp
  have HQ : Hid (q.size ≤ maxLen) := hq
  unfold maxLen at hp hq
  have _ := HP
  have _ := HQ
  clear hS
  have HG : Hid (Pl.goodB p.data.toList = true) := hg
  have HG2 : Hid (Pl.goodB q.data.toList = true) := hg2
  have HT : Hid (Pl.top p.data.toList ≠ Pl.top q.data.toList) := ht
  have HW1 : Hid (Pl.withinB p.data.toList q.data.toList = false) := Pl.apart_within hg hg2 ht
  have HW2 : Hid (Pl.withinB q.data.toList p.data.toList = false) := Pl.apart_within hg2 hg (Ne.symm ht)
  have hpq : (p.toList == q.toList) = false := by
    rw [beq_eq_false_iff_ne, Lib.toList_data, Lib.toList_data]
    intro e; exact ht (by rw [e])
  have HPQ : Hid ((p.toList == q.toList) = false) := hpq
  clear hpq
  have H2 : Hid (2 ≤ (Pl.parts p.data.toList).length) := hl
  have H3 : Hid ((Pl.parts q.data.toList).length < 2) := hm
  clear hg hg2 ht hl hm
  go_enter Tryd.func3, Tryd.ntmps3
  go_wp2_with fail
  refine (awake_any _ HS.out).mono ?_
  rintro e w1 ⟨rfl, hb⟩
  have HB1 : Hid (Below w.heap.size w w1) := hb
  have HS1 : Hid (Std w1) := HS.out.below hb
  clear hb
  go_wp2_with fail
  refine (good_any p _ HS1.out HP.out).mono ?_
  rintro e w2 ⟨rfl, hb⟩
  rw [HG.out]
  have HB2 : Hid (Below w.heap.size w w2) := HB1.out.trans (hb.mono HB1.out.size)
  have HS2 : Hid (Std w2) := HS1.out.below hb
  clear hb
  go_wp2_with fail
  refine (good_any q _ HS2.out HQ.out).mono ?_
  rintro e w3 ⟨rfl, hb⟩
  rw [HG2.out]
  have HB3 : Hid (Below w.heap.size w w3) := HB2.out.trans (hb.mono HB2.out.size)
  have HS3 : Hid (Std w3) := HS2.out.below hb
  clear hb
  go_wp2_with fail
  refine (top_any p _ HS3.out HG.out).mono ?_
  rintro e w4 ⟨x, rfl, hx, hb⟩
  have HX : Hid (x.data.toList = Pl.top p.data.toList) := hx
  clear hx
  have HB4 : Hid (Below w.heap.size w w4) := HB3.out.trans (hb.mono HB3.out.size)
  have HS4 : Hid (Std w4) := HS3.out.below hb
  clear hb
  go_wp2_with fail
  refine (top_any q _ HS4.out HG2.out).mono ?_
  rintro e w5 ⟨y, rfl, hy, hb⟩
  have HY : Hid (y.data.toList = Pl.top q.data.toList) := hy
  clear hy
  have HB5 : Hid (Below w.heap.size w w5) := HB4.out.trans (hb.mono HB4.out.size)
  have HS5 : Hid (Std w5) := HS4.out.below hb
  clear hb
  have hxy : (x.toList == y.toList) = false := by
    rw [beq_eq_false_iff_ne, Lib.toList_data, Lib.toList_data, HX.out, HY.out]; exact HT.out
  clear HX HY
  go_wp2_with fail
  refine (parent_yes p _ HS5.out HG.out H2.out).mono ?_
  rintro e w6 ⟨u, rfl, hu, hb⟩
  have huq : (u.toList == q.toList) = false := by
    rw [beq_eq_false_iff_ne, Lib.toList_data, Lib.toList_data, hu]; exact Pl.apart_parent HG.out H2.out HT.out
  have HUQ : Hid ((u.toList == q.toList) = false) := huq
  clear hu huq
  have HB6 : Hid (Below w.heap.size w w6) := HB5.out.trans (hb.mono HB5.out.size)
  have HS6 : Hid (Std w6) := HS5.out.below hb
  clear hb
  go_wp2_with fail
  refine (parent_no q _ HS6.out HQ.out H3.out).mono ?_
  rintro e w7 ⟨rfl, hb⟩
  have HB7 : Hid (Below w.heap.size w w7) := HB6.out.trans (hb.mono HB6.out.size)
  have HS7 : Hid (Std w7) := HS6.out.below hb
  clear hb
  go_wp2_with fail
  refine (within_any p q _ HS7.out HP.out HQ.out).mono ?_
  rintro e w8 ⟨rfl, hb⟩
  rw [HW1.out]
  have HB8 : Hid (Below w.heap.size w w8) := HB7.out.trans (hb.mono HB7.out.size)
  have HS8 : Hid (Std w8) := HS7.out.below hb
  clear hb
  go_wp2_with fail
  refine (within_any q p _ HS8.out HQ.out HP.out).mono ?_
  rintro e w9 ⟨rfl, hb⟩
  rw [HW2.out]
  have HB9 : Hid (Below w.heap.size w w9) := HB8.out.trans (hb.mono HB8.out.size)
  have HS9 : Hid (Std w9) := HS8.out.below hb
  clear hb
  have huq := HUQ.out
  have hpq := HPQ.out
  go_wp2
  go_ret
  exact ⟨rfl, HB9.out⟩

set_option maxHeartbeats 1000000 in
theorem apart_rest11 (p q : ByteArray) (w : World) (hS : Std w) (hp : p.size ≤ maxLen) (hq : q.size ≤ maxLen) (h1 : ¬ 300 < (p.size : Int)) (h2 : ¬ 300 < (q.size : Int)) (hg : Pl.goodB p.data.toList = true) (hg2 : Pl.goodB q.data.toList = true) (ht : Pl.top p.data.toList ≠ Pl.top q.data.toList) (hl : 2 ≤ (Pl.parts p.data.toList).length) (hm : 2 ≤ (Pl.parts q.data.toList).length) :
    Calls Tryd.prog 3 #[.string p, .string q] w fun e w' => e = .returned (.bool true) ∧ Below w.heap.size w w' := by
  have HS : Hid (Std w) := hS
  have HP : Hid (p.size ≤ maxLen) := hp
  have HQ : Hid (q.size ≤ maxLen) := hq
  unfold maxLen at hp hq
  have _ := HP
  have _ := HQ
  clear hS
  have HG : Hid (Pl.goodB p.data.toList = true) := hg
  have HG2 : Hid (Pl.goodB q.data.toList = true) := hg2
  have HT : Hid (Pl.top p.data.toList ≠ Pl.top q.data.toList) := ht
  have HW1 : Hid (Pl.withinB p.data.toList q.data.toList = false) := Pl.apart_within hg hg2 ht
  have HW2 : Hid (Pl.withinB q.data.toList p.data.toList = false) := Pl.apart_within hg2 hg (Ne.symm ht)
  have hpq : (p.toList == q.toList) = false := by
    rw [beq_eq_false_iff_ne, Lib.toList_data, Lib.toList_data]
    intro e; exact ht (by rw [e])
  have HPQ : Hid ((p.toList == q.toList) = false) := hpq
  clear hpq
  have H2 : Hid (2 ≤ (Pl.parts p.data.toList).length) := hl
  have H3 : Hid (2 ≤ (Pl.parts q.data.toList).length) := hm
  clear hg hg2 ht hl hm
  go_enter Tryd.func3, Tryd.ntmps3
  go_wp2_with fail
  refine (awake_any _ HS.out).mono ?_
  rintro e w1 ⟨rfl, hb⟩
  have HB1 : Hid (Below w.heap.size w w1) := hb
  have HS1 : Hid (Std w1) := HS.out.below hb
  clear hb
  go_wp2_with fail
  refine (good_any p _ HS1.out HP.out).mono ?_
  rintro e w2 ⟨rfl, hb⟩
  rw [HG.out]
  have HB2 : Hid (Below w.heap.size w w2) := HB1.out.trans (hb.mono HB1.out.size)
  have HS2 : Hid (Std w2) := HS1.out.below hb
  clear hb
  go_wp2_with fail
  refine (good_any q _ HS2.out HQ.out).mono ?_
  rintro e w3 ⟨rfl, hb⟩
  rw [HG2.out]
  have HB3 : Hid (Below w.heap.size w w3) := HB2.out.trans (hb.mono HB2.out.size)
  have HS3 : Hid (Std w3) := HS2.out.below hb
  clear hb
  go_wp2_with fail
  refine (top_any p _ HS3.out HG.out).mono ?_
  rintro e w4 ⟨x, rfl, hx, hb⟩
  have HX : Hid (x.data.toList = Pl.top p.data.toList) := hx
  clear hx
  have HB4 : Hid (Below w.heap.size w w4) := HB3.out.trans (hb.mono HB3.out.size)
  have HS4 : Hid (Std w4) := HS3.out.below hb
  clear hb
  go_wp2_with fail
  refine (top_any q _ HS4.out HG2.out).mono ?_
  rintro e w5 ⟨y, rfl, hy, hb⟩
  have HY : Hid (y.data.toList = Pl.top q.data.toList) := hy
  clear hy
  have HB5 : Hid (Below w.heap.size w w5) := HB4.out.trans (hb.mono HB4.out.size)
  have HS5 : Hid (Std w5) := HS4.out.below hb
  clear hb
  have hxy : (x.toList == y.toList) = false := by
    rw [beq_eq_false_iff_ne, Lib.toList_data, Lib.toList_data, HX.out, HY.out]; exact HT.out
  clear HX HY
  go_wp2_with fail
  refine (parent_yes p _ HS5.out HG.out H2.out).mono ?_
  rintro e w6 ⟨u, rfl, hu, hb⟩
  have huq : (u.toList == q.toList) = false := by
    rw [beq_eq_false_iff_ne, Lib.toList_data, Lib.toList_data, hu]; exact Pl.apart_parent HG.out H2.out HT.out
  have HUQ : Hid ((u.toList == q.toList) = false) := huq
  clear hu huq
  have HB6 : Hid (Below w.heap.size w w6) := HB5.out.trans (hb.mono HB5.out.size)
  have HS6 : Hid (Std w6) := HS5.out.below hb
  clear hb
  go_wp2_with fail
  refine (parent_yes q _ HS6.out HG2.out H3.out).mono ?_
  rintro e w7 ⟨v, rfl, hv, hb⟩
  have hvp : (v.toList == p.toList) = false := by
    rw [beq_eq_false_iff_ne, Lib.toList_data, Lib.toList_data, hv]; exact Pl.apart_parent HG2.out H3.out (Ne.symm HT.out)
  have HVP : Hid ((v.toList == p.toList) = false) := hvp
  clear hv hvp
  have HB7 : Hid (Below w.heap.size w w7) := HB6.out.trans (hb.mono HB6.out.size)
  have HS7 : Hid (Std w7) := HS6.out.below hb
  clear hb
  go_wp2_with fail
  refine (within_any p q _ HS7.out HP.out HQ.out).mono ?_
  rintro e w8 ⟨rfl, hb⟩
  rw [HW1.out]
  have HB8 : Hid (Below w.heap.size w w8) := HB7.out.trans (hb.mono HB7.out.size)
  have HS8 : Hid (Std w8) := HS7.out.below hb
  clear hb
  go_wp2_with fail
  refine (within_any q p _ HS8.out HQ.out HP.out).mono ?_
  rintro e w9 ⟨rfl, hb⟩
  rw [HW2.out]
  have HB9 : Hid (Below w.heap.size w w9) := HB8.out.trans (hb.mono HB8.out.size)
  have HS9 : Hid (Std w9) := HS8.out.below hb
  clear hb
  have huq := HUQ.out
  have hvp := HVP.out
  have hpq := HPQ.out
  go_wp2
  go_ret
  exact ⟨rfl, HB9.out⟩

theorem apart_any (p q : ByteArray) (w : World) (hS : Std w) (hp : p.size ≤ maxLen) (hq : q.size ≤ maxLen) :
    Calls Tryd.prog 3 #[.string p, .string q] w fun e w' => e = .returned (.bool true) ∧ Below w.heap.size w w' := by
  by_cases h1 : 300 < (p.size : Int)
  · exact apart_long p q w hS hp hq h1
  by_cases h2 : 300 < (q.size : Int)
  · exact apart_long2 p q w hS hp hq h1 h2
  cases hg : Pl.goodB p.data.toList with
  | false => exact apart_bad p q w hS hp hq h1 h2 hg
  | true =>
  cases hg2 : Pl.goodB q.data.toList with
  | false => exact apart_bad2 p q w hS hp hq h1 h2 hg hg2
  | true =>
  by_cases ht : Pl.top p.data.toList = Pl.top q.data.toList
  · exact apart_same p q w hS hp hq h1 h2 hg hg2 ht
  by_cases hl : 2 ≤ (Pl.parts p.data.toList).length
  · by_cases hm : 2 ≤ (Pl.parts q.data.toList).length
    · exact apart_rest11 p q w hS hp hq h1 h2 hg hg2 ht hl hm
    · exact apart_rest10 p q w hS hp hq h1 h2 hg hg2 ht hl (by omega)
  · by_cases hm : 2 ≤ (Pl.parts q.data.toList).length
    · exact apart_rest01 p q w hS hp hq h1 h2 hg hg2 ht (by omega) hm
    · exact apart_rest00 p q w hS hp hq h1 h2 hg hg2 ht (by omega) (by omega)
end Go.Proofs.YtmmbomlpkjgclabDoor
