/- The walk of the statement PathDeeper: it answers true. -/
import Derived.Test.YtmmbomlpkjgclaaDoorWAwake
import Derived.Test.YtmmbomlpkjgclaaDoorPlain2
namespace Go.Proofs.YtmmbomlpkjgclaaDoor
open Go.RowKit

set_option maxHeartbeats 1000000 in
theorem deeper_long (p s : ByteArray) (w : World) (hS : Std w) (hp : p.size ≤ maxLen) (hs : s.size ≤ maxLen) (h1 : 300 < (p.size : Int)) :
    Calls Tryd.prog 8 #[.string p, .string s] w fun e w' => e = .returned (.bool true) ∧ Below w.heap.size w w' := by
  have HS : Hid (Std w) := hS
  have HP : Hid (p.size ≤ maxLen) := hp
  unfold maxLen at hp hs
  have _ := hs
  clear hS
  clear HP
  go_enter Tryd.func8, Tryd.ntmps8
  go_wp2_with fail
  refine (awake_any _ HS.out).mono ?_
  rintro e w1 ⟨rfl, hb⟩
  have HB1 : Hid (Below w.heap.size w w1) := hb
  have HS1 : Hid (Std w1) := HS.out.below hb
  clear hb
  go_wp2
  go_ret
  exact ⟨rfl, HB1.out⟩

set_option maxHeartbeats 1000000 in
theorem deeper_long2 (p s : ByteArray) (w : World) (hS : Std w) (hp : p.size ≤ maxLen) (hs : s.size ≤ maxLen) (h1 : ¬ 300 < (p.size : Int)) (h2 : 100 < (s.size : Int)) :
    Calls Tryd.prog 8 #[.string p, .string s] w fun e w' => e = .returned (.bool true) ∧ Below w.heap.size w w' := by
  have HS : Hid (Std w) := hS
  have HP : Hid (p.size ≤ maxLen) := hp
  unfold maxLen at hp hs
  have _ := hs
  clear hS
  clear HP
  go_enter Tryd.func8, Tryd.ntmps8
  go_wp2_with fail
  refine (awake_any _ HS.out).mono ?_
  rintro e w1 ⟨rfl, hb⟩
  have HB1 : Hid (Below w.heap.size w w1) := hb
  have HS1 : Hid (Std w1) := HS.out.below hb
  clear hb
  go_wp2
  go_ret
  exact ⟨rfl, HB1.out⟩

set_option maxHeartbeats 1000000 in
theorem deeper_bad (p s : ByteArray) (w : World) (hS : Std w) (hp : p.size ≤ maxLen) (hs : s.size ≤ maxLen) (h1 : ¬ 300 < (p.size : Int)) (h2 : ¬ 100 < (s.size : Int)) (hg : Pl.goodB p.data.toList = false) :
    Calls Tryd.prog 8 #[.string p, .string s] w fun e w' => e = .returned (.bool true) ∧ Below w.heap.size w w' := by
  have HS : Hid (Std w) := hS
  have HP : Hid (p.size ≤ maxLen) := hp
  unfold maxLen at hp hs
  have _ := hs
  clear hS
  have HG : Hid (Pl.goodB p.data.toList = false) := hg
  clear hg
  go_enter Tryd.func8, Tryd.ntmps8
  go_wp2_with fail
  refine (awake_any _ HS.out).mono ?_
  rintro e w1 ⟨rfl, hb⟩
  have HB1 : Hid (Below w.heap.size w w1) := hb
  have HS1 : Hid (Std w1) := HS.out.below hb
  clear hb
  go_wp2_with fail
  refine (good_any p _ HS1.out HP.out).mono ?_
  rintro e w2 ⟨rfl, hb⟩
  rw [HG.out]
  have HB2 : Hid (Below w.heap.size w w2) := HB1.out.trans (hb.mono HB1.out.size)
  have HS2 : Hid (Std w2) := HS1.out.below hb
  clear hb
  go_wp2
  go_ret
  exact ⟨rfl, HB2.out⟩

set_option maxHeartbeats 1000000 in
theorem deeper_bad2 (p s : ByteArray) (w : World) (hS : Std w) (hp : p.size ≤ maxLen) (hs : s.size ≤ maxLen) (h1 : ¬ 300 < (p.size : Int)) (h2 : ¬ 100 < (s.size : Int)) (hg : Pl.goodB p.data.toList = true) (hg2 : Pl.goodB (p.data.toList ++ 47 :: s.data.toList) = false) :
    Calls Tryd.prog 8 #[.string p, .string s] w fun e w' => e = .returned (.bool true) ∧ Below w.heap.size w w' := by
  have HS : Hid (Std w) := hS
  have HP : Hid (p.size ≤ maxLen) := hp
  unfold maxLen at hp hs
  have _ := hs
  clear hS
  have HG : Hid (Pl.goodB p.data.toList = true) := hg
  have hdata : (p ++ ⟨#[47]⟩ ++ s).data.toList = p.data.toList ++ 47 :: s.data.toList := by
    rw [data_append, data_append, List.append_assoc]; rfl
  have HD : Hid ((p ++ ⟨#[47]⟩ ++ s).data.toList = p.data.toList ++ 47 :: s.data.toList) := hdata
  have HQ : Hid ((p ++ ⟨#[47]⟩ ++ s).size ≤ maxLen) := by
    show (p ++ ⟨#[47]⟩ ++ s).size ≤ 2 ^ 63 - 1
    rw [ByteArray.size_append, ByteArray.size_append]; show p.size + 1 + s.size ≤ _; omega
  have HG2 : Hid (Pl.goodB (p.data.toList ++ 47 :: s.data.toList) = false) := hg2
  clear hg hg2 hdata
  go_enter Tryd.func8, Tryd.ntmps8
  go_wp2_with fail
  refine (awake_any _ HS.out).mono ?_
  rintro e w1 ⟨rfl, hb⟩
  have HB1 : Hid (Below w.heap.size w w1) := hb
  have HS1 : Hid (Std w1) := HS.out.below hb
  clear hb
  go_wp2_with fail
  refine (good_any p _ HS1.out HP.out).mono ?_
  rintro e w2 ⟨rfl, hb⟩
  rw [HG.out]
  have HB2 : Hid (Below w.heap.size w w2) := HB1.out.trans (hb.mono HB1.out.size)
  have HS2 : Hid (Std w2) := HS1.out.below hb
  clear hb
  go_wp2_with fail
  refine (good_any _ _ HS2.out (by exact HQ.out)).mono ?_
  rintro e w3 ⟨rfl, hb⟩
  rw [HD.out, HG2.out]
  have HB3 : Hid (Below w.heap.size w w3) := HB2.out.trans (hb.mono HB2.out.size)
  have HS3 : Hid (Std w3) := HS2.out.below hb
  clear hb
  go_wp2
  go_ret
  exact ⟨rfl, HB3.out⟩

set_option maxHeartbeats 1000000 in
theorem deeper_more (p s : ByteArray) (w : World) (hS : Std w) (hp : p.size ≤ maxLen) (hs : s.size ≤ maxLen) (h1 : ¬ 300 < (p.size : Int)) (h2 : ¬ 100 < (s.size : Int)) (hg : Pl.goodB p.data.toList = true) (hg2 : Pl.goodB (p.data.toList ++ 47 :: s.data.toList) = true) (he : ¬ (Pl.parts (p.data.toList ++ 47 :: s.data.toList)).length = (Pl.parts p.data.toList).length + 1) :
    Calls Tryd.prog 8 #[.string p, .string s] w fun e w' => e = .returned (.bool true) ∧ Below w.heap.size w w' := by
  have HS : Hid (Std w) := hS
  have HP : Hid (p.size ≤ maxLen) := hp
  unfold maxLen at hp hs
  have _ := hs
  clear hS
  have HG : Hid (Pl.goodB p.data.toList = true) := hg
  have hdata : (p ++ ⟨#[47]⟩ ++ s).data.toList = p.data.toList ++ 47 :: s.data.toList := by
    rw [data_append, data_append, List.append_assoc]; rfl
  have HD : Hid ((p ++ ⟨#[47]⟩ ++ s).data.toList = p.data.toList ++ 47 :: s.data.toList) := hdata
  have HQ : Hid ((p ++ ⟨#[47]⟩ ++ s).size ≤ maxLen) := by
    show (p ++ ⟨#[47]⟩ ++ s).size ≤ 2 ^ 63 - 1
    rw [ByteArray.size_append, ByteArray.size_append]; show p.size + 1 + s.size ≤ _; omega
  have HG2 : Hid (Pl.goodB (p.data.toList ++ 47 :: s.data.toList) = true) := hg2
  have HL : Hid ((Pl.parts p.data.toList).length + 1 ≤ (Pl.parts (p.data.toList ++ 47 :: s.data.toList)).length) := Pl.deeper_len hg hg2
  have H2 : Hid (2 ≤ (Pl.parts (p.data.toList ++ 47 :: s.data.toList)).length) := Nat.le_trans (Nat.succ_le_succ (parts_len hg).1) HL.out
  have HI : Hid (Pl.withinB (p.data.toList ++ 47 :: s.data.toList) p.data.toList = true) := Pl.deeper_in hg hg2
  have HO : Hid (Pl.withinB p.data.toList (p.data.toList ++ 47 :: s.data.toList) = false) := Pl.deeper_out hg hg2
  have HE : Hid (¬ (Pl.parts (p.data.toList ++ 47 :: s.data.toList)).length = (Pl.parts p.data.toList).length + 1) := he
  clear hg hg2 hdata he
  go_enter Tryd.func8, Tryd.ntmps8
  go_wp2_with fail
  refine (awake_any _ HS.out).mono ?_
  rintro e w1 ⟨rfl, hb⟩
  have HB1 : Hid (Below w.heap.size w w1) := hb
  have HS1 : Hid (Std w1) := HS.out.below hb
  clear hb
  go_wp2_with fail
  refine (good_any p _ HS1.out HP.out).mono ?_
  rintro e w2 ⟨rfl, hb⟩
  rw [HG.out]
  have HB2 : Hid (Below w.heap.size w w2) := HB1.out.trans (hb.mono HB1.out.size)
  have HS2 : Hid (Std w2) := HS1.out.below hb
  clear hb
  go_wp2_with fail
  refine (good_any _ _ HS2.out (by exact HQ.out)).mono ?_
  rintro e w3 ⟨rfl, hb⟩
  rw [HD.out, HG2.out]
  have HB3 : Hid (Below w.heap.size w w3) := HB2.out.trans (hb.mono HB2.out.size)
  have HS3 : Hid (Std w3) := HS2.out.below hb
  clear hb
  go_wp2_with fail
  refine (parent_yes _ _ HS3.out (by rw [HD.out]; exact HG2.out) (by rw [HD.out]; exact H2.out)).mono ?_
  rintro e w4 ⟨u, rfl, hu, hb⟩
  rw [HD.out] at hu
  have HU : Hid (u.data.toList = Pl.parent (p.data.toList ++ 47 :: s.data.toList)) := hu
  clear hu
  have HB4 : Hid (Below w.heap.size w w4) := HB3.out.trans (hb.mono HB3.out.size)
  have HS4 : Hid (Std w4) := HS3.out.below hb
  clear hb
  go_wp2_with fail
  refine (parts_good p _ HS4.out HG.out).mono ?_
  rintro e w5 ⟨xs, rfl, hxs, hrow⟩
  have hb := hrow.below
  have hn := congrArg List.length hxs
  rw [List.length_map] at hn
  obtain ⟨n, en⟩ : ∃ n, n = xs.length := ⟨_, rfl⟩
  rw [← en] at hn ⊢
  have HN : Hid (n = (Pl.parts p.data.toList).length) := hn
  clear hxs hrow hn en
  have HB5 : Hid (Below w.heap.size w w5) := HB4.out.trans (hb.mono HB4.out.size)
  have HS5 : Hid (Std w5) := HS4.out.below hb
  clear hb
  go_wp2_with fail
  refine (parts_good _ _ HS5.out (by rw [HD.out]; exact HG2.out)).mono ?_
  rintro e w6 ⟨ys, rfl, hys, hrow⟩
  have hb := hrow.below
  have hm := congrArg List.length hys
  rw [List.length_map, HD.out] at hm
  obtain ⟨m, em⟩ : ∃ m, m = ys.length := ⟨_, rfl⟩
  rw [← em] at hm ⊢
  have HM : Hid (m = (Pl.parts (p.data.toList ++ 47 :: s.data.toList)).length) := hm
  clear hys hrow hm em
  have HB6 : Hid (Below w.heap.size w w6) := HB5.out.trans (hb.mono HB5.out.size)
  have HS6 : Hid (Std w6) := HS5.out.below hb
  clear hb
  have hn := HN.out
  have hm := HM.out
  have hL := HL.out
  have h8 := (parts_len HG.out).2
  have h8m := (parts_len HG2.out).2
  rw [← hn] at h8 hL
  rw [← hm] at h8m hL
  have hE := HE.out
  rw [← hn, ← hm] at hE
  clear hn hm
  have hge : (n : Int) + 1 ≤ (m : Int) := by omega
  have hne : ((m : Int) != (n : Int) + 1) = true := by rw [bne_iff_ne]; omega
  clear HU
  go_wp2_with fail
  refine (within_any _ _ _ HS6.out (by exact HQ.out) HP.out).mono ?_
  rintro e w7 ⟨rfl, hb⟩
  rw [HD.out, HI.out]
  have HB7 : Hid (Below w.heap.size w w7) := HB6.out.trans (hb.mono HB6.out.size)
  have HS7 : Hid (Std w7) := HS6.out.below hb
  clear hb
  go_wp2_with fail
  refine (within_any _ _ _ HS7.out HP.out (by exact HQ.out)).mono ?_
  rintro e w8 ⟨rfl, hb⟩
  rw [HD.out, HO.out]
  have HB8 : Hid (Below w.heap.size w w8) := HB7.out.trans (hb.mono HB7.out.size)
  have HS8 : Hid (Std w8) := HS7.out.below hb
  clear hb
  go_wp2
  go_ret
  exact ⟨rfl, HB8.out⟩

set_option maxHeartbeats 1000000 in
theorem deeper_step (p s : ByteArray) (w : World) (hS : Std w) (hp : p.size ≤ maxLen) (hs : s.size ≤ maxLen) (h1 : ¬ 300 < (p.size : Int)) (h2 : ¬ 100 < (s.size : Int)) (hg : Pl.goodB p.data.toList = true) (hg2 : Pl.goodB (p.data.toList ++ 47 :: s.data.toList) = true) (he : (Pl.parts (p.data.toList ++ 47 :: s.data.toList)).length = (Pl.parts p.data.toList).length + 1) :
    Calls Tryd.prog 8 #[.string p, .string s] w fun e w' => e = .returned (.bool true) ∧ Below w.heap.size w w' := by
  have HS : Hid (Std w) := hS
  have HP : Hid (p.size ≤ maxLen) := hp
  unfold maxLen at hp hs
  have _ := hs
  clear hS
  have HG : Hid (Pl.goodB p.data.toList = true) := hg
  have hdata : (p ++ ⟨#[47]⟩ ++ s).data.toList = p.data.toList ++ 47 :: s.data.toList := by
    rw [data_append, data_append, List.append_assoc]; rfl
  have HD : Hid ((p ++ ⟨#[47]⟩ ++ s).data.toList = p.data.toList ++ 47 :: s.data.toList) := hdata
  have HQ : Hid ((p ++ ⟨#[47]⟩ ++ s).size ≤ maxLen) := by
    show (p ++ ⟨#[47]⟩ ++ s).size ≤ 2 ^ 63 - 1
    rw [ByteArray.size_append, ByteArray.size_append]; show p.size + 1 + s.size ≤ _; omega
  have HG2 : Hid (Pl.goodB (p.data.toList ++ 47 :: s.data.toList) = true) := hg2
  have HL : Hid ((Pl.parts p.data.toList).length + 1 ≤ (Pl.parts (p.data.toList ++ 47 :: s.data.toList)).length) := Pl.deeper_len hg hg2
  have H2 : Hid (2 ≤ (Pl.parts (p.data.toList ++ 47 :: s.data.toList)).length) := Nat.le_trans (Nat.succ_le_succ (parts_len hg).1) HL.out
  have HI : Hid (Pl.withinB (p.data.toList ++ 47 :: s.data.toList) p.data.toList = true) := Pl.deeper_in hg hg2
  have HO : Hid (Pl.withinB p.data.toList (p.data.toList ++ 47 :: s.data.toList) = false) := Pl.deeper_out hg hg2
  have HE : Hid ((Pl.parts (p.data.toList ++ 47 :: s.data.toList)).length = (Pl.parts p.data.toList).length + 1) := he
  have HPA : Hid (Pl.parent (p.data.toList ++ 47 :: s.data.toList) = p.data.toList) := (Pl.deeper_one hg hg2 he).1
  have HNM : Hid (Pl.name (p.data.toList ++ 47 :: s.data.toList) = s.data.toList) := (Pl.deeper_one hg hg2 he).2
  clear hg hg2 hdata he
  go_enter Tryd.func8, Tryd.ntmps8
  go_wp2_with fail
  refine (awake_any _ HS.out).mono ?_
  rintro e w1 ⟨rfl, hb⟩
  have HB1 : Hid (Below w.heap.size w w1) := hb
  have HS1 : Hid (Std w1) := HS.out.below hb
  clear hb
  go_wp2_with fail
  refine (good_any p _ HS1.out HP.out).mono ?_
  rintro e w2 ⟨rfl, hb⟩
  rw [HG.out]
  have HB2 : Hid (Below w.heap.size w w2) := HB1.out.trans (hb.mono HB1.out.size)
  have HS2 : Hid (Std w2) := HS1.out.below hb
  clear hb
  go_wp2_with fail
  refine (good_any _ _ HS2.out (by exact HQ.out)).mono ?_
  rintro e w3 ⟨rfl, hb⟩
  rw [HD.out, HG2.out]
  have HB3 : Hid (Below w.heap.size w w3) := HB2.out.trans (hb.mono HB2.out.size)
  have HS3 : Hid (Std w3) := HS2.out.below hb
  clear hb
  go_wp2_with fail
  refine (parent_yes _ _ HS3.out (by rw [HD.out]; exact HG2.out) (by rw [HD.out]; exact H2.out)).mono ?_
  rintro e w4 ⟨u, rfl, hu, hb⟩
  rw [HD.out] at hu
  have HU : Hid (u.data.toList = Pl.parent (p.data.toList ++ 47 :: s.data.toList)) := hu
  clear hu
  have HB4 : Hid (Below w.heap.size w w4) := HB3.out.trans (hb.mono HB3.out.size)
  have HS4 : Hid (Std w4) := HS3.out.below hb
  clear hb
  go_wp2_with fail
  refine (parts_good p _ HS4.out HG.out).mono ?_
  rintro e w5 ⟨xs, rfl, hxs, hrow⟩
  have hb := hrow.below
  have hn := congrArg List.length hxs
  rw [List.length_map] at hn
  obtain ⟨n, en⟩ : ∃ n, n = xs.length := ⟨_, rfl⟩
  rw [← en] at hn ⊢
  have HN : Hid (n = (Pl.parts p.data.toList).length) := hn
  clear hxs hrow hn en
  have HB5 : Hid (Below w.heap.size w w5) := HB4.out.trans (hb.mono HB4.out.size)
  have HS5 : Hid (Std w5) := HS4.out.below hb
  clear hb
  go_wp2_with fail
  refine (parts_good _ _ HS5.out (by rw [HD.out]; exact HG2.out)).mono ?_
  rintro e w6 ⟨ys, rfl, hys, hrow⟩
  have hb := hrow.below
  have hm := congrArg List.length hys
  rw [List.length_map, HD.out] at hm
  obtain ⟨m, em⟩ : ∃ m, m = ys.length := ⟨_, rfl⟩
  rw [← em] at hm ⊢
  have HM : Hid (m = (Pl.parts (p.data.toList ++ 47 :: s.data.toList)).length) := hm
  clear hys hrow hm em
  have HB6 : Hid (Below w.heap.size w w6) := HB5.out.trans (hb.mono HB5.out.size)
  have HS6 : Hid (Std w6) := HS5.out.below hb
  clear hb
  have hn := HN.out
  have hm := HM.out
  have hL := HL.out
  have h8 := (parts_len HG.out).2
  have h8m := (parts_len HG2.out).2
  rw [← hn] at h8 hL
  rw [← hm] at h8m hL
  have hE := HE.out
  rw [← hn, ← hm] at hE
  subst hE
  clear hn hm
  have hge : (n : Int) + 1 ≤ ((n + 1 : Nat) : Int) := by omega
  have hne : (((n + 1 : Nat) : Int) != (n : Int) + 1) = false := by rw [bne_eq_false_iff_eq]; omega
  obtain rfl : u = p := ByteArray.ext (Array.toList_inj.1 (HU.out.trans HPA.out))
  clear HU HPA
  go_wp2_with fail
  refine (within_any _ _ _ HS6.out (by exact HQ.out) HP.out).mono ?_
  rintro e w7 ⟨rfl, hb⟩
  rw [HD.out, HI.out]
  have HB7 : Hid (Below w.heap.size w w7) := HB6.out.trans (hb.mono HB6.out.size)
  have HS7 : Hid (Std w7) := HS6.out.below hb
  clear hb
  go_wp2_with fail
  refine (within_any _ _ _ HS7.out HP.out (by exact HQ.out)).mono ?_
  rintro e w8 ⟨rfl, hb⟩
  rw [HD.out, HO.out]
  have HB8 : Hid (Below w.heap.size w w8) := HB7.out.trans (hb.mono HB7.out.size)
  have HS8 : Hid (Std w8) := HS7.out.below hb
  clear hb
  go_wp2_with fail
  refine (name_any _ _ HS8.out (by rw [HD.out]; exact HG2.out)).mono ?_
  rintro e w9 ⟨v, rfl, hv, hb⟩
  rw [HD.out, HNM.out] at hv
  obtain rfl : v = s := ByteArray.ext (Array.toList_inj.1 hv)
  clear hv
  have HB9 : Hid (Below w.heap.size w w9) := HB8.out.trans (hb.mono HB8.out.size)
  have HS9 : Hid (Std w9) := HS8.out.below hb
  clear hb
  go_wp2
  go_ret
  exact ⟨rfl, HB9.out⟩

theorem deeper_any (p s : ByteArray) (w : World) (hS : Std w) (hp : p.size ≤ maxLen) (hs : s.size ≤ maxLen) :
    Calls Tryd.prog 8 #[.string p, .string s] w fun e w' => e = .returned (.bool true) ∧ Below w.heap.size w w' := by
  by_cases h1 : 300 < (p.size : Int)
  · exact deeper_long p s w hS hp hs h1
  by_cases h2 : 100 < (s.size : Int)
  · exact deeper_long2 p s w hS hp hs h1 h2
  cases hg : Pl.goodB p.data.toList with
  | false => exact deeper_bad p s w hS hp hs h1 h2 hg
  | true =>
    cases hg2 : Pl.goodB (p.data.toList ++ 47 :: s.data.toList) with
    | false => exact deeper_bad2 p s w hS hp hs h1 h2 hg hg2
    | true =>
      by_cases he : (Pl.parts (p.data.toList ++ 47 :: s.data.toList)).length = (Pl.parts p.data.toList).length + 1
      · exact deeper_step p s w hS hp hs h1 h2 hg hg2 he
      · exact deeper_more p s w hS hp hs h1 h2 hg hg2 he
end Go.Proofs.YtmmbomlpkjgclaaDoor
