/- The walk of the statement PathUnder: it answers true. -/
import Derived.Test.YtmmbomlpkjgclaaDoorWAwake
import Derived.Test.YtmmbomlpkjgclaaDoorPlain4
namespace Go.Proofs.YtmmbomlpkjgclaaDoor
open Go.RowKit

set_option maxHeartbeats 1000000 in
theorem under_long (p q : ByteArray) (w : World) (hS : Std w) (hp : p.size ≤ maxLen) (hq : q.size ≤ maxLen) (h1 : 400 < (p.size : Int)) :
    Calls Tryd.prog 6 #[.string p, .string q] w fun e w' => e = .returned (.bool true) ∧ Below w.heap.size w w' := by
  have HS : Hid (Std w) := hS
  have HP : Hid (p.size ≤ maxLen) := hp
  have HQ : Hid (q.size ≤ maxLen) := hq
  unfold maxLen at hp hq
  have _ := HP
  have _ := HQ
  clear hS
  go_enter Tryd.func6, Tryd.ntmps6
  go_wp2_with fail
  refine (awake_any _ HS.out).mono ?_
  rintro e w1 ⟨rfl, hb⟩
  have HB1 : Hid (Below w.heap.size w w1) := hb
  have HS1 : Hid (Std w1) := HS.out.below hb
  clear hb
  go_wp2
  go_ret
  exact ⟨rfl, HB1.out⟩

set_option maxHeartbeats 1000000 in
theorem under_long2 (p q : ByteArray) (w : World) (hS : Std w) (hp : p.size ≤ maxLen) (hq : q.size ≤ maxLen) (h1 : ¬ 400 < (p.size : Int)) (h2 : 400 < (q.size : Int)) :
    Calls Tryd.prog 6 #[.string p, .string q] w fun e w' => e = .returned (.bool true) ∧ Below w.heap.size w w' := by
  have HS : Hid (Std w) := hS
  have HP : Hid (p.size ≤ maxLen) := hp
  have HQ : Hid (q.size ≤ maxLen) := hq
  unfold maxLen at hp hq
  have _ := HP
  have _ := HQ
  clear hS
  go_enter Tryd.func6, Tryd.ntmps6
  go_wp2_with fail
  refine (awake_any _ HS.out).mono ?_
  rintro e w1 ⟨rfl, hb⟩
  have HB1 : Hid (Below w.heap.size w w1) := hb
  have HS1 : Hid (Std w1) := HS.out.below hb
  clear hb
  go_wp2
  go_ret
  exact ⟨rfl, HB1.out⟩

set_option maxHeartbeats 1000000 in
theorem under_bad (p q : ByteArray) (w : World) (hS : Std w) (hp : p.size ≤ maxLen) (hq : q.size ≤ maxLen) (h1 : ¬ 400 < (p.size : Int)) (h2 : ¬ 400 < (q.size : Int)) (hg : Pl.goodB p.data.toList = false) :
    Calls Tryd.prog 6 #[.string p, .string q] w fun e w' => e = .returned (.bool true) ∧ Below w.heap.size w w' := by
  have HS : Hid (Std w) := hS
  have HP : Hid (p.size ≤ maxLen) := hp
  have HQ : Hid (q.size ≤ maxLen) := hq
  unfold maxLen at hp hq
  have _ := HP
  have _ := HQ
  clear hS
  have HG : Hid (Pl.goodB p.data.toList = false) := hg
  clear hg
  go_enter Tryd.func6, Tryd.ntmps6
  go_wp2_with fail
  refine (awake_any _ HS.out).mono ?_
  rintro e w1 ⟨rfl, hb⟩
  have HB1 : Hid (Below w.heap.size w w1) := hb
  have HS1 : Hid (Std w1) := HS.out.below hb
  clear hb
  go_wp2_with fail
  refine (good_any p _ HS1.out HP.out).mono ?_
  rintro e w2 ⟨rfl, hb⟩
  rw [HG.out]
  have HB2 : Hid (Below w.heap.size w w2) := HB1.out.trans (hb.mono HB1.out.size)
  have HS2 : Hid (Std w2) := HS1.out.below hb
  clear hb
  go_wp2
  go_ret
  exact ⟨rfl, HB2.out⟩

set_option maxHeartbeats 1000000 in
theorem under_bad2 (p q : ByteArray) (w : World) (hS : Std w) (hp : p.size ≤ maxLen) (hq : q.size ≤ maxLen) (h1 : ¬ 400 < (p.size : Int)) (h2 : ¬ 400 < (q.size : Int)) (hg : Pl.goodB p.data.toList = true) (hg2 : Pl.goodB q.data.toList = false) :
    Calls Tryd.prog 6 #[.string p, .string q] w fun e w' => e = .returned (.bool true) ∧ Below w.heap.size w w' := by
  have HS : Hid (Std w) := hS
  have HP : Hid (p.size ≤ maxLen) := hp
  have HQ : Hid (q.size ≤ maxLen) := hq
  unfold maxLen at hp hq
  have _ := HP
  have _ := HQ
  clear hS
  have HG : Hid (Pl.goodB p.data.toList = true) := hg
  have HG2 : Hid (Pl.goodB q.data.toList = false) := hg2
  clear hg hg2
  go_enter Tryd.func6, Tryd.ntmps6
  go_wp2_with fail
  refine (awake_any _ HS.out).mono ?_
  rintro e w1 ⟨rfl, hb⟩
  have HB1 : Hid (Below w.heap.size w w1) := hb
  have HS1 : Hid (Std w1) := HS.out.below hb
  clear hb
  go_wp2_with fail
  refine (good_any p _ HS1.out HP.out).mono ?_
  rintro e w2 ⟨rfl, hb⟩
  rw [HG.out]
  have HB2 : Hid (Below w.heap.size w w2) := HB1.out.trans (hb.mono HB1.out.size)
  have HS2 : Hid (Std w2) := HS1.out.below hb
  clear hb
  go_wp2_with fail
  refine (good_any q _ HS2.out HQ.out).mono ?_
  rintro e w3 ⟨rfl, hb⟩
  rw [HG2.out]
  have HB3 : Hid (Below w.heap.size w w3) := HB2.out.trans (hb.mono HB2.out.size)
  have HS3 : Hid (Std w3) := HS2.out.below hb
  clear hb
  go_wp2
  go_ret
  exact ⟨rfl, HB3.out⟩

theorem parent_both (p : ByteArray) (w : World) (hS : Std w) (hg : Pl.goodB p.data.toList = true) :
    Calls Tryd.prog 12 #[.string p] w fun e w' => ∃ x : ByteArray, e = .returned (.tuple #[.string x, .bool (decide (2 ≤ (Pl.parts p.data.toList).length))]) ∧ (2 ≤ (Pl.parts p.data.toList).length → x.data.toList = Pl.anc p.data.toList ((Pl.parts p.data.toList).length - 1)) ∧ Below w.heap.size w w' := by
  by_cases h : 2 ≤ (Pl.parts p.data.toList).length
  · rw [decide_eq_true h]
    refine (parent_yes p w hS hg h).mono ?_
    rintro e w' ⟨x, he, hx, hb⟩
    exact ⟨x, he, fun _ => by rw [hx, Pl.anc_first h], hb⟩
  · rw [decide_eq_false h]
    have hsz := (Pl.good_parts hg).2.2
    rw [sz_list] at hsz
    refine (parent_no p w hS (by unfold maxLen; show p.size ≤ 2 ^ 63 - 1; omega) (by omega)).mono ?_
    rintro e w' ⟨he, hb⟩
    exact ⟨_, he, fun h' => absurd h' h, hb⟩

set_option maxHeartbeats 1000000 in
theorem under_rest (p q : ByteArray) (w : World) (hS : Std w) (hp : p.size ≤ maxLen) (hq : q.size ≤ maxLen) (h1 : ¬ 400 < (p.size : Int)) (h2 : ¬ 400 < (q.size : Int)) (hg : Pl.goodB p.data.toList = true) (hg2 : Pl.goodB q.data.toList = true) :
    Calls Tryd.prog 6 #[.string p, .string q] w fun e w' => e = .returned (.bool true) ∧ Below w.heap.size w w' := by
  have HS : Hid (Std w) := hS
  have HP : Hid (p.size ≤ maxLen) := hp
  have HQ : Hid (q.size ≤ maxLen) := hq
  unfold maxLen at hp hq
  have _ := HP
  have _ := HQ
  clear hS
  have HG : Hid (Pl.goodB p.data.toList = true) := hg
  have HG2 : Hid (Pl.goodB q.data.toList = true) := hg2
  obtain ⟨N, hN⟩ : ∃ N, N = (Pl.parts p.data.toList).length := ⟨_, rfl⟩
  have HN : Hid (N = (Pl.parts p.data.toList).length) := hN
  have HN8 : Hid (1 ≤ N ∧ N ≤ 8) := by rw [hN]; exact parts_len hg
  clear hg hg2 hN
  go_enter Tryd.func6, Tryd.ntmps6
  go_wp2_with fail
  refine (awake_any _ HS.out).mono ?_
  rintro e w1 ⟨rfl, hb⟩
  have HB1 : Hid (Below w.heap.size w w1) := hb
  have HS1 : Hid (Std w1) := HS.out.below hb
  clear hb
  go_wp2_with fail
  refine (good_any p _ HS1.out HP.out).mono ?_
  rintro e w2 ⟨rfl, hb⟩
  rw [HG.out]
  have HB2 : Hid (Below w.heap.size w w2) := HB1.out.trans (hb.mono HB1.out.size)
  have HS2 : Hid (Std w2) := HS1.out.below hb
  clear hb
  go_wp2_with fail
  refine (good_any q _ HS2.out HQ.out).mono ?_
  rintro e w3 ⟨rfl, hb⟩
  rw [HG2.out]
  have HB3 : Hid (Below w.heap.size w w3) := HB2.out.trans (hb.mono HB2.out.size)
  have HS3 : Hid (Std w3) := HS2.out.below hb
  clear hb
  go_wp2_with fail
  refine (parent_both p _ HS3.out HG.out).mono ?_
  rintro e w4 ⟨u, rfl, hu, hb⟩
  rw [← HN.out] at hu ⊢
  have HU : Hid (2 ≤ N → u.data.toList = Pl.anc p.data.toList (N - 1)) := hu
  have HB4 : Hid (Below w.heap.size w w4) := HB3.out.trans (hb.mono HB3.out.size)
  have HS4 : Hid (Std w4) := HS3.out.below hb
  clear hb hu
  have hN8 := HN8.out
  go_wp2_with fail
  go_loopw [5, 6, 7] (fun n a ok w' => ∃ (k : Nat) (x : ByteArray), k + 1 ≤ N ∧ n = .int .i64 (k + 1 : Nat) ∧ a = .string x ∧ ok = .bool (decide (k + 2 ≤ N)) ∧ (k + 2 ≤ N → x.data.toList = Pl.anc p.data.toList (N - 1 - k)) ∧ Below w.heap.size w w' ∧ Std w') (fun n _ _ _ => N - (intOf n).toNat)
  case atStart => exact ⟨0, u, by omega, rfl, rfl, by simp, fun h => HU.out (by omega), HB4.out, HS4.out⟩
  case round =>
    obtain ⟨k, x, hk, rfl, rfl, rfl, hx, hbr, hsr⟩ := hrel
    have HX : Hid (k + 2 ≤ N → x.data.toList = Pl.anc p.data.toList (N - 1 - k)) := hx
    have HBR : Hid (Below w.heap.size w wr) := hbr
    have HSR : Hid (Std wr) := hsr
    clear hx hbr hsr
    by_cases hlt : k + 2 ≤ N
    · rw [decide_eq_true hlt]
      obtain ⟨j, hj⟩ : ∃ j, j = N - 1 - k := ⟨_, rfl⟩
      have hxj := HX.out hlt
      rw [← hj] at hxj
      have HJ : Hid (j = N - 1 - k) := hj
      have hj1 : 1 ≤ j := by omega
      have hjN : j < N := by omega
      have HXJ : Hid (x.data.toList = Pl.anc p.data.toList j) := hxj
      have HAG : Hid (Pl.goodB x.data.toList = true) := by rw [hxj]; exact (Pl.anc_good HG.out hj1 (by rw [← HN.out]; omega)).1
      have HAL : Hid ((Pl.parts x.data.toList).length = j) := by rw [hxj]; exact Pl.anc_len HG.out hj1 (by rw [← HN.out]; omega)
      have HAI : Hid (Pl.withinB p.data.toList x.data.toList = true) := by rw [hxj]; exact Pl.anc_in HG.out hj1 (by rw [← HN.out]; omega)
      have HAO : Hid (Pl.withinB x.data.toList p.data.toList = false) := by rw [hxj]; exact Pl.anc_out HG.out hj1 (by rw [← HN.out]; omega)
      have HAT : Hid (Pl.top x.data.toList = Pl.top p.data.toList) := by rw [hxj]; exact Pl.anc_top HG.out hj1 (by rw [← HN.out]; omega)
      have HXS : Hid (x.size ≤ maxLen) := by
        have := (Pl.good_parts HAG.out).2.2
        rw [sz_list] at this
        unfold maxLen; show x.size ≤ 2 ^ 63 - 1; omega
      clear hj hxj HX
      go_wp2_with fail
      refine (within_any p x _ HSR.out HP.out HXS.out).mono ?_
      rintro e v1 ⟨rfl, hb⟩
      rw [HAI.out]
      have HV1 : Hid (Below w.heap.size w v1) := HBR.out.trans (hb.mono HBR.out.size)
      have HT1 : Hid (Std v1) := HSR.out.below hb
      clear hb
      go_wp2_with fail
      refine (within_any x p _ HT1.out HXS.out HP.out).mono ?_
      rintro e v2 ⟨rfl, hb⟩
      rw [HAO.out]
      have HV2 : Hid (Below w.heap.size w v2) := HV1.out.trans (hb.mono HV1.out.size)
      have HT2 : Hid (Std v2) := HT1.out.below hb
      clear hb
      go_wp2_with fail
      refine (top_any x _ HT2.out HAG.out).mono ?_
      rintro e v3 ⟨y, rfl, hy, hb⟩
      have HY : Hid (y.data.toList = Pl.top x.data.toList) := hy
      have HV3 : Hid (Below w.heap.size w v3) := HV2.out.trans (hb.mono HV2.out.size)
      have HT3 : Hid (Std v3) := HT2.out.below hb
      clear hb hy
      go_wp2_with fail
      refine (top_any p _ HT3.out HG.out).mono ?_
      rintro e v4 ⟨z, rfl, hz, hb⟩
      have HV4 : Hid (Below w.heap.size w v4) := HV3.out.trans (hb.mono HV3.out.size)
      have HT4 : Hid (Std v4) := HT3.out.below hb
      obtain rfl : y = z := ByteArray.ext (Array.toList_inj.1 (HY.out.trans (HAT.out.trans hz.symm)))
      clear hb hz HY
      go_wp2_with fail
      refine (parent_both x _ HT4.out HAG.out).mono ?_
      rintro e v5 ⟨u', rfl, hu', hb⟩
      rw [HAL.out] at hu' ⊢
      have HU' : Hid (2 ≤ j → u'.data.toList = Pl.anc x.data.toList (j - 1)) := hu'
      have HV5 : Hid (Below w.heap.size w v5) := HV4.out.trans (hb.mono HV4.out.size)
      have HT5 : Hid (Std v5) := HT4.out.below hb
      clear hb hu'
      have hdec : decide (2 ≤ j) = decide (k + 1 + 2 ≤ N) := by
        rw [decide_eq_decide]; have := HJ.out; omega
      have HDEC : Hid (decide (2 ≤ j) = decide (k + 1 + 2 ≤ N)) := hdec
      have hpar : k + 1 + 2 ≤ N → u'.data.toList = Pl.anc p.data.toList (N - 1 - (k + 1)) := by
        intro h3
        have hj2 : 2 ≤ j := by have := HJ.out; omega
        rw [HU'.out hj2, ← HAL.out, ← Pl.anc_first (by rw [HAL.out]; exact hj2), HXJ.out, Pl.anc_parent HG.out hj2 (by rw [← HN.out]; omega)]
        congr 1
        have := HJ.out; omega
      have HPAR : Hid (k + 1 + 2 ≤ N → u'.data.toList = Pl.anc p.data.toList (N - 1 - (k + 1))) := hpar
      obtain ⟨bo, hbo⟩ : ∃ bo, bo = decide (2 ≤ j) := ⟨_, rfl⟩
      rw [← hbo]
      have HBO : Hid (bo = decide (2 ≤ j)) := hbo
      clear hdec hpar hbo
      go_wp2
      go_roundw
      case rel => exact ⟨k + 1, u', by omega, by go_num, rfl, by rw [HBO.out, HDEC.out], HPAR.out, HV5.out, HT5.out⟩
      case measure => simp [intOf]; omega
    · rw [decide_eq_false hlt]
      have hkN : k + 1 = N := by omega
      have HKN : Hid (k + 1 = N) := hkN
      clear HX hkN
      go_wp2_with fail
      refine (parts_good p _ HSR.out HG.out).mono ?_
      rintro e v1 ⟨xs, rfl, hxs, hrow⟩
      have hb := hrow.below
      have hn := congrArg List.length hxs
      rw [List.length_map] at hn
      have hn2 : xs.length = k + 1 := by rw [hn, ← HN.out]; exact HKN.out.symm
      rw [hn2]
      have HV1 : Hid (Below w.heap.size w v1) := HBR.out.trans (hb.mono HBR.out.size)
      have HT1 : Hid (Std v1) := HSR.out.below hb
      clear hb hrow hxs hn hn2
      have hpq : (p.toList == q.toList) = (Pl.withinB p.data.toList q.data.toList && Pl.withinB q.data.toList p.data.toList) := by
        rw [Lib.toList_data, Lib.toList_data]; exact (Pl.both_within HG.out HG2.out).symm
      have HPQ : Hid ((p.toList == q.toList) = (Pl.withinB p.data.toList q.data.toList && Pl.withinB q.data.toList p.data.toList)) := hpq
      have HTOP : Hid (∀ y : ByteArray, y.data.toList = Pl.top p.data.toList → ((⟨#[47]⟩ : ByteArray) ++ y).size ≤ maxLen ∧ Pl.withinB p.data.toList ((⟨#[47]⟩ : ByteArray) ++ y).data.toList = true) := by
        intro y hy
        have hd : ((⟨#[47]⟩ : ByteArray) ++ y).data.toList = Pl.anc p.data.toList 1 := by
          rw [data_append, hy, ← Pl.top_of HG.out]; rfl
        have hl := parts_len HG.out
        have hgd := (Pl.anc_good HG.out (Nat.le_refl 1) hl.1).1
        refine ⟨?_, by rw [hd]; exact Pl.anc_in HG.out (Nat.le_refl 1) hl.1⟩
        have := (Pl.good_parts hgd).2.2
        rw [← hd, sz_list] at this
        unfold maxLen; show _ ≤ 2 ^ 63 - 1; omega
      clear hpq
      cases hw1 : Pl.withinB p.data.toList q.data.toList with
      | false =>
        have HW1 : Hid (Pl.withinB p.data.toList q.data.toList = false) := hw1
        have hpq : (p.toList == q.toList) = false := by rw [HPQ.out, hw1]; rfl
        clear hw1
        go_wp2_with fail
        refine (within_any p q _ HT1.out HP.out HQ.out).mono ?_
        rintro e v2 ⟨rfl, hb⟩
        rw [HW1.out]
        have HV2 : Hid (Below w.heap.size w v2) := HV1.out.trans (hb.mono HV1.out.size)
        have HT2 : Hid (Std v2) := HT1.out.below hb
        clear hb
        go_wp2_with fail
        refine (top_any p _ HT2.out HG.out).mono ?_
        rintro e v3 ⟨y, rfl, hy, hb⟩
        have HY : Hid (y.data.toList = Pl.top p.data.toList) := hy
        have hys : y.size ≤ 400 := by
          have h1 := (HTOP.out y hy).1
          have h2 := congrArg List.length (Pl.top_of HG.out)
          have h3 := (Pl.good_parts (Pl.anc_good HG.out (Nat.le_refl 1) (parts_len HG.out).1).1).2.2
          rw [← h2, ← hy, List.length_cons, sz_list] at h3
          omega
        have HV3 : Hid (Below w.heap.size w v3) := HV2.out.trans (hb.mono HV2.out.size)
        have HT3 : Hid (Std v3) := HT2.out.below hb
        clear hb hy
        go_wp2_with fail
        refine (within_any p _ _ HT3.out HP.out (by exact (HTOP.out y HY.out).1)).mono ?_
        rintro e v4 ⟨rfl, hb⟩
        rw [(HTOP.out y HY.out).2]
        have HV4 : Hid (Below w.heap.size w v4) := HV3.out.trans (hb.mono HV3.out.size)
        clear hb
        go_wp2
        go_ret
        exact ⟨rfl, HV4.out⟩
      | true =>
        have HW1 : Hid (Pl.withinB p.data.toList q.data.toList = true) := hw1
        cases hw2 : Pl.withinB q.data.toList p.data.toList with
        | false =>
          have HW2 : Hid (Pl.withinB q.data.toList p.data.toList = false) := hw2
          have hpq : (p.toList == q.toList) = false := by rw [HPQ.out, hw1, hw2]; rfl
          clear hw1 hw2
          go_wp2_with fail
          refine (within_any p q _ HT1.out HP.out HQ.out).mono ?_
          rintro e v2 ⟨rfl, hb⟩
          rw [HW1.out]
          have HV2 : Hid (Below w.heap.size w v2) := HV1.out.trans (hb.mono HV1.out.size)
          have HT2 : Hid (Std v2) := HT1.out.below hb
          clear hb
          go_wp2_with fail
          refine (within_any q p _ HT2.out HQ.out HP.out).mono ?_
          rintro e v3 ⟨rfl, hb⟩
          rw [HW2.out]
          have HV3 : Hid (Below w.heap.size w v3) := HV2.out.trans (hb.mono HV2.out.size)
          have HT3 : Hid (Std v3) := HT2.out.below hb
          clear hb
          go_wp2_with fail
          refine (top_any p _ HT3.out HG.out).mono ?_
          rintro e v4 ⟨y, rfl, hy, hb⟩
          have HY : Hid (y.data.toList = Pl.top p.data.toList) := hy
          have hys : y.size ≤ 400 := by
            have h1 := (HTOP.out y hy).1
            have h2 := congrArg List.length (Pl.top_of HG.out)
            have h3 := (Pl.good_parts (Pl.anc_good HG.out (Nat.le_refl 1) (parts_len HG.out).1).1).2.2
            rw [← h2, ← hy, List.length_cons, sz_list] at h3
            omega
          have HV4 : Hid (Below w.heap.size w v4) := HV3.out.trans (hb.mono HV3.out.size)
          have HT4 : Hid (Std v4) := HT3.out.below hb
          clear hb hy
          go_wp2_with fail
          refine (within_any p _ _ HT4.out HP.out (by exact (HTOP.out y HY.out).1)).mono ?_
          rintro e v5 ⟨rfl, hb⟩
          rw [(HTOP.out y HY.out).2]
          have HV5 : Hid (Below w.heap.size w v5) := HV4.out.trans (hb.mono HV4.out.size)
          clear hb
          go_wp2
          go_ret
          exact ⟨rfl, HV5.out⟩
        | true =>
          have HW2 : Hid (Pl.withinB q.data.toList p.data.toList = true) := hw2
          have hpq : (p.toList == q.toList) = true := by rw [HPQ.out, hw1, hw2]; rfl
          clear hw1 hw2
          go_wp2_with fail
          refine (within_any p q _ HT1.out HP.out HQ.out).mono ?_
          rintro e v2 ⟨rfl, hb⟩
          rw [HW1.out]
          have HV2 : Hid (Below w.heap.size w v2) := HV1.out.trans (hb.mono HV1.out.size)
          have HT2 : Hid (Std v2) := HT1.out.below hb
          clear hb
          go_wp2_with fail
          refine (within_any q p _ HT2.out HQ.out HP.out).mono ?_
          rintro e v3 ⟨rfl, hb⟩
          rw [HW2.out]
          have HV3 : Hid (Below w.heap.size w v3) := HV2.out.trans (hb.mono HV2.out.size)
          have HT3 : Hid (Std v3) := HT2.out.below hb
          clear hb
          go_wp2_with fail
          refine (top_any p _ HT3.out HG.out).mono ?_
          rintro e v4 ⟨y, rfl, hy, hb⟩
          have HY : Hid (y.data.toList = Pl.top p.data.toList) := hy
          have hys : y.size ≤ 400 := by
            have h1 := (HTOP.out y hy).1
            have h2 := congrArg List.length (Pl.top_of HG.out)
            have h3 := (Pl.good_parts (Pl.anc_good HG.out (Nat.le_refl 1) (parts_len HG.out).1).1).2.2
            rw [← h2, ← hy, List.length_cons, sz_list] at h3
            omega
          have HV4 : Hid (Below w.heap.size w v4) := HV3.out.trans (hb.mono HV3.out.size)
          have HT4 : Hid (Std v4) := HT3.out.below hb
          clear hb hy
          go_wp2_with fail
          refine (within_any p _ _ HT4.out HP.out (by exact (HTOP.out y HY.out).1)).mono ?_
          rintro e v5 ⟨rfl, hb⟩
          rw [(HTOP.out y HY.out).2]
          have HV5 : Hid (Below w.heap.size w v5) := HV4.out.trans (hb.mono HV4.out.size)
          clear hb
          go_wp2
          go_ret
          exact ⟨rfl, HV5.out⟩

theorem under_any (p q : ByteArray) (w : World) (hS : Std w) (hp : p.size ≤ maxLen) (hq : q.size ≤ maxLen) :
    Calls Tryd.prog 6 #[.string p, .string q] w fun e w' => e = .returned (.bool true) ∧ Below w.heap.size w w' := by
  by_cases h1 : 400 < (p.size : Int)
  · exact under_long p q w hS hp hq h1
  by_cases h2 : 400 < (q.size : Int)
  · exact under_long2 p q w hS hp hq h1 h2
  cases hg : Pl.goodB p.data.toList with
  | false => exact under_bad p q w hS hp hq h1 h2 hg
  | true =>
  cases hg2 : Pl.goodB q.data.toList with
  | false => exact under_bad2 p q w hS hp hq h1 h2 hg hg2
  | true => exact under_rest p q w hS hp hq h1 h2 hg hg2
end Go.Proofs.YtmmbomlpkjgclaaDoor
