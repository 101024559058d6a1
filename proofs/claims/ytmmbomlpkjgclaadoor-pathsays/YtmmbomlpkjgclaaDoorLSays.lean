/- The walk of the statement PathSays: it answers true. -/
import Derived.Test.YtmmbomlpkjgclaaDoorWAwake
import Derived.Test.YtmmbomlpkjgclaaDoorRNumber
namespace Go.Proofs.YtmmbomlpkjgclaaDoor
open Go.RowKit

theorem name_bad_nil {p : List UInt8} (h : Pl.goodB p = false) : Pl.name p = [] := by rw [Pl.name, Pl.bad_parts h]; rfl
theorem top_bad_nil {p : List UInt8} (h : Pl.goodB p = false) : Pl.top p = [] := by rw [Pl.top, Pl.bad_parts h]; rfl

theorem name_tot (p : ByteArray) (w : World) (hS : Std w) (hp : p.size ≤ maxLen) :
    Calls Tryd.prog 21 #[.string p] w fun e w' => ∃ x : ByteArray, e = .returned (.string x) ∧ x.data.toList = Pl.name p.data.toList ∧ Below w.heap.size w w' := by
  cases hg : Pl.goodB p.data.toList with
  | true => exact name_any p w hS hg
  | false => exact (name_bad p w hS hp hg).mono fun e w' ⟨he, hb⟩ => ⟨_, he, by rw [name_bad_nil hg], hb⟩

theorem refName_tot (p : ByteArray) (w : World) (hp : p.size ≤ maxLen) :
    Calls Tryd.prog 22 #[.string p] w fun e w' => ∃ x : ByteArray, e = .returned (.string x) ∧ x.data.toList = Pl.name p.data.toList ∧ Below w.heap.size w w' := by
  cases hg : Pl.goodB p.data.toList with
  | true => exact refName_any p w hg
  | false => exact (refName_bad p w hp hg).mono fun e w' ⟨he, hb⟩ => ⟨_, he, by rw [name_bad_nil hg], hb⟩

theorem top_tot (p : ByteArray) (w : World) (hS : Std w) (hp : p.size ≤ maxLen) :
    Calls Tryd.prog 23 #[.string p] w fun e w' => ∃ x : ByteArray, e = .returned (.string x) ∧ x.data.toList = Pl.top p.data.toList ∧ Below w.heap.size w w' := by
  cases hg : Pl.goodB p.data.toList with
  | true => exact top_any p w hS hg
  | false => exact (top_bad p w hS hp hg).mono fun e w' ⟨he, hb⟩ => ⟨_, he, by rw [top_bad_nil hg], hb⟩

theorem refTop_tot (p : ByteArray) (w : World) (hp : p.size ≤ maxLen) :
    Calls Tryd.prog 24 #[.string p] w fun e w' => ∃ x : ByteArray, e = .returned (.string x) ∧ x.data.toList = Pl.top p.data.toList ∧ Below w.heap.size w w' := by
  cases hg : Pl.goodB p.data.toList with
  | true => exact refTop_any p w hg
  | false => exact (refTop_bad p w hp hg).mono fun e w' ⟨he, hb⟩ => ⟨_, he, by rw [top_bad_nil hg], hb⟩

def parentT (p : List UInt8) : List UInt8 := if 2 ≤ (Pl.parts p).length then Pl.parent p else []
theorem two_good {p : List UInt8} (h : 2 ≤ (Pl.parts p).length) : Pl.goodB p = true := by
  cases hg : Pl.goodB p with
  | true => rfl
  | false => rw [Pl.bad_parts hg] at h; simp at h

theorem parent_tot (p : ByteArray) (w : World) (hS : Std w) (hp : p.size ≤ maxLen) :
    Calls Tryd.prog 12 #[.string p] w fun e w' => ∃ x : ByteArray, e = .returned (.tuple #[.string x, .bool (decide (2 ≤ (Pl.parts p.data.toList).length))]) ∧ x.data.toList = parentT p.data.toList ∧ Below w.heap.size w w' := by
  by_cases h : 2 ≤ (Pl.parts p.data.toList).length
  · rw [decide_eq_true h]
    exact (parent_yes p w hS (two_good h) h).mono fun e w' ⟨x, he, hx, hb⟩ => ⟨x, he, by rw [hx, parentT, if_pos h], hb⟩
  · rw [decide_eq_false h]
    exact (parent_no p w hS hp (by omega)).mono fun e w' ⟨he, hb⟩ => ⟨_, he, by rw [parentT, if_neg h], hb⟩

theorem refParent_tot (p : ByteArray) (w : World) (hp : p.size ≤ maxLen) :
    Calls Tryd.prog 16 #[.string p] w fun e w' => ∃ x : ByteArray, e = .returned (.tuple #[.string x, .bool (decide (2 ≤ (Pl.parts p.data.toList).length))]) ∧ x.data.toList = parentT p.data.toList ∧ Below w.heap.size w w' := by
  by_cases h : 2 ≤ (Pl.parts p.data.toList).length
  · rw [decide_eq_true h]
    exact (refParent_yes p w (two_good h) h).mono fun e w' ⟨x, he, hx, hb⟩ => ⟨x, he, by rw [hx, parentT, if_pos h], hb⟩
  · rw [decide_eq_false h]
    exact (refParent_no p w hp (by omega)).mono fun e w' ⟨he, hb⟩ => ⟨_, he, by rw [parentT, if_neg h], hb⟩

def numB (p : List UInt8) (n : Int) : Bool := Pl.goodB p && decide (0 ≤ n) && decide (n ≤ 2147483647) && Pl.goodB (p ++ Pl.dig10 n.toNat)

theorem numB_parts {p : List UInt8} {n : Int} (h : numB p n = true) : Pl.goodB p = true ∧ 0 ≤ n ∧ n ≤ 2147483647 ∧ Pl.goodB (p ++ Pl.dig10 n.toNat) = true := by
  unfold numB at h
  simp only [Bool.and_eq_true, decide_eq_true_eq] at h
  exact ⟨h.1.1.1, h.1.1.2, h.1.2, h.2⟩

theorem numB_none {p : List UInt8} {n : Int} (h : numB p n = false) : (Pl.goodB p = false ∨ n < 0 ∨ 2147483647 < n) ∨ (Pl.goodB p = true ∧ 0 ≤ n ∧ n ≤ 2147483647 ∧ Pl.goodB (p ++ Pl.dig10 n.toNat) = false) := by
  cases hg : Pl.goodB p with
  | false => exact Or.inl (Or.inl rfl)
  | true =>
    by_cases h0 : 0 ≤ n
    · by_cases h1 : n ≤ 2147483647
      · refine Or.inr ⟨rfl, h0, h1, ?_⟩
        rw [numB, hg, decide_eq_true h0, decide_eq_true h1] at h
        exact h
      · exact Or.inl (Or.inr (Or.inr (by omega)))
    · exact Or.inl (Or.inr (Or.inl (by omega)))

theorem number_tot1 (p : ByteArray) (n : Int) (w : World) (hS : Std w) (h : numB p.data.toList n = true) :
    Calls Tryd.prog 11 #[.string p, .int .i64 n] w fun e w' => ∃ x : ByteArray, e = .returned (.tuple #[.string x, .int .i64 0]) ∧ x.data.toList = p.data.toList ++ Pl.dig10 n.toNat ∧ Below w.heap.size w w' := by
  obtain ⟨hg, h0, h1, h2⟩ := numB_parts h
  refine (number_any p n w hS hg h0 h1).mono ?_
  rintro e w' (⟨x, he, hx, _, hb⟩ | ⟨_, h3, _⟩)
  · exact ⟨x, he, hx, hb⟩
  · rw [h2] at h3; cases h3

theorem number_tot0 (p : ByteArray) (n : Int) (w : World) (hS : Std w) (hp : p.size ≤ maxLen) (h : numB p.data.toList n = false) :
    Calls Tryd.prog 11 #[.string p, .int .i64 n] w fun e w' => e = .returned (.tuple #[.string ⟨#[]⟩, .int .i64 1]) ∧ Below w.heap.size w w' := by
  rcases numB_none h with h | ⟨hg, h0, h1, h2⟩
  · exact number_no p n w hS hp h
  · refine (number_any p n w hS hg h0 h1).mono ?_
    rintro e w' (⟨_, _, _, h3, _⟩ | ⟨he, _, hb⟩)
    · rw [h2] at h3; cases h3
    · exact ⟨he, hb⟩

theorem refNumber_tot1 (p : ByteArray) (n : Int) (w : World) (h : numB p.data.toList n = true) :
    Calls Tryd.prog 17 #[.string p, .int .i64 n] w fun e w' => ∃ x : ByteArray, e = .returned (.tuple #[.string x, .bool true]) ∧ x.data.toList = p.data.toList ++ Pl.dig10 n.toNat ∧ Below w.heap.size w w' := by
  obtain ⟨hg, h0, h1, h2⟩ := numB_parts h
  obtain ⟨k, rfl⟩ := Int.eq_ofNat_of_zero_le h0
  rw [Int.toNat_natCast] at h2 ⊢
  refine (refNumber_any p k w hg (by omega)).mono ?_
  rintro e w' (⟨x, he, hx, _, hb⟩ | ⟨_, h3, _⟩)
  · exact ⟨x, he, hx, hb⟩
  · rw [h2] at h3; cases h3

theorem refNumber_tot0 (p : ByteArray) (n : Int) (w : World) (hp : p.size ≤ maxLen) (h : numB p.data.toList n = false) :
    Calls Tryd.prog 17 #[.string p, .int .i64 n] w fun e w' => e = .returned (.tuple #[.string ⟨#[]⟩, .bool false]) ∧ Below w.heap.size w w' := by
  rcases numB_none h with h | ⟨hg, h0, h1, h2⟩
  · exact refNumber_no p n w hp h
  · obtain ⟨k, rfl⟩ := Int.eq_ofNat_of_zero_le h0
    rw [Int.toNat_natCast] at h2
    refine (refNumber_any p k w hg (by omega)).mono ?_
    rintro e w' (⟨_, _, _, h3, _⟩ | ⟨he, _, hb⟩)
    · rw [h2] at h3; cases h3
    · exact ⟨he, hb⟩

theorem rows_same : ∀ {xs ys : List ByteArray}, xs.map (·.data.toList) = ys.map (·.data.toList) → xs = ys
  | [], [], _ => rfl
  | [], _ :: _, h => by simp at h
  | _ :: _, [], h => by simp at h
  | x :: xs, y :: ys, h => by
    have h1 := List.cons.inj h
    rw [rows_same h1.2, show x = y from ByteArray.ext (Array.toList_inj.1 h1.1)]

set_option maxHeartbeats 2000000 in
theorem says_long (p q : ByteArray) (n : Int) (w : World) (hS : Std w) (hp : p.size ≤ maxLen) (hq : q.size ≤ maxLen) (h1 : 400 < (p.size : Int)) :
    Calls Tryd.prog 4 #[.string p, .string q, .int .i64 n] w fun e w' => e = .returned (.bool true) ∧ Below w.heap.size w w' := by
  have HS : Hid (Std w) := hS
  have HP : Hid (p.size ≤ maxLen) := hp
  have HQ : Hid (q.size ≤ maxLen) := hq
  unfold maxLen at hp hq
  have _ := HP
  have _ := HQ
  clear hS
  go_enter Tryd.func4, Tryd.ntmps4
  go_wp2_with fail
  refine (awake_any _ HS.out).mono ?_
  rintro e w1 ⟨rfl, hb⟩
  have HB1 : Hid (Below w.heap.size w w1) := hb
  have HS1 : Hid (Std w1) := HS.out.below hb
  clear hb
  go_wp2
  go_ret
  exact ⟨rfl, HB1.out⟩

set_option maxHeartbeats 2000000 in
theorem says_long2 (p q : ByteArray) (n : Int) (w : World) (hS : Std w) (hp : p.size ≤ maxLen) (hq : q.size ≤ maxLen) (h1 : ¬ 400 < (p.size : Int)) (h2 : 400 < (q.size : Int)) :
    Calls Tryd.prog 4 #[.string p, .string q, .int .i64 n] w fun e w' => e = .returned (.bool true) ∧ Below w.heap.size w w' := by
  have HS : Hid (Std w) := hS
  have HP : Hid (p.size ≤ maxLen) := hp
  have HQ : Hid (q.size ≤ maxLen) := hq
  unfold maxLen at hp hq
  have _ := HP
  have _ := HQ
  clear hS
  go_enter Tryd.func4, Tryd.ntmps4
  go_wp2_with fail
  refine (awake_any _ HS.out).mono ?_
  rintro e w1 ⟨rfl, hb⟩
  have HB1 : Hid (Below w.heap.size w w1) := hb
  have HS1 : Hid (Std w1) := HS.out.below hb
  clear hb
  go_wp2
  go_ret
  exact ⟨rfl, HB1.out⟩

set_option maxHeartbeats 2000000 in
theorem says_rest00 (p q : ByteArray) (n : Int) (w : World) (hS : Std w) (hp : p.size ≤ maxLen) (hq : q.size ≤ maxLen) (h1 : ¬ 400 < (p.size : Int)) (h2 : ¬ 400 < (q.size : Int)) (hg : Pl.goodB p.data.toList = false) (hm : numB p.data.toList n = false) :
    Calls Tryd.prog 4 #[.string p, .string q, .int .i64 n] w fun e w' => e = .returned (.bool true) ∧ Below w.heap.size w w' := by
  have HS : Hid (Std w) := hS
  have HP : Hid (p.size ≤ maxLen) := hp
  have HQ : Hid (q.size ≤ maxLen) := hq
  unfold maxLen at hp hq
  have _ := HP
  have _ := HQ
  clear hS
  have HG : Hid (Pl.goodB p.data.toList = false) := hg
  have HM : Hid (numB p.data.toList n = false) := hm
  obtain ⟨bo, hbo⟩ : ∃ bo, bo = decide (2 ≤ (Pl.parts p.data.toList).length) := ⟨_, rfl⟩
  have HT : Hid (bo = decide (2 ≤ (Pl.parts p.data.toList).length)) := hbo
  obtain ⟨wo, hwo⟩ : ∃ wo, wo = Pl.withinB p.data.toList q.data.toList := ⟨_, rfl⟩
  have HW : Hid (wo = Pl.withinB p.data.toList q.data.toList) := hwo
  clear hg hm hbo hwo
  go_enter Tryd.func4, Tryd.ntmps4
  go_wp2_with fail
  refine (awake_any _ HS.out).mono ?_
  rintro e w1 ⟨rfl, hb⟩
  have HB1 : Hid (Below w.heap.size w w1) := hb
  have HS1 : Hid (Std w1) := HS.out.below hb
  clear hb
  go_wp2_with fail
  refine (parent_tot p _ HS1.out HP.out).mono ?_
  rintro e w2 ⟨u, rfl, hu, hb⟩
  rw [← HT.out]
  have HU : Hid (u.data.toList = parentT p.data.toList) := hu
  clear hu
  have HB2 : Hid (Below w.heap.size w w2) := HB1.out.trans (hb.mono HB1.out.size)
  have HS2 : Hid (Std w2) := HS1.out.below hb
  clear hb
  go_wp2_with fail
  refine (refParent_tot p _ HP.out).mono ?_
  rintro e w3 ⟨v, rfl, hv, hb⟩
  rw [← HT.out]
  obtain rfl : v = u := ByteArray.ext (Array.toList_inj.1 (hv.trans HU.out.symm))
  clear hv HU
  have HB3 : Hid (Below w.heap.size w w3) := HB2.out.trans (hb.mono HB2.out.size)
  have HS3 : Hid (Std w3) := HS2.out.below hb
  clear hb
  go_wp2_with fail
  refine (number_tot0 p n _ HS3.out HP.out HM.out).mono ?_
  rintro e w4 ⟨rfl, hb⟩
  have HB4 : Hid (Below w.heap.size w w4) := HB3.out.trans (hb.mono HB3.out.size)
  have HS4 : Hid (Std w4) := HS3.out.below hb
  clear hb
  go_wp2_with fail
  refine (refNumber_tot0 p n _ HP.out HM.out).mono ?_
  rintro e w5 ⟨rfl, hb⟩
  have HB5 : Hid (Below w.heap.size w w5) := HB4.out.trans (hb.mono HB4.out.size)
  have HS5 : Hid (Std w5) := HS4.out.below hb
  clear hb
  go_wp2_with fail
  refine (good_any p _ HS5.out HP.out).mono ?_
  rintro e w6 ⟨rfl, hb⟩
  rw [HG.out]
  have HB6 : Hid (Below w.heap.size w w6) := HB5.out.trans (hb.mono HB5.out.size)
  have HS6 : Hid (Std w6) := HS5.out.below hb
  clear hb
  go_wp2_with fail
  refine (refGood_any p _ HP.out).mono ?_
  rintro e w7 ⟨rfl, hb⟩
  rw [HG.out]
  have HB7 : Hid (Below w.heap.size w w7) := HB6.out.trans (hb.mono HB6.out.size)
  have HS7 : Hid (Std w7) := HS6.out.below hb
  clear hb
  go_wp2_with fail
  refine (parts_bad p _ HS7.out HP.out HG.out).mono ?_
  rintro e w8 ⟨rfl, hb⟩
  have HB8 : Hid (Below w.heap.size w w8) := HB7.out.trans (hb.mono HB7.out.size)
  have HS8 : Hid (Std w8) := HS7.out.below hb
  clear hb
  go_wp2_with fail
  refine (refParts_bad p _ HP.out HG.out).mono ?_
  rintro e w9 ⟨rfl, hb⟩
  have HB9 : Hid (Below w.heap.size w w9) := HB8.out.trans (hb.mono HB8.out.size)
  have HS9 : Hid (Std w9) := HS8.out.below hb
  clear hb
  go_wp2_with fail
  refine (same_nil _).mono ?_
  rintro e w10 ⟨rfl, hb⟩
  have HB10 : Hid (Below w.heap.size w w10) := HB9.out.trans (hb.mono HB9.out.size)
  have HS10 : Hid (Std w10) := HS9.out.below hb
  clear hb
  go_wp2_with fail
  refine (name_tot p _ HS10.out HP.out).mono ?_
  rintro e w11 ⟨a, rfl, ha, hb⟩
  have HA : Hid (a.data.toList = Pl.name p.data.toList) := ha
  clear ha
  have HB11 : Hid (Below w.heap.size w w11) := HB10.out.trans (hb.mono HB10.out.size)
  have HS11 : Hid (Std w11) := HS10.out.below hb
  clear hb
  go_wp2_with fail
  refine (refName_tot p _ HP.out).mono ?_
  rintro e w12 ⟨a', rfl, ha, hb⟩
  obtain rfl : a' = a := ByteArray.ext (Array.toList_inj.1 (ha.trans HA.out.symm))
  clear ha HA
  have HB12 : Hid (Below w.heap.size w w12) := HB11.out.trans (hb.mono HB11.out.size)
  have HS12 : Hid (Std w12) := HS11.out.below hb
  clear hb
  go_wp2_with fail
  refine (top_tot p _ HS12.out HP.out).mono ?_
  rintro e w13 ⟨c, rfl, hc, hb⟩
  have HCC : Hid (c.data.toList = Pl.top p.data.toList) := hc
  clear hc
  have HB13 : Hid (Below w.heap.size w w13) := HB12.out.trans (hb.mono HB12.out.size)
  have HS13 : Hid (Std w13) := HS12.out.below hb
  clear hb
  go_wp2_with fail
  refine (refTop_tot p _ HP.out).mono ?_
  rintro e w14 ⟨c', rfl, hc, hb⟩
  obtain rfl : c' = c := ByteArray.ext (Array.toList_inj.1 (hc.trans HCC.out.symm))
  clear hc HCC
  have HB14 : Hid (Below w.heap.size w w14) := HB13.out.trans (hb.mono HB13.out.size)
  have HS14 : Hid (Std w14) := HS13.out.below hb
  clear hb
  go_wp2_with fail
  refine (within_any p q _ HS14.out HP.out HQ.out).mono ?_
  rintro e w15 ⟨rfl, hb⟩
  rw [← HW.out]
  have HB15 : Hid (Below w.heap.size w w15) := HB14.out.trans (hb.mono HB14.out.size)
  have HS15 : Hid (Std w15) := HS14.out.below hb
  clear hb
  go_wp2_with fail
  refine (refWithin_any p q _ HP.out HQ.out).mono ?_
  rintro e w16 ⟨rfl, hb⟩
  rw [← HW.out]
  have HB16 : Hid (Below w.heap.size w w16) := HB15.out.trans (hb.mono HB15.out.size)
  have HS16 : Hid (Std w16) := HS15.out.below hb
  clear hb
  go_wp2
  go_ret
  exact ⟨rfl, HB16.out⟩

set_option maxHeartbeats 2000000 in
theorem says_rest01 (p q : ByteArray) (n : Int) (w : World) (hS : Std w) (hp : p.size ≤ maxLen) (hq : q.size ≤ maxLen) (h1 : ¬ 400 < (p.size : Int)) (h2 : ¬ 400 < (q.size : Int)) (hg : Pl.goodB p.data.toList = false) (hm : numB p.data.toList n = true) :
    Calls Tryd.prog 4 #[.string p, .string q, .int .i64 n] w fun e w' => e = .returned (.bool true) ∧ Below w.heap.size w w' := by
  have HS : Hid (Std w) := hS
  have HP : Hid (p.size ≤ maxLen) := hp
  have HQ : Hid (q.size ≤ maxLen) := hq
  unfold maxLen at hp hq
  have _ := HP
  have _ := HQ
  clear hS
  have HG : Hid (Pl.goodB p.data.toList = false) := hg
  have HM : Hid (numB p.data.toList n = true) := hm
  obtain ⟨bo, hbo⟩ : ∃ bo, bo = decide (2 ≤ (Pl.parts p.data.toList).length) := ⟨_, rfl⟩
  have HT : Hid (bo = decide (2 ≤ (Pl.parts p.data.toList).length)) := hbo
  obtain ⟨wo, hwo⟩ : ∃ wo, wo = Pl.withinB p.data.toList q.data.toList := ⟨_, rfl⟩
  have HW : Hid (wo = Pl.withinB p.data.toList q.data.toList) := hwo
  clear hg hm hbo hwo
  go_enter Tryd.func4, Tryd.ntmps4
  go_wp2_with fail
  refine (awake_any _ HS.out).mono ?_
  rintro e w1 ⟨rfl, hb⟩
  have HB1 : Hid (Below w.heap.size w w1) := hb
  have HS1 : Hid (Std w1) := HS.out.below hb
  clear hb
  go_wp2_with fail
  refine (parent_tot p _ HS1.out HP.out).mono ?_
  rintro e w2 ⟨u, rfl, hu, hb⟩
  rw [← HT.out]
  have HU : Hid (u.data.toList = parentT p.data.toList) := hu
  clear hu
  have HB2 : Hid (Below w.heap.size w w2) := HB1.out.trans (hb.mono HB1.out.size)
  have HS2 : Hid (Std w2) := HS1.out.below hb
  clear hb
  go_wp2_with fail
  refine (refParent_tot p _ HP.out).mono ?_
  rintro e w3 ⟨v, rfl, hv, hb⟩
  rw [← HT.out]
  obtain rfl : v = u := ByteArray.ext (Array.toList_inj.1 (hv.trans HU.out.symm))
  clear hv HU
  have HB3 : Hid (Below w.heap.size w w3) := HB2.out.trans (hb.mono HB2.out.size)
  have HS3 : Hid (Std w3) := HS2.out.below hb
  clear hb
  go_wp2_with fail
  refine (number_tot1 p n _ HS3.out HM.out).mono ?_
  rintro e w4 ⟨x, rfl, hx, hb⟩
  have HX : Hid (x.data.toList = p.data.toList ++ Pl.dig10 n.toNat) := hx
  clear hx
  have HB4 : Hid (Below w.heap.size w w4) := HB3.out.trans (hb.mono HB3.out.size)
  have HS4 : Hid (Std w4) := HS3.out.below hb
  clear hb
  go_wp2_with fail
  refine (refNumber_tot1 p n _ HM.out).mono ?_
  rintro e w5 ⟨y, rfl, hy, hb⟩
  obtain rfl : y = x := ByteArray.ext (Array.toList_inj.1 (hy.trans HX.out.symm))
  clear hy HX
  have HB5 : Hid (Below w.heap.size w w5) := HB4.out.trans (hb.mono HB4.out.size)
  have HS5 : Hid (Std w5) := HS4.out.below hb
  clear hb
  go_wp2_with fail
  refine (good_any p _ HS5.out HP.out).mono ?_
  rintro e w6 ⟨rfl, hb⟩
  rw [HG.out]
  have HB6 : Hid (Below w.heap.size w w6) := HB5.out.trans (hb.mono HB5.out.size)
  have HS6 : Hid (Std w6) := HS5.out.below hb
  clear hb
  go_wp2_with fail
  refine (refGood_any p _ HP.out).mono ?_
  rintro e w7 ⟨rfl, hb⟩
  rw [HG.out]
  have HB7 : Hid (Below w.heap.size w w7) := HB6.out.trans (hb.mono HB6.out.size)
  have HS7 : Hid (Std w7) := HS6.out.below hb
  clear hb
  go_wp2_with fail
  refine (parts_bad p _ HS7.out HP.out HG.out).mono ?_
  rintro e w8 ⟨rfl, hb⟩
  have HB8 : Hid (Below w.heap.size w w8) := HB7.out.trans (hb.mono HB7.out.size)
  have HS8 : Hid (Std w8) := HS7.out.below hb
  clear hb
  go_wp2_with fail
  refine (refParts_bad p _ HP.out HG.out).mono ?_
  rintro e w9 ⟨rfl, hb⟩
  have HB9 : Hid (Below w.heap.size w w9) := HB8.out.trans (hb.mono HB8.out.size)
  have HS9 : Hid (Std w9) := HS8.out.below hb
  clear hb
  go_wp2_with fail
  refine (same_nil _).mono ?_
  rintro e w10 ⟨rfl, hb⟩
  have HB10 : Hid (Below w.heap.size w w10) := HB9.out.trans (hb.mono HB9.out.size)
  have HS10 : Hid (Std w10) := HS9.out.below hb
  clear hb
  go_wp2_with fail
  refine (name_tot p _ HS10.out HP.out).mono ?_
  rintro e w11 ⟨a, rfl, ha, hb⟩
  have HA : Hid (a.data.toList = Pl.name p.data.toList) := ha
  clear ha
  have HB11 : Hid (Below w.heap.size w w11) := HB10.out.trans (hb.mono HB10.out.size)
  have HS11 : Hid (Std w11) := HS10.out.below hb
  clear hb
  go_wp2_with fail
  refine (refName_tot p _ HP.out).mono ?_
  rintro e w12 ⟨a', rfl, ha, hb⟩
  obtain rfl : a' = a := ByteArray.ext (Array.toList_inj.1 (ha.trans HA.out.symm))
  clear ha HA
  have HB12 : Hid (Below w.heap.size w w12) := HB11.out.trans (hb.mono HB11.out.size)
  have HS12 : Hid (Std w12) := HS11.out.below hb
  clear hb
  go_wp2_with fail
  refine (top_tot p _ HS12.out HP.out).mono ?_
  rintro e w13 ⟨c, rfl, hc, hb⟩
  have HCC : Hid (c.data.toList = Pl.top p.data.toList) := hc
  clear hc
  have HB13 : Hid (Below w.heap.size w w13) := HB12.out.trans (hb.mono HB12.out.size)
  have HS13 : Hid (Std w13) := HS12.out.below hb
  clear hb
  go_wp2_with fail
  refine (refTop_tot p _ HP.out).mono ?_
  rintro e w14 ⟨c', rfl, hc, hb⟩
  obtain rfl : c' = c := ByteArray.ext (Array.toList_inj.1 (hc.trans HCC.out.symm))
  clear hc HCC
  have HB14 : Hid (Below w.heap.size w w14) := HB13.out.trans (hb.mono HB13.out.size)
  have HS14 : Hid (Std w14) := HS13.out.below hb
  clear hb
  go_wp2_with fail
  refine (within_any p q _ HS14.out HP.out HQ.out).mono ?_
  rintro e w15 ⟨rfl, hb⟩
  rw [← HW.out]
  have HB15 : Hid (Below w.heap.size w w15) := HB14.out.trans (hb.mono HB14.out.size)
  have HS15 : Hid (Std w15) := HS14.out.below hb
  clear hb
  go_wp2_with fail
  refine (refWithin_any p q _ HP.out HQ.out).mono ?_
  rintro e w16 ⟨rfl, hb⟩
  rw [← HW.out]
  have HB16 : Hid (Below w.heap.size w w16) := HB15.out.trans (hb.mono HB15.out.size)
  have HS16 : Hid (Std w16) := HS15.out.below hb
  clear hb
  go_wp2
  go_ret
  exact ⟨rfl, HB16.out⟩

set_option maxHeartbeats 2000000 in
theorem says_rest10 (p q : ByteArray) (n : Int) (w : World) (hS : Std w) (hp : p.size ≤ maxLen) (hq : q.size ≤ maxLen) (h1 : ¬ 400 < (p.size : Int)) (h2 : ¬ 400 < (q.size : Int)) (hg : Pl.goodB p.data.toList = true) (hm : numB p.data.toList n = false) :
    Calls Tryd.prog 4 #[.string p, .string q, .int .i64 n] w fun e w' => e = .returned (.bool true) ∧ Below w.heap.size w w' := by
  have HS : Hid (Std w) := hS
  have HP : Hid (p.size ≤ maxLen) := hp
  have HQ : Hid (q.size ≤ maxLen) := hq
  unfold maxLen at hp hq
  have _ := HP
  have _ := HQ
  clear hS
  have HG : Hid (Pl.goodB p.data.toList = true) := hg
  have HM : Hid (numB p.data.toList n = false) := hm
  obtain ⟨bo, hbo⟩ : ∃ bo, bo = decide (2 ≤ (Pl.parts p.data.toList).length) := ⟨_, rfl⟩
  have HT : Hid (bo = decide (2 ≤ (Pl.parts p.data.toList).length)) := hbo
  obtain ⟨wo, hwo⟩ : ∃ wo, wo = Pl.withinB p.data.toList q.data.toList := ⟨_, rfl⟩
  have HW : Hid (wo = Pl.withinB p.data.toList q.data.toList) := hwo
  clear hg hm hbo hwo
  go_enter Tryd.func4, Tryd.ntmps4
  go_wp2_with fail
  refine (awake_any _ HS.out).mono ?_
  rintro e w1 ⟨rfl, hb⟩
  have HB1 : Hid (Below w.heap.size w w1) := hb
  have HS1 : Hid (Std w1) := HS.out.below hb
  clear hb
  go_wp2_with fail
  refine (parent_tot p _ HS1.out HP.out).mono ?_
  rintro e w2 ⟨u, rfl, hu, hb⟩
  rw [← HT.out]
  have HU : Hid (u.data.toList = parentT p.data.toList) := hu
  clear hu
  have HB2 : Hid (Below w.heap.size w w2) := HB1.out.trans (hb.mono HB1.out.size)
  have HS2 : Hid (Std w2) := HS1.out.below hb
  clear hb
  go_wp2_with fail
  refine (refParent_tot p _ HP.out).mono ?_
  rintro e w3 ⟨v, rfl, hv, hb⟩
  rw [← HT.out]
  obtain rfl : v = u := ByteArray.ext (Array.toList_inj.1 (hv.trans HU.out.symm))
  clear hv HU
  have HB3 : Hid (Below w.heap.size w w3) := HB2.out.trans (hb.mono HB2.out.size)
  have HS3 : Hid (Std w3) := HS2.out.below hb
  clear hb
  go_wp2_with fail
  refine (number_tot0 p n _ HS3.out HP.out HM.out).mono ?_
  rintro e w4 ⟨rfl, hb⟩
  have HB4 : Hid (Below w.heap.size w w4) := HB3.out.trans (hb.mono HB3.out.size)
  have HS4 : Hid (Std w4) := HS3.out.below hb
  clear hb
  go_wp2_with fail
  refine (refNumber_tot0 p n _ HP.out HM.out).mono ?_
  rintro e w5 ⟨rfl, hb⟩
  have HB5 : Hid (Below w.heap.size w w5) := HB4.out.trans (hb.mono HB4.out.size)
  have HS5 : Hid (Std w5) := HS4.out.below hb
  clear hb
  go_wp2_with fail
  refine (good_any p _ HS5.out HP.out).mono ?_
  rintro e w6 ⟨rfl, hb⟩
  rw [HG.out]
  have HB6 : Hid (Below w.heap.size w w6) := HB5.out.trans (hb.mono HB5.out.size)
  have HS6 : Hid (Std w6) := HS5.out.below hb
  clear hb
  go_wp2_with fail
  refine (refGood_any p _ HP.out).mono ?_
  rintro e w7 ⟨rfl, hb⟩
  rw [HG.out]
  have HB7 : Hid (Below w.heap.size w w7) := HB6.out.trans (hb.mono HB6.out.size)
  have HS7 : Hid (Std w7) := HS6.out.below hb
  clear hb
  go_wp2_with fail
  refine (parts_good p _ HS7.out HG.out).mono ?_
  rintro e w8 ⟨xs, rfl, hxs, hrow⟩
  have hb := hrow.below
  have HR : Hid (Row w7 w8 w7.heap.size xs) := hrow
  have HXS : Hid (xs.map (·.data.toList) = Pl.parts p.data.toList) := hxs
  clear hrow hxs
  have HB8 : Hid (Below w.heap.size w w8) := HB7.out.trans (hb.mono HB7.out.size)
  have HS8 : Hid (Std w8) := HS7.out.below hb
  clear hb
  go_wp2_with fail
  refine (refParts_good p _ HG.out).mono ?_
  rintro e w9 ⟨g, cap, ys, rfl, _, hys, hrow⟩
  have hb := hrow.below
  obtain rfl : xs = ys := rows_same (HXS.out.trans hys.symm)
  have HR2 : Hid (Row w8 w9 g xs) := hrow
  have HL : Hid (xs.length ≤ 8) := by
    have h8 := (parts_len HG.out).2
    rw [← hys, List.length_map] at h8
    exact h8
  have HC : Hid (∀ (j : Nat) x, xs[j]? = some x → w9.cell? ⟨w7.heap.size, 0 + j, none⟩ = some (.string x)) := fun j x hx => (hrow.below.cell (p := ⟨w7.heap.size, 0 + j, none⟩) HR.out.hi).trans (HR.out.cells j x hx)
  have HHI : Hid (w7.heap.size < w9.heap.size) := Nat.lt_of_lt_of_le HR.out.hi hrow.below.size
  clear hrow hys
  have HB9 : Hid (Below w.heap.size w w9) := HB8.out.trans (hb.mono HB8.out.size)
  have HS9 : Hid (Std w9) := HS8.out.below hb
  clear hb
  go_wp2_with fail
  refine (same_rows xs _ _ _ _ _ HL.out HC.out HR2.out.cells HHI.out HR2.out.hi).mono ?_
  rintro e w10 ⟨rfl, hb⟩
  have HB10 : Hid (Below w.heap.size w w10) := HB9.out.trans (hb.mono HB9.out.size)
  have HS10 : Hid (Std w10) := HS9.out.below hb
  clear hb
  go_wp2_with fail
  refine (name_tot p _ HS10.out HP.out).mono ?_
  rintro e w11 ⟨a, rfl, ha, hb⟩
  have HA : Hid (a.data.toList = Pl.name p.data.toList) := ha
  clear ha
  have HB11 : Hid (Below w.heap.size w w11) := HB10.out.trans (hb.mono HB10.out.size)
  have HS11 : Hid (Std w11) := HS10.out.below hb
  clear hb
  go_wp2_with fail
  refine (refName_tot p _ HP.out).mono ?_
  rintro e w12 ⟨a', rfl, ha, hb⟩
  obtain rfl : a' = a := ByteArray.ext (Array.toList_inj.1 (ha.trans HA.out.symm))
  clear ha HA
  have HB12 : Hid (Below w.heap.size w w12) := HB11.out.trans (hb.mono HB11.out.size)
  have HS12 : Hid (Std w12) := HS11.out.below hb
  clear hb
  go_wp2_with fail
  refine (top_tot p _ HS12.out HP.out).mono ?_
  rintro e w13 ⟨c, rfl, hc, hb⟩
  have HCC : Hid (c.data.toList = Pl.top p.data.toList) := hc
  clear hc
  have HB13 : Hid (Below w.heap.size w w13) := HB12.out.trans (hb.mono HB12.out.size)
  have HS13 : Hid (Std w13) := HS12.out.below hb
  clear hb
  go_wp2_with fail
  refine (refTop_tot p _ HP.out).mono ?_
  rintro e w14 ⟨c', rfl, hc, hb⟩
  obtain rfl : c' = c := ByteArray.ext (Array.toList_inj.1 (hc.trans HCC.out.symm))
  clear hc HCC
  have HB14 : Hid (Below w.heap.size w w14) := HB13.out.trans (hb.mono HB13.out.size)
  have HS14 : Hid (Std w14) := HS13.out.below hb
  clear hb
  go_wp2_with fail
  refine (within_any p q _ HS14.out HP.out HQ.out).mono ?_
  rintro e w15 ⟨rfl, hb⟩
  rw [← HW.out]
  have HB15 : Hid (Below w.heap.size w w15) := HB14.out.trans (hb.mono HB14.out.size)
  have HS15 : Hid (Std w15) := HS14.out.below hb
  clear hb
  go_wp2_with fail
  refine (refWithin_any p q _ HP.out HQ.out).mono ?_
  rintro e w16 ⟨rfl, hb⟩
  rw [← HW.out]
  have HB16 : Hid (Below w.heap.size w w16) := HB15.out.trans (hb.mono HB15.out.size)
  have HS16 : Hid (Std w16) := HS15.out.below hb
  clear hb
  go_wp2
  go_ret
  exact ⟨rfl, HB16.out⟩

set_option maxHeartbeats 2000000 in
theorem says_rest11 (p q : ByteArray) (n : Int) (w : World) (hS : Std w) (hp : p.size ≤ maxLen) (hq : q.size ≤ maxLen) (h1 : ¬ 400 < (p.size : Int)) (h2 : ¬ 400 < (q.size : Int)) (hg : Pl.goodB p.data.toList = true) (hm : numB p.data.toList n = true) :
    Calls Tryd.prog 4 #[.string p, .string q, .int .i64 n] w fun e w' => e = .returned (.bool true) ∧ Below w.heap.size w w' := by
  have HS : Hid (Std w) := hS
  have HP : Hid (p.size ≤ maxLen) := hp
  have HQ : Hid (q.size ≤ maxLen) := hq
  unfold maxLen at hp hq
  have _ := HP
  have _ := HQ
  clear hS
  have HG : Hid (Pl.goodB p.data.toList = true) := hg
  have HM : Hid (numB p.data.toList n = true) := hm
  obtain ⟨bo, hbo⟩ : ∃ bo, bo = decide (2 ≤ (Pl.parts p.data.toList).length) := ⟨_, rfl⟩
  have HT : Hid (bo = decide (2 ≤ (Pl.parts p.data.toList).length)) := hbo
  obtain ⟨wo, hwo⟩ : ∃ wo, wo = Pl.withinB p.data.toList q.data.toList := ⟨_, rfl⟩
  have HW : Hid (wo = Pl.withinB p.data.toList q.data.toList) := hwo
  clear hg hm hbo hwo
  go_enter Tryd.func4, Tryd.ntmps4
  go_wp2_with fail
  refine (awake_any _ HS.out).mono ?_
  rintro e w1 ⟨rfl, hb⟩
  have HB1 : Hid (Below w.heap.size w w1) := hb
  have HS1 : Hid (Std w1) := HS.out.below hb
  clear hb
  go_wp2_with fail
  refine (parent_tot p _ HS1.out HP.out).mono ?_
  rintro e w2 ⟨u, rfl, hu, hb⟩
  rw [← HT.out]
  have HU : Hid (u.data.toList = parentT p.data.toList) := hu
  clear hu
  have HB2 : Hid (Below w.heap.size w w2) := HB1.out.trans (hb.mono HB1.out.size)
  have HS2 : Hid (Std w2) := HS1.out.below hb
  clear hb
  go_wp2_with fail
  refine (refParent_tot p _ HP.out).mono ?_
  rintro e w3 ⟨v, rfl, hv, hb⟩
  rw [← HT.out]
  obtain rfl : v = u := ByteArray.ext (Array.toList_inj.1 (hv.trans HU.out.symm))
  clear hv HU
  have HB3 : Hid (Below w.heap.size w w3) := HB2.out.trans (hb.mono HB2.out.size)
  have HS3 : Hid (Std w3) := HS2.out.below hb
  clear hb
  go_wp2_with fail
  refine (number_tot1 p n _ HS3.out HM.out).mono ?_
  rintro e w4 ⟨x, rfl, hx, hb⟩
  have HX : Hid (x.data.toList = p.data.toList ++ Pl.dig10 n.toNat) := hx
  clear hx
  have HB4 : Hid (Below w.heap.size w w4) := HB3.out.trans (hb.mono HB3.out.size)
  have HS4 : Hid (Std w4) := HS3.out.below hb
  clear hb
  go_wp2_with fail
  refine (refNumber_tot1 p n _ HM.out).mono ?_
  rintro e w5 ⟨y, rfl, hy, hb⟩
  obtain rfl : y = x := ByteArray.ext (Array.toList_inj.1 (hy.trans HX.out.symm))
  clear hy HX
  have HB5 : Hid (Below w.heap.size w w5) := HB4.out.trans (hb.mono HB4.out.size)
  have HS5 : Hid (Std w5) := HS4.out.below hb
  clear hb
  go_wp2_with fail
  refine (good_any p _ HS5.out HP.out).mono ?_
  rintro e w6 ⟨rfl, hb⟩
  rw [HG.out]
  have HB6 : Hid (Below w.heap.size w w6) := HB5.out.trans (hb.mono HB5.out.size)
  have HS6 : Hid (Std w6) := HS5.out.below hb
  clear hb
  go_wp2_with fail
  refine (refGood_any p _ HP.out).mono ?_
  rintro e w7 ⟨rfl, hb⟩
  rw [HG.out]
  have HB7 : Hid (Below w.heap.size w w7) := HB6.out.trans (hb.mono HB6.out.size)
  have HS7 : Hid (Std w7) := HS6.out.below hb
  clear hb
  go_wp2_with fail
  refine (parts_good p _ HS7.out HG.out).mono ?_
  rintro e w8 ⟨xs, rfl, hxs, hrow⟩
  have hb := hrow.below
  have HR : Hid (Row w7 w8 w7.heap.size xs) := hrow
  have HXS : Hid (xs.map (·.data.toList) = Pl.parts p.data.toList) := hxs
  clear hrow hxs
  have HB8 : Hid (Below w.heap.size w w8) := HB7.out.trans (hb.mono HB7.out.size)
  have HS8 : Hid (Std w8) := HS7.out.below hb
  clear hb
  go_wp2_with fail
  refine (refParts_good p _ HG.out).mono ?_
  rintro e w9 ⟨g, cap, ys, rfl, _, hys, hrow⟩
  have hb := hrow.below
  obtain rfl : xs = ys := rows_same (HXS.out.trans hys.symm)
  have HR2 : Hid (Row w8 w9 g xs) := hrow
  have HL : Hid (xs.length ≤ 8) := by
    have h8 := (parts_len HG.out).2
    rw [← hys, List.length_map] at h8
    exact h8
  have HC : Hid (∀ (j : Nat) x, xs[j]? = some x → w9.cell? ⟨w7.heap.size, 0 + j, none⟩ = some (.string x)) := fun j x hx => (hrow.below.cell (p := ⟨w7.heap.size, 0 + j, none⟩) HR.out.hi).trans (HR.out.cells j x hx)
  have HHI : Hid (w7.heap.size < w9.heap.size) := Nat.lt_of_lt_of_le HR.out.hi hrow.below.size
  clear hrow hys
  have HB9 : Hid (Below w.heap.size w w9) := HB8.out.trans (hb.mono HB8.out.size)
  have HS9 : Hid (Std w9) := HS8.out.below hb
  clear hb
  go_wp2_with fail
  refine (same_rows xs _ _ _ _ _ HL.out HC.out HR2.out.cells HHI.out HR2.out.hi).mono ?_
  rintro e w10 ⟨rfl, hb⟩
  have HB10 : Hid (Below w.heap.size w w10) := HB9.out.trans (hb.mono HB9.out.size)
  have HS10 : Hid (Std w10) := HS9.out.below hb
  clear hb
  go_wp2_with fail
  refine (name_tot p _ HS10.out HP.out).mono ?_
  rintro e w11 ⟨a, rfl, ha, hb⟩
  have HA : Hid (a.data.toList = Pl.name p.data.toList) := ha
  clear ha
  have HB11 : Hid (Below w.heap.size w w11) := HB10.out.trans (hb.mono HB10.out.size)
  have HS11 : Hid (Std w11) := HS10.out.below hb
  clear hb
  go_wp2_with fail
  refine (refName_tot p _ HP.out).mono ?_
  rintro e w12 ⟨a', rfl, ha, hb⟩
  obtain rfl : a' = a := ByteArray.ext (Array.toList_inj.1 (ha.trans HA.out.symm))
  clear ha HA
  have HB12 : Hid (Below w.heap.size w w12) := HB11.out.trans (hb.mono HB11.out.size)
  have HS12 : Hid (Std w12) := HS11.out.below hb
  clear hb
  go_wp2_with fail
  refine (top_tot p _ HS12.out HP.out).mono ?_
  rintro e w13 ⟨c, rfl, hc, hb⟩
  have HCC : Hid (c.data.toList = Pl.top p.data.toList) := hc
  clear hc
  have HB13 : Hid (Below w.heap.size w w13) := HB12.out.trans (hb.mono HB12.out.size)
  have HS13 : Hid (Std w13) := HS12.out.below hb
  clear hb
  go_wp2_with fail
  refine (refTop_tot p _ HP.out).mono ?_
  rintro e w14 ⟨c', rfl, hc, hb⟩
  obtain rfl : c' = c := ByteArray.ext (Array.toList_inj.1 (hc.trans HCC.out.symm))
  clear hc HCC
  have HB14 : Hid (Below w.heap.size w w14) := HB13.out.trans (hb.mono HB13.out.size)
  have HS14 : Hid (Std w14) := HS13.out.below hb
  clear hb
  go_wp2_with fail
  refine (within_any p q _ HS14.out HP.out HQ.out).mono ?_
  rintro e w15 ⟨rfl, hb⟩
  rw [← HW.out]
  have HB15 : Hid (Below w.heap.size w w15) := HB14.out.trans (hb.mono HB14.out.size)
  have HS15 : Hid (Std w15) := HS14.out.below hb
  clear hb
  go_wp2_with fail
  refine (refWithin_any p q _ HP.out HQ.out).mono ?_
  rintro e w16 ⟨rfl, hb⟩
  rw [← HW.out]
  have HB16 : Hid (Below w.heap.size w w16) := HB15.out.trans (hb.mono HB15.out.size)
  have HS16 : Hid (Std w16) := HS15.out.below hb
  clear hb
  go_wp2
  go_ret
  exact ⟨rfl, HB16.out⟩

theorem says_any (p q : ByteArray) (n : Int) (w : World) (hS : Std w) (hp : p.size ≤ maxLen) (hq : q.size ≤ maxLen) :
    Calls Tryd.prog 4 #[.string p, .string q, .int .i64 n] w fun e w' => e = .returned (.bool true) ∧ Below w.heap.size w w' := by
  by_cases h1 : 400 < (p.size : Int)
  · exact says_long p q n w hS hp hq h1
  by_cases h2 : 400 < (q.size : Int)
  · exact says_long2 p q n w hS hp hq h1 h2
  cases hg : Pl.goodB p.data.toList with
  | false =>
    cases hm : numB p.data.toList n with
    | false => exact says_rest00 p q n w hS hp hq h1 h2 hg hm
    | true => exact says_rest01 p q n w hS hp hq h1 h2 hg hm
  | true =>
    cases hm : numB p.data.toList n with
    | false => exact says_rest10 p q n w hS hp hq h1 h2 hg hm
    | true => exact says_rest11 p q n w hS hp hq h1 h2 hg hm
end Go.Proofs.YtmmbomlpkjgclaaDoor
