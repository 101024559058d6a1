/- What path.Number and path.Join answer. -/
import Derived.Test.YtcpajjjkhikipaaDoorPaWTop
namespace Go.Proofs.YtcpajjjkhikipaaDoor.Pa
open Go.RowKit

theorem below_grow (w : World) (k : Nat) (os : Array Obj) : Below w.heap.size w (Sort.grow (w.drewN k) os) :=
  ⟨rfl, rfl, rfl, by show w.heap.size ≤ (w.heap ++ os).size; rw [Array.size_append]; omega, fun j hj => by show (w.heap ++ os)[j]? = w.heap[j]?; exact Array.getElem?_append_left hj⟩

theorem itoa_any (n : Int) (h0 : 0 ≤ n) (h1 : n ≤ 2147483647) (w : World) (hS : Std w) :
    Calls Tryd.prog 41 #[.int .i64 n] w fun e w' => ∃ x : ByteArray, e = .returned (.string x) ∧ x.data.toList = Lib.decDigits n.toNat ∧ Below w.heap.size w w' := by
  refine (Tryd.strconv_Itoa n (by omega) (by omega) w hS.tab).mono ?_
  rintro e w' ⟨rfl, k, os, rfl⟩
  exact ⟨_, rfl, by rw [Lib.itoa, if_neg (by omega)], below_grow w k os⟩

theorem zeros_any (c : Int) (w : World) (h0 : 0 ≤ c) (h1 : c ≤ 10) :
    Calls Tryd.prog 42 #[.string ⟨#[48]⟩, .int .i64 c] w fun e w' => ∃ x : ByteArray, e = .returned (.string x) ∧ x.data.toList = List.replicate c.toNat 48 ∧ Below w.heap.size w w' := by
  obtain ⟨k, rfl⟩ := Int.eq_ofNat_of_zero_le h0
  refine (Tryd.strings_Repeat ⟨#[48]⟩ k w (by omega) (by show 1 * k ≤ _; omega)).mono ?_
  rintro e w' ⟨rfl, hb⟩
  refine ⟨_, rfl, ?_, hb⟩
  show Lib.repeatL [48] k = _
  have := Lib.repeatL_replicate 48 1 k
  simpa using this

theorem digits_le {n : Nat} (h : n ≤ 2147483647) : (Lib.decDigits n).length ≤ 10 := by
  rw [Lib.decDigits_eq, List.length_map, List.length_range]
  exact Pl.nDigits_le 9 n (by omega)

set_option maxRecDepth 20000 in
set_option maxHeartbeats 400000 in
theorem number_no (p : ByteArray) (n : Int) (w : World) (hS : Std w) (hp : p.size ≤ maxLen) (hn : Pl.goodB p.data.toList = false ∨ n < 0 ∨ 2147483647 < n) :
    Calls Tryd.prog 38 #[.string p, .int .i64 n] w fun e w' => e = .returned (.tuple #[.string ⟨#[]⟩, .int .i64 1]) ∧ Below w.heap.size w w' := by
  have HS : Hid (Std w) := hS
  have HP : Hid (p.size ≤ maxLen) := hp
  clear hS hp
  cases hg : Pl.goodB p.data.toList with
  | false =>
    have HG : Hid (Pl.goodB p.data.toList = false) := hg
    clear hg hn
    go_enter Tryd.func38, Tryd.ntmps38
    go_wp2_with fail
    refine (good_any p _ HS.out HP.out).mono ?_
    rintro e w1 ⟨rfl, hb⟩
    rw [HG.out]
    have HB : Hid (Below w.heap.size w w1) := hb
    clear hb
    go_wp2
    go_ret2
    exact ⟨rfl, HB.out⟩
  | true =>
    have hn' : n < 0 ∨ 2147483647 < n := by
      rcases hn with h | h
      · rw [hg] at h; cases h
      · exact h
    have HG : Hid (Pl.goodB p.data.toList = true) := hg
    clear hg hn
    rcases hn' with hn | hn
    · go_enter Tryd.func38, Tryd.ntmps38
      go_wp2_with fail
      refine (good_any p _ HS.out HP.out).mono ?_
      rintro e w1 ⟨rfl, hb⟩
      rw [HG.out]
      have HB : Hid (Below w.heap.size w w1) := hb
      clear hb
      go_wp2
      go_ret2
      exact ⟨rfl, HB.out⟩
    · have hn0 : ¬ n < 0 := by omega
      go_enter Tryd.func38, Tryd.ntmps38
      go_wp2_with fail
      refine (good_any p _ HS.out HP.out).mono ?_
      rintro e w1 ⟨rfl, hb⟩
      rw [HG.out]
      have HB : Hid (Below w.heap.size w w1) := hb
      clear hb
      go_wp2
      go_ret2
      exact ⟨rfl, HB.out⟩

set_option maxRecDepth 20000 in
set_option maxHeartbeats 400000 in
theorem number_any (p : ByteArray) (n : Int) (w : World) (hS : Std w) (hg : Pl.goodB p.data.toList = true) (h0 : 0 ≤ n) (h1 : n ≤ 2147483647) :
    Calls Tryd.prog 38 #[.string p, .int .i64 n] w fun e w' => (∃ x : ByteArray, e = .returned (.tuple #[.string x, .int .i64 0]) ∧ x.data.toList = p.data.toList ++ Pl.dig10 n.toNat ∧ Pl.goodB (p.data.toList ++ Pl.dig10 n.toNat) = true ∧ Below w.heap.size w w') ∨
      (e = .returned (.tuple #[.string ⟨#[]⟩, .int .i64 1]) ∧ Pl.goodB (p.data.toList ++ Pl.dig10 n.toNat) = false ∧ Below w.heap.size w w') := by
  have HS : Hid (Std w) := hS
  have HG : Hid (Pl.goodB p.data.toList = true) := hg
  have hsz := (Pl.good_parts hg).2.2
  rw [sz_list] at hsz
  have HP : Hid (p.size ≤ maxLen) := by unfold maxLen; show p.size ≤ 2 ^ 63 - 1; omega
  obtain ⟨t, ht⟩ : ∃ t, t = p.data.toList ++ Pl.dig10 n.toNat := ⟨_, rfl⟩
  rw [← ht]
  have HT : Hid (t = p.data.toList ++ Pl.dig10 n.toNat) := ht
  have HD : Hid ((Lib.decDigits n.toNat).length ≤ 10) := digits_le (by omega)
  clear hS hg ht
  have hn0 : ¬ n < 0 := by omega
  have hn1 : ¬ 2147483647 < n := by omega
  go_enter Tryd.func38, Tryd.ntmps38
  go_wp2_with fail
  refine (good_any p _ HS.out HP.out).mono ?_
  rintro e w1 ⟨rfl, hb⟩
  rw [HG.out]
  have HB : Hid (Below w.heap.size w w1) := hb
  have HS1 : Hid (Std w1) := HS.out.below hb
  clear hb
  go_wp2_with fail
  refine (itoa_any n h0 h1 _ HS1.out).mono ?_
  rintro e w2 ⟨x, rfl, hx, hb2⟩
  have hxs : x.size ≤ 10 := by rw [← sz_list, hx]; exact HD.out
  have HX : Hid (x.data.toList = Lib.decDigits n.toNat) := hx
  have HB2 : Hid (Below w1.heap.size w1 w2) := hb2
  have HS2 : Hid (Std w2) := HS1.out.below hb2
  clear hx hb2
  go_wp2_with fail
  refine (zeros_any _ _ (by omega) (by omega)).mono ?_
  rintro e w3 ⟨y, rfl, hy, hb3⟩
  have hys : y.size ≤ 10 := by rw [← sz_list, hy, List.length_replicate]; omega
  have HB3 : Hid (Below w2.heap.size w2 w3) := hb3
  have HS3 : Hid (Std w3) := HS2.out.below hb3
  have HY : Hid (y.data.toList = List.replicate (10 - x.size) 48) := by rw [hy]; congr 1; omega
  clear hy hb3
  go_wp2_with fail
  have hdata : (p ++ y ++ x).data.toList = t := by
    rw [data_append, data_append, HY.out, HX.out, HT.out, Pl.dig10, List.append_assoc, ← sz_list, HX.out]
  have HDA : Hid ((p ++ y ++ x).data.toList = t) := hdata
  have hts : (p ++ y ++ x).size ≤ 220 := by rw [ByteArray.size_append, ByteArray.size_append]; omega
  have HZ : Hid ((p ++ y ++ x).size ≤ maxLen) := by unfold maxLen; show (p ++ y ++ x).size ≤ 2 ^ 63 - 1; omega
  clear hdata hts
  refine (good_any (p ++ y ++ x) _ HS3.out HZ.out).mono ?_
  rintro e w4 ⟨rfl, hb4⟩
  rw [HDA.out]
  have HB4 : Hid (Below w.heap.size w w4) := HB.out.trans ((HB2.out.mono HB.out.size).trans ((HB3.out.mono (Nat.le_trans HB.out.size HB2.out.size)).trans (hb4.mono (Nat.le_trans HB.out.size (Nat.le_trans HB2.out.size HB3.out.size)))))
  clear hb4
  cases hg2 : Pl.goodB t with
  | false =>
    have HG2 : Hid (Pl.goodB t = false) := hg2
    clear hg2
    go_wp2
    go_ret2
    exact Or.inr ⟨rfl, HG2.out, HB4.out⟩
  | true =>
    have HG2 : Hid (Pl.goodB t = true) := hg2
    clear hg2
    go_wp2
    go_ret2
    exact Or.inl ⟨_, rfl, HDA.out, HG2.out, HB4.out⟩

end Go.Proofs.YtcpajjjkhikipaaDoor.Pa
