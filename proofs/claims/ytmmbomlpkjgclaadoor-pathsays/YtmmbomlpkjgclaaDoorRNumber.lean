/- What the reference's Number answers. -/
import Derived.Test.YtmmbomlpkjgclaaDoorRDigits
namespace Go.Proofs.YtmmbomlpkjgclaaDoor
open Go.RowKit

def lenOf : Value → Nat
  | .string s => s.size
  | _ => 0

set_option maxHeartbeats 400000 in
theorem refNumber_no (p : ByteArray) (n : Int) (w : World) (hp : p.size ≤ maxLen) (hn : Pl.goodB p.data.toList = false ∨ n < 0 ∨ 2147483647 < n) :
    Calls Tryd.prog 17 #[.string p, .int .i64 n] w fun e w' => e = .returned (.tuple #[.string ⟨#[]⟩, .bool false]) ∧ Below w.heap.size w w' := by
  have HP : Hid (p.size ≤ maxLen) := hp
  clear hp
  cases hg : Pl.goodB p.data.toList with
  | false =>
    have HG : Hid (Pl.goodB p.data.toList = false) := hg
    clear hg hn
    go_enter Tryd.func17, Tryd.ntmps17
    go_wp2_with fail
    refine (refGood_any p _ HP.out).mono ?_
    rintro e w1 ⟨rfl, hb⟩
    rw [HG.out]
    have HB : Hid (Below w.heap.size w w1) := hb
    clear hb
    go_wp2
    go_ret2
    exact ⟨rfl, HB.out⟩
  | true =>
    have hn' : n < 0 ∨ 2147483647 < n := by
      rcases hn with h | h
      · rw [hg] at h; cases h
      · exact h
    have HG : Hid (Pl.goodB p.data.toList = true) := hg
    clear hg hn
    rcases hn' with hn | hn
    · go_enter Tryd.func17, Tryd.ntmps17
      go_wp2_with fail
      refine (refGood_any p _ HP.out).mono ?_
      rintro e w1 ⟨rfl, hb⟩
      rw [HG.out]
      have HB : Hid (Below w.heap.size w w1) := hb
      clear hb
      go_wp2
      go_ret2
      exact ⟨rfl, HB.out⟩
    · have hn0 : ¬ n < 0 := by omega
      go_enter Tryd.func17, Tryd.ntmps17
      go_wp2_with fail
      refine (refGood_any p _ HP.out).mono ?_
      rintro e w1 ⟨rfl, hb⟩
      rw [HG.out]
      have HB : Hid (Below w.heap.size w w1) := hb
      clear hb
      go_wp2
      go_ret2
      exact ⟨rfl, HB.out⟩

theorem zeros_more (k n : Nat) : List.replicate (k + 1) (48 : UInt8) ++ Lib.decDigits n = 48 :: (List.replicate k 48 ++ Lib.decDigits n) := by
  rw [List.replicate_succ]; rfl

set_option maxHeartbeats 1000000 in
theorem refNumber_any (p : ByteArray) (n : Nat) (w : World) (hg : Pl.goodB p.data.toList = true) (h1 : n ≤ 2147483647) :
    Calls Tryd.prog 17 #[.string p, .int .i64 n] w fun e w' => (∃ x : ByteArray, e = .returned (.tuple #[.string x, .bool true]) ∧ x.data.toList = p.data.toList ++ Pl.dig10 n ∧ Pl.goodB (p.data.toList ++ Pl.dig10 n) = true ∧ Below w.heap.size w w') ∨
      (e = .returned (.tuple #[.string ⟨#[]⟩, .bool false]) ∧ Pl.goodB (p.data.toList ++ Pl.dig10 n) = false ∧ Below w.heap.size w w') := by
  have HG : Hid (Pl.goodB p.data.toList = true) := hg
  have hsz := (Pl.good_parts hg).2.2
  rw [sz_list] at hsz
  have HP : Hid (p.size ≤ maxLen) := by unfold maxLen; show p.size ≤ 2 ^ 63 - 1; omega
  obtain ⟨t, ht⟩ : ∃ t, t = p.data.toList ++ Pl.dig10 n := ⟨_, rfl⟩
  rw [← ht]
  have HT : Hid (t = p.data.toList ++ Pl.dig10 n) := ht
  have HD : Hid ((Lib.decDigits n).length ≤ 10) := digits_le (by omega)
  clear hg ht
  have hn0 : ¬ (n : Int) < 0 := by omega
  have hn1 : ¬ 2147483647 < (n : Int) := by omega
  go_enter Tryd.func17, Tryd.ntmps17
  go_wp2_with fail
  refine (refGood_any p _ HP.out).mono ?_
  rintro e w1 ⟨rfl, hb⟩
  rw [HG.out]
  have HB : Hid (Below w.heap.size w w1) := hb
  clear hb
  go_wp2_with fail
  refine (digits_any n h1 _ _ rfl).mono ?_
  rintro e w2 ⟨x0, rfl, hx0, hb2⟩
  have HX0 : Hid (x0.data.toList = Lib.decDigits n) := hx0
  have HB2 : Hid (Below w.heap.size w w2) := HB.out.trans (hb2.mono HB.out.size)
  clear hx0 hb2
  go_wp2_with fail
  go_loop [6] (fun d => ∃ (k : Nat) (x : ByteArray), d = .string x ∧ x.size ≤ 10 ∧ x.data.toList = List.replicate k 48 ++ Lib.decDigits n) (fun d => 10 - lenOf d)
  case atStart => exact ⟨0, x0, rfl, by rw [← sz_list, HX0.out]; exact HD.out, by rw [HX0.out]; rfl⟩
  case round =>
    obtain ⟨k, x, rfl, hx10, hx⟩ := hrel
    have HX : Hid (x.data.toList = List.replicate k 48 ++ Lib.decDigits n) := hx
    clear hx
    by_cases hlt : (x.size : Int) < 10
    · go_wp2
      go_round
      case rel => exact ⟨k + 1, _, rfl, by rw [ByteArray.size_append]; show 1 + x.size ≤ 10; omega, by rw [data_append, HX.out, zeros_more]; rfl⟩
      case measure =>
        show 10 - ((⟨#[48]⟩ : ByteArray) ++ x).size < 10 - x.size
        rw [ByteArray.size_append]
        show 10 - (1 + x.size) < 10 - x.size
        omega
    · have hd : x.data.toList = Pl.dig10 n := by
        have h2 := congrArg List.length HX.out
        rw [sz_list, List.length_append, List.length_replicate] at h2
        rw [HX.out, Pl.dig10]
        congr 2
        omega
      have hdata : (p ++ x).data.toList = t := by rw [data_append, hd, HT.out]
      have HDA : Hid ((p ++ x).data.toList = t) := hdata
      have HZ : Hid ((p ++ x).size ≤ maxLen) := by
        show (p ++ x).size ≤ 2 ^ 63 - 1
        rw [ByteArray.size_append]; omega
      clear hd hdata
      go_wp2_with fail
      refine (refGood_any _ _ (by exact HZ.out)).mono ?_
      rintro e w4 ⟨rfl, hb4⟩
      rw [HDA.out]
      have HB4 : Hid (Below w.heap.size w w4) := HB2.out.trans (hb4.mono HB2.out.size)
      clear hb4
      cases hg2 : Pl.goodB t with
      | false =>
        have HG2 : Hid (Pl.goodB t = false) := hg2
        clear hg2
        go_wp2
        go_ret2
        exact Or.inr ⟨rfl, HG2.out, HB4.out⟩
      | true =>
        have HG2 : Hid (Pl.goodB t = true) := hg2
        clear hg2
        go_wp2
        go_ret2
        exact Or.inl ⟨_, rfl, HDA.out, HG2.out, HB4.out⟩
end Go.Proofs.YtmmbomlpkjgclaaDoor
