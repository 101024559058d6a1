/- The walk of the statement PackCut: it answers true. -/
import Derived.Test.YteloehalobampaaWBs
import Derived.WalkSpells
namespace Go.Proofs.Yteloehalobampaa
open Go.RowKit

namespace Pk
theorem rI_few {xs : List UInt8} {bad : Bool} (h : xs.length < 8) : rI xs bad = (0, [], true) := by unfold rI; rw [if_neg (by omega)]

/-- What was cut off is missed, wherever it was cut. -/
theorem cut_sad (s : List UInt8) (v : Int) (cut : Nat) (hs : s.length ≤ 200) (hc : cut < s.length + 16) :
    (rI (rT s.length ((txt s ++ be8 v).take cut) false).2.1 (rT s.length ((txt s ++ be8 v).take cut) false).2.2).2 = ([], true) := by
  by_cases h1 : cut < 8
  · have hl : ((txt s ++ be8 v).take cut).length < 8 := by rw [List.length_take]; omega
    have e : rC s.length ((txt s ++ be8 v).take cut) false = (0, [], true) := by
      unfold rC; rw [rI_few hl]; rw [if_neg (by simp)]
    have e2 : rT s.length ((txt s ++ be8 v).take cut) false = ([], [], true) := by
      unfold rT; rw [e]; simp
    rw [e2]; rfl
  by_cases h2 : cut < 8 + s.length
  · have e0 : (txt s ++ be8 v).take cut = be8 s.length ++ s.take (cut - 8) := by
      unfold txt
      rw [List.append_assoc, List.take_append, be8_len, List.take_of_length_le (by rw [be8_len]; omega), List.take_append_of_le_length (by omega)]
    have e : rC s.length ((txt s ++ be8 v).take cut) false = ((s.length : Int), s.take (cut - 8), false) := by
      rw [e0, rC_be8 _ _ _ _ (by omega) (by omega) (Int.le_refl _)]
    have e2 : rT s.length ((txt s ++ be8 v).take cut) false = ([], [], true) := by
      unfold rT; rw [e]
      rw [if_neg (by simp; omega)]
    rw [e2]; rfl
  · have e0 : (txt s ++ be8 v).take cut = txt s ++ (be8 v).take (cut - (8 + s.length)) := by
      have hl : (txt s).length = 8 + s.length := by unfold txt; rw [List.length_append, be8_len]
      rw [List.take_append, hl, List.take_of_length_le (by rw [hl]; omega)]
    rw [e0, rT_txt _ _ _ _ (by omega) (Int.le_refl _)]
    rw [rI_few (by rw [List.length_take, be8_len]; omega)]
end Pk

theorem Bs.cut {w : World} {ao : Option Addr} {n c k : Nat} {xs : List UInt8} (h : Bs w (.slice ao n c) xs) (hk : k ≤ n) : Bs w (.slice ao k c) (xs.take k) := by
  obtain ⟨ao', n', c', hv, hn, hs⟩ := h
  simp only [Value.slice.injEq] at hv
  obtain ⟨rfl, rfl, rfl⟩ := hv
  refine ⟨ao, k, c, rfl, by rw [List.length_take]; omega, by rw [List.length_take]; have := hs.cap; omega, fun e => ?_, fun ad had j u hu => ?_⟩
  · have := hs.nil e
    exact ⟨by rw [List.length_take]; omega, this.2⟩
  · refine hs.cells ad had j u ?_
    unfold bc at hu ⊢
    rw [List.map_take, List.getElem?_take] at hu
    split at hu
    · exact hu
    · cases hu

set_option maxHeartbeats 1000000 in
theorem cut_long (s : ByteArray) (v cut : Int) (w : World) (hs : (200 : Int) < s.size) :
    Calls Try.prog 8 #[.string s, .int .i64 v, .int .i64 cut] w fun e w' => e = .returned (.bool true) ∧ Below w.heap.size w w' := by
  go_enter Try.func8, Try.ntmps8
  go_wp2_with fail
  refine (awake_any _).mono ?_
  rintro e w1 ⟨rfl, hb⟩
  have HB1 : Hid (Below w.heap.size w w1) := hb
  clear hb
  go_wp2
  go_ret
  exact ⟨rfl, HB1.out⟩

set_option maxHeartbeats 1000000 in
theorem cut_out (s : ByteArray) (v cut : Int) (w : World) (hs : ¬ (200 : Int) < s.size) (hc : cut < 0 ∨ (s.size + 16 : Int) ≤ cut) :
    Calls Try.prog 8 #[.string s, .int .i64 v, .int .i64 cut] w fun e w' => e = .returned (.bool true) ∧ Below w.heap.size w w' := by
  have HC : Hid (cut < 0 ∨ (s.size + 16 : Int) ≤ cut) := hc
  clear hc
  go_enter Try.func8, Try.ntmps8
  go_wp2_with fail
  refine (awake_any _).mono ?_
  rintro e w1 ⟨rfl, hb⟩
  have HB1 : Hid (Below w.heap.size w w1) := hb
  clear hb
  go_wp2_with fail
  refine (text_bs _ [] _ _ (Bs.nil _) (by decide) (by omega)).mono ?_
  rintro e w2 ⟨v2, rfl, hbs, hb⟩
  have HS2 : Hid (Bs w2 v2 ([] ++ Pk.txt s.data.toList)) := hbs
  have HB2 : Hid (Below w.heap.size w w2) := HB1.out.trans (hb.mono HB1.out.size)
  clear hbs hb
  go_wp2_with fail
  refine (i64_bs v2 _ _ _ HS2.out (by simp [Pk.txt, Pk.be8_len]; have : s.data.size = s.size := rfl; omega)).mono ?_
  rintro e w3 ⟨v3, rfl, hbs, hb⟩
  obtain ⟨ao, n, c, rfl, hn, _⟩ := hbs
  have HB3 : Hid (Below w.heap.size w w3) := HB2.out.trans (hb.mono HB2.out.size)
  have hn2 : n = s.size + 16 := by rw [hn]; simp [Pk.txt, Pk.be8_len]; have : s.data.size = s.size := rfl; omega
  clear hn hb
  by_cases h1 : cut < 0
  · clear hn2
    go_wp2
    go_ret
    exact ⟨rfl, HB3.out⟩
  · have h2 : (n : Int) ≤ cut := by have := HC.out; omega
    clear hn2
    go_wp2
    go_ret
    exact ⟨rfl, HB3.out⟩

set_option maxHeartbeats 1000000 in
theorem cut_in (s : ByteArray) (v : Int) (cut : Nat) (w : World) (hs : ¬ (200 : Int) < s.size) (hc : cut < s.size + 16) :
    Calls Try.prog 8 #[.string s, .int .i64 v, .int .i64 (cut : Int)] w fun e w' => e = .returned (.bool true) ∧ Below w.heap.size w w' := by
  have HC : Hid (cut < s.size + 16) := hc
  clear hc
  go_enter Try.func8, Try.ntmps8
  go_wp2_with fail
  refine (awake_any _).mono ?_
  rintro e w1 ⟨rfl, hb⟩
  have HB1 : Hid (Below w.heap.size w w1) := hb
  clear hb
  go_wp2_with fail
  refine (text_bs _ [] _ _ (Bs.nil _) (by decide) (by omega)).mono ?_
  rintro e w2 ⟨v2, rfl, hbs, hb⟩
  have HS2 : Hid (Bs w2 v2 ([] ++ Pk.txt s.data.toList)) := hbs
  have HB2 : Hid (Below w.heap.size w w2) := HB1.out.trans (hb.mono HB1.out.size)
  clear hbs hb
  go_wp2_with fail
  refine (i64_bs v2 _ _ _ HS2.out (by simp [Pk.txt, Pk.be8_len]; have : s.data.size = s.size := rfl; omega)).mono ?_
  rintro e w3 ⟨v3, rfl, hbs, hb⟩
  rw [List.nil_append] at hbs
  have hbs0 := hbs
  obtain ⟨ao, n, c, rfl, hn, hsl⟩ := hbs
  have hn2 : n = s.size + 16 := by rw [hn]; simp [Pk.txt, Pk.be8_len]; have : s.data.size = s.size := rfl; omega
  have hnc : n ≤ c := by rw [hn]; exact hsl.cap
  have HB3 : Hid (Below w.heap.size w w3) := HB2.out.trans (hb.mono HB2.out.size)
  have h1 : ¬ (n : Int) ≤ cut := by have := HC.out; omega
  have hcc : (cut : Int) ≤ c := by omega
  have HS3 : Hid (Bs w3 (.slice ao cut c) ((Pk.txt s.data.toList ++ Pk.be8 v).take cut)) := hbs0.cut (by omega)
  have HA : Hid (ao = none → n = 0 ∧ c = 0) := fun e => by rw [hn]; exact hsl.nil e
  cases ao with
  | none => exact absurd (HA.out rfl).1 (by omega)
  | some ad =>
  clear hn hb hbs0 hsl hn2 HA
  go_wp2_with fail
  refine (read_bs _ _ _ HS3.out (by rw [List.length_take]; have := HC.out; omega)).mono ?_
  rintro e w4 ⟨q, rfl, hq, hr, hb⟩
  have HR4 : Hid (Rd w4 q ((Pk.txt s.data.toList ++ Pk.be8 v).take cut) false) := hr
  have HB4 : Hid (Below w.heap.size w w4) := HB3.out.trans (hb.mono HB3.out.size)
  have HQ : Hid (w.heap.size ≤ q) := Nat.le_trans HB3.out.size hq
  clear hb hr hq
  go_wp2_with fail
  refine (rText_any q _ _ _ _ HR4.out).mono ?_
  rintro e w5 ⟨rfl, hr, hg⟩
  have HR5 : Hid (Rd w5 q (Pk.rT s.size ((Pk.txt s.data.toList ++ Pk.be8 v).take cut) false).2.1 (Pk.rT s.size ((Pk.txt s.data.toList ++ Pk.be8 v).take cut) false).2.2) := hr
  have HB5 : Hid (Below w.heap.size w w5) := Below.reader HB4.out hg (Nat.le_refl _) HQ.out
  clear hr hg
  go_wp2_with fail
  refine (rI64_any q _ _ _ HR5.out).mono ?_
  rintro e w6 ⟨rfl, hr, hg⟩
  have hsad := Pk.cut_sad s.data.toList v cut (by have : s.data.toList.length = s.size := rfl; omega) (by have := HC.out; have h2 : s.data.toList.length = s.size := rfl; omega)
  have hr2 : Rd w6 q [] true := by
    have h : (Pk.rI (Pk.rT s.size ((Pk.txt s.data.toList ++ Pk.be8 v).take cut) false).2.1 (Pk.rT s.size ((Pk.txt s.data.toList ++ Pk.be8 v).take cut) false).2.2).2 = ([], true) := hsad
    rw [h] at hr
    exact hr
  have HR6 : Hid (Rd w6 q [] true) := hr2
  have HB6 : Hid (Below w.heap.size w w6) := Below.reader HB5.out hg (Nat.le_refl _) HQ.out
  clear hr hr2 hg hsad
  go_wp2_with fail
  refine (rBad_any q _ _ _ HR6.out).mono ?_
  rintro e wx ⟨rfl, hw⟩
  rw [hw]; clear hw wx
  go_wp2_with fail
  refine (rEnd_any q _ _ _ HR6.out).mono ?_
  rintro e wx ⟨rfl, hw⟩
  rw [hw]; clear hw wx
  go_wp2_with fail
  refine (rI64_any q _ _ _ HR6.out).mono ?_
  rintro e w7 ⟨rfl, hr, hg⟩
  have HR7 : Hid (Rd w7 q [] true) := hr
  have HB7 : Hid (Below w.heap.size w w7) := Below.reader HB6.out hg (Nat.le_refl _) HQ.out
  rw [show (Pk.rI [] true).1 = 0 from rfl]
  clear hr hg
  go_wp2_with fail
  refine (rText_any q _ _ _ _ HR7.out).mono ?_
  rintro e w8 ⟨rfl, hr, hg⟩
  have HR8 : Hid (Rd w8 q [] true) := hr
  have HB8 : Hid (Below w.heap.size w w8) := Below.reader HB7.out hg (Nat.le_refl _) HQ.out
  rw [show (Pk.rT 9 [] true).1 = [] from by decide]
  clear hr hg
  go_wp2_with fail
  refine (rCount_any q _ _ _ _ HR8.out).mono ?_
  rintro e w9 ⟨rfl, hr, hg⟩
  have HB9 : Hid (Below w.heap.size w w9) := Below.reader HB8.out hg (Nat.le_refl _) HQ.out
  rw [show (Pk.rC 9 [] true).1 = 0 from by decide]
  clear hr hg
  go_wp2
  go_ret
  exact ⟨rfl, HB9.out⟩

theorem cut_any (s : ByteArray) (v cut : Int) (w : World) :
    Calls Try.prog 8 #[.string s, .int .i64 v, .int .i64 cut] w fun e w' => e = .returned (.bool true) ∧ Below w.heap.size w w' := by
  by_cases h1 : (200 : Int) < s.size
  · exact cut_long s v cut w h1
  by_cases h2 : cut < 0 ∨ (s.size + 16 : Int) ≤ cut
  · exact cut_out s v cut w h1 h2
  · obtain ⟨k, hk⟩ : ∃ k : Nat, cut = k := ⟨cut.toNat, by omega⟩
    subst hk
    exact cut_in s v k w h1 (by omega)
end Go.Proofs.Yteloehalobampaa
