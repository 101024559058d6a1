/- What crc.shifted and crc.Of answer. -/
import Derived.Test.YtmbpkbdaakchiaaBase
import Derived.Test.YtmbpkbdaakchiaaPlainC
namespace Go.Proofs.Ytmbpkbdaakchiaa
open Go.RowKit

theorem ofInt_toNat (a : BitVec 32) : BitVec.ofInt 32 (a.toNat : Int) = a := by
  rw [BitVec.ofInt_natCast, BitVec.ofNat_toNat, BitVec.setWidth_eq]
theorem wrap_toNat (a : BitVec 32) : IntKind.wrap .u32 (a.toNat : Int) = (a.toNat : Int) := by
  rw [IntKind.wrap_u32]
  have := a.isLt
  omega
theorem xor32 (a b : BitVec 32) : bits .xor .u32 (a.toNat : Int) (b.toNat : Int) = ((a ^^^ b).toNat : Int) := by
  show IntKind.wrap .u32 ((BitVec.ofInt 32 (a.toNat : Int) ^^^ BitVec.ofInt 32 (b.toNat : Int)).toNat : Int) = _
  rw [ofInt_toNat, ofInt_toNat, wrap_toNat]
theorem and32 (a b : BitVec 32) : bits .and .u32 (a.toNat : Int) (b.toNat : Int) = ((a &&& b).toNat : Int) := by
  show IntKind.wrap .u32 ((BitVec.ofInt 32 (a.toNat : Int) &&& BitVec.ofInt 32 (b.toNat : Int)).toNat : Int) = _
  rw [ofInt_toNat, ofInt_toNat, wrap_toNat]
theorem low32 (c : BitVec 32) : bits .and .u32 (c.toNat : Int) 1 = if c.getLsbD 0 then 1 else 0 := by
  have h := and32 c 1#32
  have h1 : ((1#32).toNat : Int) = 1 := rfl
  rw [h1] at h
  rw [h]
  have h2 : (c &&& 1#32).toNat = c.toNat % 2 := by
    rw [BitVec.toNat_and]
    exact Nat.and_two_pow_sub_one_eq_mod _ 1
  rw [h2, BitVec.getLsbD, Nat.testBit_zero]
  by_cases hm : c.toNat % 2 = 1
  · simp [hm]
  · have : c.toNat % 2 = 0 := by omega
    simp [this]
theorem step32 (c : BitVec 32) : bits .xor .u32 ((c.toNat : Int) / 2) (bits .and .u32 3988292384 (-bits .and .u32 (c.toNat : Int) 1 % 4294967296)) = ((Cr.step c).toNat : Int) := by
  rw [low32]
  have hs : (c.toNat : Int) / (2 : Int) = ((c >>> 1).toNat : Int) := by
    rw [BitVec.toNat_ushiftRight, Nat.shiftRight_eq_div_pow]
    simp
  rw [hs]
  unfold Cr.step
  cases c.getLsbD 0
  · simp only [Bool.false_eq_true, if_false]
    have : bits .and .u32 3988292384 (-0 % 4294967296) = ((0#32).toNat : Int) := by decide
    rw [this, xor32]
  · simp only [if_true]
    have : bits .and .u32 3988292384 (-1 % 4294967296) = (Cr.poly.toNat : Int) := by decide
    rw [this, xor32]

set_option maxHeartbeats 400000 in
theorem shifted_any (c : BitVec 32) (w : World) :
    Calls Try.prog 52 #[.int .u32 (c.toNat : Int)] w fun e w' => e = .returned (.int .u32 ((Cr.sh c).toNat : Int)) ∧ w' = w := by
  go_enter Try.func52, Try.ntmps52
  go_wp2
  go_loopw [0, 4] (fun s i wr => ∃ k : Nat, k ≤ 8 ∧ s = .int .u32 ((Cr.stepN k c).toNat : Int) ∧ i = .int .i64 (k : Int) ∧ wr = w) (fun _ i _ => (8 - intOf i).toNat)
  case atStart => exact ⟨0, by omega, rfl, rfl, rfl⟩
  case round =>
    obtain ⟨k, hk, rfl, rfl, rfl⟩ := hrel
    by_cases h8 : k < 8
    · have h0 : (k : Int) < 8 := by omega
      go_wp2
      go_roundw
      case rel => exact ⟨k + 1, by omega, by rw [step32]; exact ⟨rfl, by go_num, trivial⟩⟩
      case measure => simp [intOf]; omega
    · have h0 : ¬ (k : Int) < 8 := by omega
      obtain rfl : k = 8 := by omega
      go_wp2
      go_ret
      exact ⟨rfl, rfl⟩

theorem upd32 (c : BitVec 32) (b : UInt8) : bits .xor .u32 (c.toNat : Int) ((b.toNat : Int) % 4294967296) = ((c ^^^ Cr.wide b).toNat : Int) := by
  have h0 : (b.toNat : Int) % 4294967296 = (b.toNat : Int) := by have := b.toNat_lt; omega
  rw [h0, ← xor32]
  have h : b.toNat = (Cr.wide b).toNat := by
    unfold Cr.wide
    rw [BitVec.toNat_setWidth]
    have := b.toBitVec.isLt
    have h : b.toBitVec.toNat = b.toNat := rfl
    rw [h] at this ⊢
    omega
  rw [h]

theorem not32 (c : BitVec 32) : bits .xor .u32 4294967295 (c.toNat : Int) = ((~~~ c).toNat : Int) := by
  have h : (4294967295 : Int) = ((~~~ 0#32).toNat : Int) := rfl
  rw [h, xor32]
  have h2 : ~~~ 0#32 ^^^ c = ~~~ c := by
    apply BitVec.eq_of_getLsbD_eq
    intro i hi
    rw [BitVec.getLsbD_xor, BitVec.getLsbD_not, BitVec.getLsbD_not, BitVec.getLsbD_zero]
    cases c.getLsbD i <;> simp [hi]
  rw [h2]

theorem run_snoc (c : BitVec 32) (l : List UInt8) (x : UInt8) : Cr.run c (l ++ [x]) = Cr.upd (Cr.run c l) x := by
  rw [Cr.run_app]; rfl

/-- The inner loop: one part. -/
theorem flat_snoc {ls : List (List UInt8)} {k : Nat} {xs : List UInt8} (h : ls[k]? = some xs) : (ls.take (k + 1)).flatten = (ls.take k).flatten ++ xs := by
  rw [List.take_add_one, h]
  simp

set_option maxHeartbeats 400000 in
theorem of_any (v : Value) (ls : List (List UInt8)) (w : World) (hl : Bl w v ls) (hN : ls.length ≤ 1000000) (hM : ∀ xs ∈ ls, xs.length ≤ maxLen) :
    Calls Try.prog 42 #[v] w fun e w' => e = .returned (.int .u32 ((Cr.sum ls.flatten).toNat : Int)) ∧ w' = w := by
  obtain ⟨av, n, cv, rfl, hn, hcs⟩ := hl
  have HC : Hid (∀ (j : Nat) xs, ls[j]? = some xs → ∃ g o v, av = some ⟨g, o, none⟩ ∧ w.cell? ⟨g, o + j, none⟩ = some v ∧ Bs w v xs) := hcs
  have HN : Hid (n = ls.length ∧ ∀ xs ∈ ls, xs.length ≤ maxLen) := ⟨hn, hM⟩
  have hn1 : n ≤ 1000000 := by omega
  clear hcs hn hM hN
  go_enter Try.func42, Try.ntmps42
  go_wp2
  go_loopw [3, 10] (fun s i wr => ∃ k : Nat, k ≤ n ∧ s = .int .u32 ((Cr.run Cr.ones (ls.take k).flatten).toNat : Int) ∧ i = .int .i64 (k : Int) ∧ wr = w) (fun _ i _ => ((n : Int) - intOf i).toNat)
  case atStart => exact ⟨0, by omega, rfl, rfl, rfl⟩
  case round =>
    obtain ⟨k, hk, rfl, rfl, rfl⟩ := hrel
    by_cases h8 : k < n
    · have h0 : (k : Int) < (n : Int) := by omega
      have hkl : k < ls.length := by rw [← HN.out.1]; exact h8
      obtain ⟨g, o, u, rfl, hcell, hbs⟩ := HC.out k ls[k] (List.getElem?_eq_getElem hkl)
      obtain ⟨ao, m, c, rfl, hm, hsl⟩ := hbs
      have HM : Hid (m = ls[k].length) := hm
      have HS : Hid (Sl wr ao c ls[k]) := hsl
      have hmm : m ≤ 9223372036854775807 := by have := HN.out.2 _ (List.getElem_mem hkl); unfold maxLen at this; omega
      clear hm hsl
      go_wp2
      go_loopw [3, 16] (fun s i w2 => ∃ j : Nat, j ≤ m ∧ s = .int .u32 ((Cr.run (Cr.run Cr.ones (ls.take k).flatten) (ls[k].take j)).toNat : Int) ∧ i = .int .i64 (j : Int) ∧ w2 = wr) (fun _ i _ => ((m : Int) - intOf i).toNat)
      case atStart => exact ⟨0, by omega, rfl, rfl, rfl⟩
      case round =>
        obtain ⟨j, hj, rfl, rfl, rfl⟩ := hrel
        by_cases h9 : j < m
        · have h01 : (j : Int) < (m : Int) := by omega
          have hjl : j < ls[k].length := by rw [← HM.out]; exact h9
          obtain ⟨g2, o2, n2, c2, hv2, hx1, hx2, hc2⟩ := Bs.plain ⟨ao, m, c, rfl, HM.out, HS.out⟩ (by omega)
          simp only [Value.slice.injEq] at hv2
          obtain ⟨rfl, rfl, rfl⟩ := hv2
          have hcell2 := hc2 j ls[k][j] (List.getElem?_eq_getElem hjl)
          clear hc2 hx1 hx2
          go_wp2_with fail
          rw [upd32]
          refine (shifted_any _ _).mono ?_
          rintro e w2 ⟨rfl, hw⟩
          rw [hw]
          clear hw w2
          have hr : Cr.sh (Cr.run (Cr.run Cr.ones (ls.take k).flatten) (ls[k].take j) ^^^ Cr.wide ls[k][j]) = Cr.run (Cr.run Cr.ones (ls.take k).flatten) (ls[k].take (j + 1)) := by
            rw [List.take_add_one, List.getElem?_eq_getElem hjl]
            exact (run_snoc _ _ _).symm
          rw [hr]
          clear hr
          go_wp2
          go_roundw
          case rel => exact ⟨j + 1, by omega, rfl, by go_num, trivial⟩
          case measure => simp [intOf]; omega
        · have h01 : ¬ (j : Int) < (m : Int) := by omega
          obtain rfl : j = m := by omega
          have hr : Cr.run (Cr.run Cr.ones (ls.take k).flatten) (ls[k].take j) = Cr.run Cr.ones (ls.take (k + 1)).flatten := by
            rw [HM.out, List.take_length, flat_snoc (List.getElem?_eq_getElem hkl), Cr.run_app]
          rw [hr]
          clear hr
          go_wp2
          go_roundw
          case rel => exact ⟨k + 1, by omega, rfl, by first | exact ⟨by go_num, trivial⟩ | go_num⟩
          case measure => simp [intOf]; omega
    · have h0 : ¬ (k : Int) < (n : Int) := by omega
      obtain rfl : k = n := by omega
      go_wp2
      go_ret
      refine ⟨?_, rfl⟩
      show Ending.returned (.int .u32 (bits .xor .u32 4294967295 _)) = _
      rw [not32, HN.out.1, List.take_length]
      rfl
end Go.Proofs.Ytmbpkbdaakchiaa
