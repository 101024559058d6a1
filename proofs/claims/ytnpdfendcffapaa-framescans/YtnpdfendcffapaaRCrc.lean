/- What the reference's Crc, u32 and at32 answer. -/
import Derived.Test.YtnpdfendcffapaaWCrc
import Derived.Test.YtnpdfendcffapaaPlainG
import Derived.BigRegion
import Derived.Deep.QuietTactic
import Derived.BigQuiet
import Derived.Deep.RegionWith
namespace Go.Proofs.Ytnpdfendcffapaa
open Go.RowKit

theorem half32 (c : BitVec 32) : (c.toNat : Int) / (2 : Int) = ((c >>> 1).toNat : Int) := by
  rw [BitVec.toNat_ushiftRight, Nat.shiftRight_eq_div_pow]
  simp

theorem step_one {c : BitVec 32} (h : c.getLsbD 0 = true) : bits .xor .u32 ((c.toNat : Int) / 2) 3988292384 = ((Cr.step c).toNat : Int) := by
  have e : (3988292384 : Int) = (Cr.poly.toNat : Int) := rfl
  rw [half32, e, xor32]
  unfold Cr.step
  rw [h]
  simp

theorem step_none {c : BitVec 32} (h : c.getLsbD 0 = false) : (c.toNat : Int) / (2 : Int) = ((Cr.step c).toNat : Int) := by
  rw [half32]
  unfold Cr.step
  rw [h]
  simp

set_option maxHeartbeats 1000000 in
theorem refCrc_any (v : Value) (xs : List UInt8) (w : World) (hb : Bs w v xs) (hN : xs.length ≤ 1000000) :
    Calls Try.prog 18 #[v] w fun e w' => e = .returned (.int .u32 ((Cr.sum xs).toNat : Int)) ∧ w' = w := by
  have HV : Hid (Bs w v xs) := hb
  obtain ⟨ao, n, c, rfl, hn, _⟩ := hb
  have HN : Hid (n = xs.length) := hn
  have hn1 : n ≤ 1000000 := by omega
  clear hn hN
  go_enter Try.func18, Try.ntmps18
  go_wp2
  go_loopw [3, 4] (fun s i wr => ∃ k : Nat, k ≤ n ∧ s = .int .u32 ((Cr.run Cr.ones (xs.take k)).toNat : Int) ∧ i = .int .i64 (k : Int) ∧ wr = w) (fun _ i _ => ((n : Int) - intOf i).toNat)
  case atStart => exact ⟨0, by omega, rfl, rfl, rfl⟩
  case round =>
    obtain ⟨k, hk, rfl, rfl, rfl⟩ := hrel
    by_cases h8 : k < n
    · have h0 : (k : Int) < (n : Int) := by omega
      have hkl : k < xs.length := by rw [← HN.out]; exact h8
      obtain ⟨g2, o2, n2, c2, hv2, hx1, hx2, hc2⟩ := HV.out.plain (by omega)
      simp only [Value.slice.injEq] at hv2
      obtain ⟨rfl, rfl, rfl⟩ := hv2
      have hcell2 := hc2 k xs[k] (List.getElem?_eq_getElem hkl)
      clear hc2 hx1 hx2
      obtain ⟨S, hS⟩ : ∃ S, S = Cr.run Cr.ones (xs.take k) := ⟨_, rfl⟩
      have HS : Hid (Cr.sh (S ^^^ Cr.wide xs[k]) = Cr.run Cr.ones (xs.take (k + 1))) := by
        have h : Cr.sh (S ^^^ Cr.wide xs[k]) = Cr.run Cr.ones (xs.take (k + 1)) := by
          rw [hS, List.take_add_one, List.getElem?_eq_getElem hkl]
          exact (run_snoc _ _ _).symm
        exact h
      rw [← hS]
      clear hS
      generalize xs[k] = x at *
      go_wp2
      rw [upd32]
      go_loopw [3, 5] (fun s i w2 => ∃ j : Nat, j ≤ 8 ∧ s = .int .u32 ((Cr.stepN j (S ^^^ Cr.wide x)).toNat : Int) ∧ i = .int .i64 (j : Int) ∧ w2 = wr) (fun _ i _ => (8 - intOf i).toNat)
      case atStart => exact ⟨0, by omega, rfl, rfl, rfl⟩
      case round =>
        obtain ⟨j, hj, rfl, rfl, rfl⟩ := hrel
        by_cases h9 : j < 8
        · have h01 : (j : Int) < 8 := by omega
          obtain ⟨D, hD⟩ : ∃ D, D = Cr.stepN j (S ^^^ Cr.wide x) := ⟨_, rfl⟩
          have HD : Hid (Cr.step D = Cr.stepN (j + 1) (S ^^^ Cr.wide x)) := by
            have h : Cr.step D = Cr.stepN (j + 1) (S ^^^ Cr.wide x) := by rw [hD]; rfl
            exact h
          rw [← hD]
          clear hD
          cases hlow : D.getLsbD 0 with
          | true =>
            have hl : bits .and .u32 (D.toNat : Int) 1 = 1 := by rw [low32, hlow]; rfl
            have HS1 := step_one hlow
            clear hlow
            go_wp2
            rw [HD.out]
            go_roundw
            case rel => exact ⟨j + 1, by omega, rfl, by first | exact ⟨by go_num, trivial⟩ | go_num⟩
            case measure => simp [intOf]; omega
          | false =>
            have hl : bits .and .u32 (D.toNat : Int) 1 = 0 := by rw [low32, hlow]; rfl
            have HS1 := step_none hlow
            clear hlow
            go_wp2
            rw [HD.out]
            go_roundw
            case rel => exact ⟨j + 1, by omega, rfl, by first | exact ⟨by go_num, trivial⟩ | go_num⟩
            case measure => simp [intOf]; omega
        · have h01 : ¬ (j : Int) < 8 := by omega
          obtain rfl : j = 8 := by omega
          have hr : Cr.stepN 8 (S ^^^ Cr.wide x) = Cr.run Cr.ones (xs.take (k + 1)) := HS.out
          rw [hr]
          clear hr
          go_wp2
          go_roundw
          case rel => exact ⟨k + 1, by omega, rfl, by first | exact ⟨by go_num, trivial⟩ | go_num⟩
          case measure => simp [intOf]; omega
    · have h0 : ¬ (k : Int) < (n : Int) := by omega
      obtain rfl : k = n := by omega
      go_wp2
      go_ret
      refine ⟨?_, rfl⟩
      show Ending.returned (.int .u32 (bits .xor .u32 4294967295 _)) = _
      rw [not32, HN.out, List.take_length]
      rfl

theorem be4_cells (z : Nat) : #[Value.int .u8 ((z : Int) / 16777216 % 256), Value.int .u8 ((z : Int) / 65536 % 256), Value.int .u8 ((z : Int) / 256 % 256), Value.int .u8 ((z : Int) % 256)] = (bc (Fr.be4 z)).toArray := by
  have e : ∀ n : Nat, (((UInt8.ofNat (n % 256)).toNat : Nat) : Int) = (n : Int) % 256 := fun n => by
    rw [UInt8.toNat_ofNat']
    omega
  unfold Fr.be4 bc
  simp only [List.map_cons, List.map_nil, e]
  rfl

set_option maxHeartbeats 1000000 in
theorem refU32_any (v : Value) (xs : List UInt8) (z : Nat) (w : World) (hb : Bs w v xs) (hN : xs.length ≤ 100000) (hz : z < 4294967296) :
    Calls Try.prog 17 #[v, .int .u32 (z : Int)] w fun e w' => ∃ v', e = .returned v' ∧ w'.ownsRow w.heap.size 5 1 v' (xs.length + 4) (bc (xs ++ Fr.be4 z)) ∧ Below w.heap.size w w' := by
  have HV : Hid (Bs w v xs) := hb
  obtain ⟨ao, n, c, rfl, hn, _⟩ := hb
  have HZ : Hid (z < 4294967296) := hz
  clear hn hz
  go_enter Try.func17, Try.ntmps17
  go_wp2_with (at_builtin; refine append_copy rfl _ _ rfl (.slice ao n c) xs w rfl rfl HV.out hN ?_)
  intro v1 w1 hown hb
  have HO1 : Hid (w1.ownsRow w.heap.size 5 1 v1 xs.length (bc xs)) := hown
  have HB1 : Hid (Below w.heap.size w w1) := hb
  clear hown hb
  have HM : Hid (Bs (w1.alloc (.cells #[.int .u8 ((z : Int) / 16777216 % 256), .int .u8 ((z : Int) / 65536 % 256), .int .u8 ((z : Int) / 256 % 256), .int .u8 ((z : Int) % 256)] 5)) (.slice (some ⟨w1.heap.size, 0, none⟩) 4 4) (Fr.be4 z)) := by
    have h : Bs (w1.alloc (.cells #[.int .u8 ((z : Int) / 16777216 % 256), .int .u8 ((z : Int) / 65536 % 256), .int .u8 ((z : Int) / 256 % 256), .int .u8 ((z : Int) % 256)] 5)) (.slice (some ⟨w1.heap.size, 0, none⟩) 4 4) (Fr.be4 z) := by
      rw [be4_cells]
      exact Bs.made w1 (Fr.be4 z) _ _
    exact h
  go_wp2_with (at_builtin; refine append_bs rfl _ _ rfl w.heap.size v1 (.slice (some ⟨w1.heap.size, 0, none⟩) 4 4) xs.length xs (Fr.be4 z) _ rfl rfl (HO1.out.alloc _) (Nat.le_trans HB1.out.size (by simp)) HM.out (by rw [Fr.be4_len]; omega) ?_)
  intro v2 w2 hown hb
  have HO2 : Hid (w2.ownsRow w.heap.size 5 1 v2 (xs.length + 4) (bc (xs ++ Fr.be4 z))) := hown
  have HB2 : Hid (Below w.heap.size w w2) := (HB1.out.alloc HB1.out.size _).trans hb
  clear hown hb
  go_wp2
  go_ret
  exact ⟨_, rfl, HO2.out, HB2.out⟩

theorem or32 (a b : Nat) (ha : a < 4294967296) (hb : b < 4294967296) : bits .or .u32 (a : Int) (b : Int) = ((a ||| b : Nat) : Int) := by
  show IntKind.wrap .u32 ((BitVec.ofInt 32 (a : Int) ||| BitVec.ofInt 32 (b : Int)).toNat : Int) = _
  rw [BitVec.ofInt_natCast, BitVec.ofInt_natCast, wrap_toNat, BitVec.toNat_or, BitVec.toNat_ofNat, BitVec.toNat_ofNat, Nat.mod_eq_of_lt (by omega), Nat.mod_eq_of_lt (by omega)]

theorem at32_val (a b c d : UInt8) : bits .or .u32 (bits .or .u32 (bits .or .u32 ((a.toNat : Int) * 16777216) ((b.toNat : Int) * 65536)) ((c.toNat : Int) * 256)) (d.toNat : Int) = (Pk.val [a, b, c, d] : Int) := by
  have ha := a.toNat_lt
  have hb := b.toNat_lt
  have hc := c.toNat_lt
  have hd := d.toNat_lt
  have e1 : bits .or .u32 ((a.toNat : Int) * 16777216) ((b.toNat : Int) * 65536) = ((a.toNat * 16777216 + b.toNat * 65536 : Nat) : Int) := by
    have h := or32 (a.toNat * 16777216) (b.toNat * 65536) (by omega) (by omega)
    have h2 : a.toNat * 16777216 ||| b.toNat * 65536 = a.toNat * 16777216 + b.toNat * 65536 := by
      have := Nat.two_pow_add_eq_or_of_lt (i := 24) (b := b.toNat * 65536) (by omega) a.toNat
      rw [Nat.mul_comm a.toNat 16777216]
      exact this.symm
    rw [h2] at h
    rw [← h]
    simp
  have e2 : bits .or .u32 ((a.toNat * 16777216 + b.toNat * 65536 : Nat) : Int) ((c.toNat : Int) * 256) = ((a.toNat * 16777216 + b.toNat * 65536 + c.toNat * 256 : Nat) : Int) := by
    have h := or32 (a.toNat * 16777216 + b.toNat * 65536) (c.toNat * 256) (by omega) (by omega)
    have h2 : a.toNat * 16777216 + b.toNat * 65536 ||| c.toNat * 256 = a.toNat * 16777216 + b.toNat * 65536 + c.toNat * 256 := by
      have := Nat.two_pow_add_eq_or_of_lt (i := 16) (b := c.toNat * 256) (by omega) (a.toNat * 256 + b.toNat)
      have e : a.toNat * 16777216 + b.toNat * 65536 = 2 ^ 16 * (a.toNat * 256 + b.toNat) := by omega
      rw [e]
      exact this.symm
    rw [h2] at h
    rw [← h]
    simp
  have e3 : bits .or .u32 ((a.toNat * 16777216 + b.toNat * 65536 + c.toNat * 256 : Nat) : Int) (d.toNat : Int) = ((a.toNat * 16777216 + b.toNat * 65536 + c.toNat * 256 + d.toNat : Nat) : Int) := by
    have h := or32 (a.toNat * 16777216 + b.toNat * 65536 + c.toNat * 256) d.toNat (by omega) (by omega)
    have h2 : a.toNat * 16777216 + b.toNat * 65536 + c.toNat * 256 ||| d.toNat = a.toNat * 16777216 + b.toNat * 65536 + c.toNat * 256 + d.toNat := by
      have := Nat.two_pow_add_eq_or_of_lt (i := 8) (b := d.toNat) (by omega) (a.toNat * 65536 + b.toNat * 256 + c.toNat)
      have e : a.toNat * 16777216 + b.toNat * 65536 + c.toNat * 256 = 2 ^ 8 * (a.toNat * 65536 + b.toNat * 256 + c.toNat) := by omega
      rw [e]
      exact this.symm
    rw [h2] at h
    exact h
  rw [e1, e2, e3]
  unfold Pk.val
  simp only [List.foldl_cons, List.foldl_nil]
  omega

theorem at32_mod (a b c d : UInt8) : bits .or .u32 (bits .or .u32 (bits .or .u32 ((a.toNat : Int) % 4294967296 * 16777216 % 4294967296) ((b.toNat : Int) % 4294967296 * 65536 % 4294967296)) ((c.toNat : Int) % 4294967296 * 256 % 4294967296)) ((d.toNat : Int) % 4294967296) = (Pk.val [a, b, c, d] : Int) := by
  have ha := a.toNat_lt
  have hb := b.toNat_lt
  have hc := c.toNat_lt
  have hd := d.toNat_lt
  have e0 : (a.toNat : Int) % 4294967296 * 16777216 % 4294967296 = (a.toNat : Int) * 16777216 := by omega
  have e1 : (b.toNat : Int) % 4294967296 * 65536 % 4294967296 = (b.toNat : Int) * 65536 := by omega
  have e2 : (c.toNat : Int) % 4294967296 * 256 % 4294967296 = (c.toNat : Int) * 256 := by omega
  have e3 : (d.toNat : Int) % 4294967296 = (d.toNat : Int) := by omega
  rw [e0, e1, e2, e3, at32_val]

theorem take4 {xs : List UInt8} (h : 4 ≤ xs.length) : ∃ a b c d, xs.take 4 = [a, b, c, d] ∧ xs[0]? = some a ∧ xs[1]? = some b ∧ xs[2]? = some c ∧ xs[3]? = some d := by
  match xs, h with
  | a :: b :: c :: d :: t, _ => exact ⟨a, b, c, d, rfl, rfl, rfl, rfl, rfl⟩

set_option maxHeartbeats 1000000 in
theorem refAt_any (v : Value) (xs : List UInt8) (w : World) (hb : Bs w v xs) (h4 : 4 ≤ xs.length) (hN : xs.length ≤ 1000000) :
    Calls Try.prog 19 #[v] w fun e w' => e = .returned (.int .u32 (Pk.val (xs.take 4) : Int)) ∧ Below w.heap.size w w' := by
  obtain ⟨g, o, n, c, rfl, hn, _, hcs⟩ := hb.plain (by omega)
  obtain ⟨x0, x1, x2, x3, ht, q0, q1, q2, q3⟩ := take4 h4
  rw [ht]
  have h0 := hcs 0 x0 q0
  have h1 := hcs 1 x1 q1
  have h2 := hcs 2 x2 q2
  have h3 := hcs 3 x3 q3
  simp only [Nat.add_zero] at h0
  have t0 : (0 : Int) < (n : Int) := by omega
  have t1 : (1 : Int) < (n : Int) := by omega
  have t2 : (2 : Int) < (n : Int) := by omega
  have t3 : (3 : Int) < (n : Int) := by omega
  clear hb hcs hn ht q0 q1 q2 q3 hN h4
  go_enter Try.func19, Try.ntmps19
  go_wp2
  go_quiet (fail)
  rw [at32_mod]
  go_wp2
  go_ret
  exact ⟨rfl, below_drewN (Below.refl _ w) nq⟩

theorem sum_lt (l : List UInt8) : (Cr.sum l).toNat < 4294967296 := (Cr.sum l).isLt

theorem turn32 (n : Nat) (h : n < 4294967296) : bits .xor .u32 4294967295 (n : Int) = ((4294967295 - n : Nat) : Int) := by
  have e : (n : Int) = ((BitVec.ofNat 32 n).toNat : Int) := by rw [BitVec.toNat_ofNat, Nat.mod_eq_of_lt (by omega)]
  rw [e, not32, BitVec.toNat_not, BitVec.toNat_ofNat, Nat.mod_eq_of_lt (by omega)]

theorem turn32m (n : Nat) (h : n < 4294967296) : bits .xor .u32 (IntKind.max .u32) (n : Int) = ((4294967295 - n : Nat) : Int) := turn32 n h

set_option maxHeartbeats 1000000 in
theorem refFrame_any (v : Value) (r : List UInt8) (w : World) (hb : Bs w v r) (hN : r.length ≤ 50000) :
    Calls Try.prog 11 #[v] w fun e w' => ∃ v', e = .returned v' ∧ w'.ownsRow w.heap.size 5 1 v' (12 + r.length) (bc (Fr.frame r)) ∧ Below w.heap.size w w' := by
  have HV : Hid (Bs w v r) := hb
  obtain ⟨ao, n, c, rfl, hn, _⟩ := hb
  have HN : Hid (n = r.length) := hn
  have hn1 : n ≤ 50000 := by omega
  clear hn
  have hm : (n : Int) % 4294967296 = (n : Int) := by omega
  go_enter Try.func11, Try.ntmps11
  go_wp2_with fail
  refine (refU32_any _ [] n _ (Bs.nil _) (by simp) (by omega)).mono ?_
  rintro e w1 ⟨v1, rfl, ho, hb⟩
  have HO1 : Hid (Bs w1 v1 (Fr.be4 n)) := Bs.own ho
  have HB1 : Hid (Below w.heap.size w w1) := hb
  clear ho hb
  go_wp2_with fail
  rw [turn32m n (by omega)]
  refine (refU32_any v1 (Fr.be4 n) (4294967295 - n) _ HO1.out (by rw [Fr.be4_len]; omega) (by omega)).mono ?_
  rintro e w2 ⟨v2, rfl, ho, hb⟩
  have HO2 : Hid (Bs w2 v2 (Fr.head n)) := Bs.own ho
  have HB2 : Hid (Below w.heap.size w w2) := HB1.out.trans (hb.mono HB1.out.size)
  clear ho hb
  go_wp2_with (at_builtin; refine append_copy rfl _ _ rfl v2 (Fr.head n) w2 rfl rfl HO2.out (by rw [Fr.head_len]; omega) ?_)
  intro v3 w3 ho hb
  have HO3 : Hid (w3.ownsRow w2.heap.size 5 1 v3 8 (bc (Fr.head n))) := ho
  have HS3 : Hid (Below w2.heap.size w2 w3) := hb
  have HW3 : Hid (w2.heap.size ≤ w3.heap.size) := hb.size
  have HB3 : Hid (Below w.heap.size w w3) := HB2.out.trans (hb.mono HB2.out.size)
  clear ho hb
  go_wp2_with (at_builtin; refine append_bs rfl _ _ rfl w2.heap.size v3 (.slice ao n c) 8 (Fr.head n) r w3 rfl rfl HO3.out HW3.out (HV.out.below HB3.out) (by omega) ?_)
  intro v4 w4 ho hb
  have HO4 : Hid (Bs w4 v4 (Fr.head n ++ r)) := Bs.own ho
  have HB4 : Hid (Below w.heap.size w w4) := HB3.out.trans (hb.mono HB2.out.size)
  have HS4 : Hid (Bs w4 v2 (Fr.head n)) := HO2.out.below (HS3.out.trans hb)
  clear ho hb
  go_wp2_with fail
  refine (refCrc_any v4 _ _ HO4.out (by rw [List.length_append, Fr.head_len]; omega)).mono ?_
  rintro e w5 ⟨rfl, hw⟩
  rw [hw]
  clear hw w5
  go_wp2_with fail
  refine (refU32_any v2 (Fr.head n) (Cr.sum (Fr.head n ++ r)).toNat _ HS4.out (by rw [Fr.head_len]; omega) (sum_lt _)).mono ?_
  rintro e w6 ⟨v6, rfl, ho, hb⟩
  have HO6 : Hid (w6.ownsRow w4.heap.size 5 1 v6 12 (bc (Fr.head n ++ Fr.be4 (Cr.sum (Fr.head n ++ r)).toNat))) := ho
  have HW6 : Hid (w4.heap.size ≤ w6.heap.size) := hb.size
  have HB6 : Hid (Below w.heap.size w w6) := HB4.out.trans (hb.mono HB4.out.size)
  clear ho hb
  go_wp2_with (at_builtin; refine append_bs rfl _ _ rfl w4.heap.size v6 (.slice ao n c) 12 _ r w6 rfl rfl HO6.out HW6.out (HV.out.below HB6.out) (by omega) ?_)
  intro v7 w7 ho hb
  have HO7 : Hid (w7.ownsRow w4.heap.size 5 1 v7 (12 + r.length) (bc (Fr.frame r))) := by
    have h := ho
    have e : Fr.frame r = Fr.head n ++ Fr.be4 (Cr.sum (Fr.head n ++ r)).toNat ++ r := by rw [HN.out]; rfl
    show w7.ownsRow _ _ _ _ _ (bc (Fr.frame r))
    rw [e]
    exact h
  have HB7 : Hid (Below w.heap.size w w7) := HB6.out.trans (hb.mono HB4.out.size)
  clear ho hb
  go_wp2
  go_ret
  exact ⟨_, rfl, HO7.out.mono HB4.out.size, HB7.out⟩
end Go.Proofs.Ytnpdfendcffapaa
