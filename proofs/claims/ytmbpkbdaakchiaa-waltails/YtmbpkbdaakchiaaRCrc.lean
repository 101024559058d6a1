/- What the reference's Crc, u32 and at32 answer. -/
import Derived.Test.YtmbpkbdaakchiaaWCrc
import Derived.Test.YtmbpkbdaakchiaaPlainG
import Derived.BigRegion
import Derived.Deep.QuietTactic
import Derived.BigQuiet
import Derived.Deep.RegionWith
namespace Go.Proofs.Ytmbpkbdaakchiaa
open Go.RowKit

theorem half32 (c : BitVec 32) : (c.toNat : Int) / (2 : Int) = ((c >>> 1).toNat : Int) := by
  rw [BitVec.toNat_ushiftRight, Nat.shiftRight_eq_div_pow]
  simp

theorem step_one {c : BitVec 32} (h : c.getLsbD 0 = true) : bits .xor .u32 ((c.toNat : Int) / 2) 3988292384 = ((Cr.step c).toNat : Int) := by
  have e : (3988292384 : Int) = (Cr.poly.toNat : Int) := rfl
  rw [half32, e, xor32]
  unfold Cr.step
  rw [h]
  simp

theorem step_none {c : BitVec 32} (h : c.getLsbD 0 = false) : (c.toNat : Int) / (2 : Int) = ((Cr.step c).toNat : Int) := by
  rw [half32]
  unfold Cr.step
  rw [h]
  simp

theorem be4_cells (z : Nat) : #[Value.int .u8 ((z : Int) / 16777216 % 256), Value.int .u8 ((z : Int) / 65536 % 256), Value.int .u8 ((z : Int) / 256 % 256), Value.int .u8 ((z : Int) % 256)] = (bc (Fr.be4 z)).toArray := by
  have e : ∀ n : Nat, (((UInt8.ofNat (n % 256)).toNat : Nat) : Int) = (n : Int) % 256 := fun n => by
    rw [UInt8.toNat_ofNat']
    omega
  unfold Fr.be4 bc
  simp only [List.map_cons, List.map_nil, e]
  rfl

theorem or32 (a b : Nat) (ha : a < 4294967296) (hb : b < 4294967296) : bits .or .u32 (a : Int) (b : Int) = ((a ||| b : Nat) : Int) := by
  show IntKind.wrap .u32 ((BitVec.ofInt 32 (a : Int) ||| BitVec.ofInt 32 (b : Int)).toNat : Int) = _
  rw [BitVec.ofInt_natCast, BitVec.ofInt_natCast, wrap_toNat, BitVec.toNat_or, BitVec.toNat_ofNat, BitVec.toNat_ofNat, Nat.mod_eq_of_lt (by omega), Nat.mod_eq_of_lt (by omega)]

theorem at32_val (a b c d : UInt8) : bits .or .u32 (bits .or .u32 (bits .or .u32 ((a.toNat : Int) * 16777216) ((b.toNat : Int) * 65536)) ((c.toNat : Int) * 256)) (d.toNat : Int) = (Pk.val [a, b, c, d] : Int) := by
  have ha := a.toNat_lt
  have hb := b.toNat_lt
  have hc := c.toNat_lt
  have hd := d.toNat_lt
  have e1 : bits .or .u32 ((a.toNat : Int) * 16777216) ((b.toNat : Int) * 65536) = ((a.toNat * 16777216 + b.toNat * 65536 : Nat) : Int) := by
    have h := or32 (a.toNat * 16777216) (b.toNat * 65536) (by omega) (by omega)
    have h2 : a.toNat * 16777216 ||| b.toNat * 65536 = a.toNat * 16777216 + b.toNat * 65536 := by
      have := Nat.two_pow_add_eq_or_of_lt (i := 24) (b := b.toNat * 65536) (by omega) a.toNat
      rw [Nat.mul_comm a.toNat 16777216]
      exact this.symm
    rw [h2] at h
    rw [← h]
    simp
  have e2 : bits .or .u32 ((a.toNat * 16777216 + b.toNat * 65536 : Nat) : Int) ((c.toNat : Int) * 256) = ((a.toNat * 16777216 + b.toNat * 65536 + c.toNat * 256 : Nat) : Int) := by
    have h := or32 (a.toNat * 16777216 + b.toNat * 65536) (c.toNat * 256) (by omega) (by omega)
    have h2 : a.toNat * 16777216 + b.toNat * 65536 ||| c.toNat * 256 = a.toNat * 16777216 + b.toNat * 65536 + c.toNat * 256 := by
      have := Nat.two_pow_add_eq_or_of_lt (i := 16) (b := c.toNat * 256) (by omega) (a.toNat * 256 + b.toNat)
      have e : a.toNat * 16777216 + b.toNat * 65536 = 2 ^ 16 * (a.toNat * 256 + b.toNat) := by omega
      rw [e]
      exact this.symm
    rw [h2] at h
    rw [← h]
    simp
  have e3 : bits .or .u32 ((a.toNat * 16777216 + b.toNat * 65536 + c.toNat * 256 : Nat) : Int) (d.toNat : Int) = ((a.toNat * 16777216 + b.toNat * 65536 + c.toNat * 256 + d.toNat : Nat) : Int) := by
    have h := or32 (a.toNat * 16777216 + b.toNat * 65536 + c.toNat * 256) d.toNat (by omega) (by omega)
    have h2 : a.toNat * 16777216 + b.toNat * 65536 + c.toNat * 256 ||| d.toNat = a.toNat * 16777216 + b.toNat * 65536 + c.toNat * 256 + d.toNat := by
      have := Nat.two_pow_add_eq_or_of_lt (i := 8) (b := d.toNat) (by omega) (a.toNat * 65536 + b.toNat * 256 + c.toNat)
      have e : a.toNat * 16777216 + b.toNat * 65536 + c.toNat * 256 = 2 ^ 8 * (a.toNat * 65536 + b.toNat * 256 + c.toNat) := by omega
      rw [e]
      exact this.symm
    rw [h2] at h
    exact h
  rw [e1, e2, e3]
  unfold Pk.val
  simp only [List.foldl_cons, List.foldl_nil]
  omega

theorem at32_mod (a b c d : UInt8) : bits .or .u32 (bits .or .u32 (bits .or .u32 ((a.toNat : Int) % 4294967296 * 16777216 % 4294967296) ((b.toNat : Int) % 4294967296 * 65536 % 4294967296)) ((c.toNat : Int) % 4294967296 * 256 % 4294967296)) ((d.toNat : Int) % 4294967296) = (Pk.val [a, b, c, d] : Int) := by
  have ha := a.toNat_lt
  have hb := b.toNat_lt
  have hc := c.toNat_lt
  have hd := d.toNat_lt
  have e0 : (a.toNat : Int) % 4294967296 * 16777216 % 4294967296 = (a.toNat : Int) * 16777216 := by omega
  have e1 : (b.toNat : Int) % 4294967296 * 65536 % 4294967296 = (b.toNat : Int) * 65536 := by omega
  have e2 : (c.toNat : Int) % 4294967296 * 256 % 4294967296 = (c.toNat : Int) * 256 := by omega
  have e3 : (d.toNat : Int) % 4294967296 = (d.toNat : Int) := by omega
  rw [e0, e1, e2, e3, at32_val]

theorem take4 {xs : List UInt8} (h : 4 ≤ xs.length) : ∃ a b c d, xs.take 4 = [a, b, c, d] ∧ xs[0]? = some a ∧ xs[1]? = some b ∧ xs[2]? = some c ∧ xs[3]? = some d := by
  match xs, h with
  | a :: b :: c :: d :: t, _ => exact ⟨a, b, c, d, rfl, rfl, rfl, rfl, rfl⟩

theorem sum_lt (l : List UInt8) : (Cr.sum l).toNat < 4294967296 := (Cr.sum l).isLt

theorem turn32 (n : Nat) (h : n < 4294967296) : bits .xor .u32 4294967295 (n : Int) = ((4294967295 - n : Nat) : Int) := by
  have e : (n : Int) = ((BitVec.ofNat 32 n).toNat : Int) := by rw [BitVec.toNat_ofNat, Nat.mod_eq_of_lt (by omega)]
  rw [e, not32, BitVec.toNat_not, BitVec.toNat_ofNat, Nat.mod_eq_of_lt (by omega)]

theorem turn32m (n : Nat) (h : n < 4294967296) : bits .xor .u32 (IntKind.max .u32) (n : Int) = ((4294967295 - n : Nat) : Int) := turn32 n h

end Go.Proofs.Ytmbpkbdaakchiaa
