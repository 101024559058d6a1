/- Numbers in eight bytes, the highest first: plain reckoning, no program. -/
import Derived.Lib.AppendStr
namespace Go.Proofs.YtjimemnkmpapgaaGreatDoor.Pk

/-- The byte of a number at a shift. -/
def byteAt (z : Int) (s : Nat) : UInt8 := UInt8.ofNat (z % 18446744073709551616 / 2 ^ s % 256).toNat
/-- A number's eight bytes, the highest first. -/
def be8 (z : Int) : List UInt8 := [byteAt z 56, byteAt z 48, byteAt z 40, byteAt z 32, byteAt z 24, byteAt z 16, byteAt z 8, byteAt z 0]
/-- A text: how many bytes, and they. -/
def txt (l : List UInt8) : List UInt8 := be8 l.length ++ l
/-- What bytes say, the highest first. -/
def val (l : List UInt8) : Nat := l.foldl (fun v c => v * 256 + c.toNat) 0
/-- The number with a sign that 64 bits say. -/
def sgn (n : Nat) : Int := if n < 9223372036854775808 then n else n - 18446744073709551616

theorem byteAt_nat (z : Int) (s : Nat) : ((byteAt z s).toNat : Int) = z % 18446744073709551616 / 2 ^ s % 256 := by
  unfold byteAt
  rw [UInt8.toNat_ofNat']
  have h := Int.emod_nonneg (z % 18446744073709551616 / 2 ^ s) (show (256 : Int) ≠ 0 by decide)
  have h2 := Int.emod_lt_of_pos (z % 18446744073709551616 / 2 ^ s) (show (0 : Int) < 256 by decide)
  omega

theorem val_snoc (l : List UInt8) (x : UInt8) : val (l ++ [x]) = val l * 256 + x.toNat := by
  unfold val; rw [List.foldl_append]; rfl

theorem fold_lt (l : List UInt8) : ∀ a : Nat, l.foldl (fun v c => v * 256 + c.toNat) a < (a + 1) * 256 ^ l.length := by
  induction l with
  | nil => intro a; simp
  | cons x l ih =>
    intro a
    rw [List.foldl_cons, List.length_cons, Nat.pow_succ]
    have h1 := ih (a * 256 + x.toNat)
    have h2 : (a * 256 + x.toNat + 1) * 256 ^ l.length ≤ (a + 1) * 256 * 256 ^ l.length := Nat.mul_le_mul_right _ (by have := x.toNat_lt; omega)
    have h3 : (a + 1) * (256 ^ l.length * 256) = (a + 1) * 256 * 256 ^ l.length := by rw [Nat.mul_comm (256 ^ l.length), Nat.mul_assoc]
    omega

theorem val_lt (l : List UInt8) : val l < 256 ^ l.length := by
  have := fold_lt l 0
  simpa [val] using this

theorem or_byte (t x : Nat) (hx : x < 256) : (t * 256) ||| x = t * 256 + x := by
  have h := Nat.two_pow_add_eq_or_of_lt (i := 8) (show x < 2 ^ 8 by omega) t
  rw [Nat.mul_comm t 256]
  exact h.symm

/-- A Reader's I64: the number, what is left, whether it is Bad. -/
def rI (xs : List UInt8) (bad : Bool) : Int × List UInt8 × Bool := if 8 ≤ xs.length then (sgn (val (xs.take 8)), xs.drop 8, bad) else (0, [], true)
/-- A Reader's Count. -/
def rC (m : Int) (xs : List UInt8) (bad : Bool) : Int × List UInt8 × Bool := if (rI xs bad).1 < 0 ∨ m < (rI xs bad).1 then (0, [], true) else rI xs bad
/-- A Reader's Text. -/
def rT (m : Int) (xs : List UInt8) (bad : Bool) : List UInt8 × List UInt8 × Bool :=
  if (rC m xs bad).1.toNat ≤ (rC m xs bad).2.1.length then ((rC m xs bad).2.1.take (rC m xs bad).1.toNat, (rC m xs bad).2.1.drop (rC m xs bad).1.toNat, (rC m xs bad).2.2) else ([], [], true)

theorem rC_nonneg (m : Int) (xs : List UInt8) (bad : Bool) : 0 ≤ (rC m xs bad).1 := by
  unfold rC; split
  · exact Int.le_refl _
  · rename_i h
    have : ¬ (rI xs bad).1 < 0 := fun e => h (Or.inl e)
    omega

theorem be8_len (z : Int) : (be8 z).length = 8 := rfl

theorem val_be8 (z : Int) : (val (be8 z) : Int) = z % 18446744073709551616 := by
  have h0 := byteAt_nat z 0
  have h1 := byteAt_nat z 8
  have h2 := byteAt_nat z 16
  have h3 := byteAt_nat z 24
  have h4 := byteAt_nat z 32
  have h5 := byteAt_nat z 40
  have h6 := byteAt_nat z 48
  have h7 := byteAt_nat z 56
  simp only [val, be8, List.foldl_cons, List.foldl_nil]
  omega

theorem sgn_be8 (z : Int) (h1 : -9223372036854775808 ≤ z) (h2 : z ≤ 9223372036854775807) : sgn (val (be8 z)) = z := by
  have h := val_be8 z
  unfold sgn
  split <;> omega

theorem rI_be8 (z : Int) (r : List UInt8) (bad : Bool) (h1 : -9223372036854775808 ≤ z) (h2 : z ≤ 9223372036854775807) : rI (be8 z ++ r) bad = (z, r, bad) := by
  unfold rI
  rw [if_pos (by rw [List.length_append, be8_len]; omega), List.take_left' (be8_len z), List.drop_left' (be8_len z), sgn_be8 z h1 h2]

theorem rC_be8 (m z : Int) (r : List UInt8) (bad : Bool) (h1 : 0 ≤ z) (h2 : z ≤ 9223372036854775807) (hm : z ≤ m) : rC m (be8 z ++ r) bad = (z, r, bad) := by
  unfold rC
  rw [rI_be8 z r bad (by omega) h2, if_neg (by simp; omega)]

theorem rT_txt (m : Int) (l r : List UInt8) (bad : Bool) (h2 : l.length ≤ 9223372036854775807) (hm : (l.length : Int) ≤ m) : rT m (txt l ++ r) bad = (l, r, bad) := by
  unfold rT txt
  rw [List.append_assoc, rC_be8 m l.length (l ++ r) bad (by omega) (by omega) hm]
  simp

theorem rT_txt' (m : Int) (l : List UInt8) (bad : Bool) (h2 : l.length ≤ 9223372036854775807) (hm : (l.length : Int) ≤ m) : rT m (txt l) bad = (l, [], bad) := by
  have := rT_txt m l [] bad h2 hm
  rwa [List.append_nil] at this

theorem be8_inj {a b : Int} (ha1 : -9223372036854775808 ≤ a) (ha2 : a ≤ 9223372036854775807) (hb1 : -9223372036854775808 ≤ b) (hb2 : b ≤ 9223372036854775807) (h : be8 a = be8 b) : a = b := by
  have h1 := sgn_be8 a ha1 ha2
  rw [h, sgn_be8 b hb1 hb2] at h1
  exact h1.symm

theorem fold_add (l : List UInt8) : ∀ a : Nat, l.foldl (fun v c => v * 256 + c.toNat) a = a * 256 ^ l.length + val l := by
  induction l with
  | nil => intro a; simp [val]
  | cons x l ih =>
    intro a
    have e : val (x :: l) = x.toNat * 256 ^ l.length + val l := by
      show l.foldl (fun v c => v * 256 + c.toNat) (0 * 256 + x.toNat) = _
      rw [ih]; simp
    rw [List.foldl_cons, ih, e, List.length_cons, Nat.pow_succ, Nat.add_mul, Nat.mul_assoc, Nat.mul_comm 256, Nat.add_assoc]

theorem val_cons (x : UInt8) (l : List UInt8) : val (x :: l) = x.toNat * 256 ^ l.length + val l := by
  show (x :: l).foldl _ 0 = _
  rw [List.foldl_cons, fold_add]
  simp

theorem less_val : ∀ (l m : List UInt8), l.length = m.length → Go.Op.bytesLess l m = decide (val l < val m)
  | [], [], _ => by simp [Go.Op.bytesLess]
  | [], _ :: _, h => by cases h
  | _ :: _, [], h => by cases h
  | x :: l, y :: m, h => by
    have hl : l.length = m.length := by simpa using h
    have ih := less_val l m hl
    have b1 := val_lt l
    have b2 := val_lt m
    rw [hl] at b1
    rw [Go.Op.bytesLess, ih, val_cons, val_cons, hl]
    have hp : 0 < 256 ^ m.length := Nat.pow_pos (by decide)
    rcases Nat.lt_trichotomy x.toNat y.toNat with hxy | hxy | hxy
    · have hk : (x.toNat + 1) * 256 ^ m.length ≤ y.toNat * 256 ^ m.length := Nat.mul_le_mul_right _ hxy
      rw [Nat.add_mul] at hk
      have h1 : x < y := hxy
      simp [h1]
      omega
    · have e : x = y := UInt8.toNat_inj.1 hxy
      subst e
      simp
    · have hk : (y.toNat + 1) * 256 ^ m.length ≤ x.toNat * 256 ^ m.length := Nat.mul_le_mul_right _ hxy
      rw [Nat.add_mul] at hk
      have h1 : ¬ x < y := by show ¬ x.toNat < y.toNat; omega
      have h2 : (x == y) = false := by
        have h3 : x ≠ y := fun e => by rw [e] at hxy; omega
        simpa using h3
      rw [h2]
      simp [h1]
      omega

theorem be8_less {a b : Int} (ha1 : 0 ≤ a) (ha2 : a ≤ 9223372036854775807) (hb1 : 0 ≤ b) (hb2 : b ≤ 9223372036854775807) : Go.Op.bytesLess (be8 a) (be8 b) = decide (a < b) := by
  rw [less_val (be8 a) (be8 b) rfl]
  have h1 := val_be8 a
  have h2 := val_be8 b
  exact decide_eq_decide.2 (by omega)
end Go.Proofs.YtjimemnkmpapgaaGreatDoor.Pk
