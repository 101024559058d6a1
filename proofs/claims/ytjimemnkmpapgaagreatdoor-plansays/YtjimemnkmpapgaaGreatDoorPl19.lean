/- Numbers in eight bytes, the highest first: plain reckoning, no program. Replies in bytes, and back: plain reckoning, no program. -/
import Derived.Lib.AppendStr
namespace Go.Proofs.YtjimemnkmpapgaaGreatDoor.Pk

/-- The byte of a number at a shift. -/
def byteAt (z : Int) (s : Nat) : UInt8 := UInt8.ofNat (z % 18446744073709551616 / 2 ^ s % 256).toNat
/-- A number's eight bytes, the highest first. -/
def be8 (z : Int) : List UInt8 := [byteAt z 56, byteAt z 48, byteAt z 40, byteAt z 32, byteAt z 24, byteAt z 16, byteAt z 8, byteAt z 0]
/-- A text: how many bytes, and they. -/
def txt (l : List UInt8) : List UInt8 := be8 l.length ++ l
/-- What bytes say, the highest first. -/
def val (l : List UInt8) : Nat := l.foldl (fun v c => v * 256 + c.toNat) 0
/-- The number with a sign that 64 bits say. -/
def sgn (n : Nat) : Int := if n < 9223372036854775808 then n else n - 18446744073709551616

theorem byteAt_nat (z : Int) (s : Nat) : ((byteAt z s).toNat : Int) = z % 18446744073709551616 / 2 ^ s % 256 := by
  unfold byteAt
  rw [UInt8.toNat_ofNat']
  have h := Int.emod_nonneg (z % 18446744073709551616 / 2 ^ s) (show (256 : Int) ≠ 0 by decide)
  have h2 := Int.emod_lt_of_pos (z % 18446744073709551616 / 2 ^ s) (show (0 : Int) < 256 by decide)
  omega

theorem val_snoc (l : List UInt8) (x : UInt8) : val (l ++ [x]) = val l * 256 + x.toNat := by
  unfold val; rw [List.foldl_append]; rfl

theorem fold_lt (l : List UInt8) : ∀ a : Nat, l.foldl (fun v c => v * 256 + c.toNat) a < (a + 1) * 256 ^ l.length := by
  induction l with
  | nil => intro a; simp
  | cons x l ih =>
    intro a
    rw [List.foldl_cons, List.length_cons, Nat.pow_succ]
    have h1 := ih (a * 256 + x.toNat)
    have h2 : (a * 256 + x.toNat + 1) * 256 ^ l.length ≤ (a + 1) * 256 * 256 ^ l.length := Nat.mul_le_mul_right _ (by have := x.toNat_lt; omega)
    have h3 : (a + 1) * (256 ^ l.length * 256) = (a + 1) * 256 * 256 ^ l.length := by rw [Nat.mul_comm (256 ^ l.length), Nat.mul_assoc]
    omega

theorem val_lt (l : List UInt8) : val l < 256 ^ l.length := by
  have := fold_lt l 0
  simpa [val] using this

theorem or_byte (t x : Nat) (hx : x < 256) : (t * 256) ||| x = t * 256 + x := by
  have h := Nat.two_pow_add_eq_or_of_lt (i := 8) (show x < 2 ^ 8 by omega) t
  rw [Nat.mul_comm t 256]
  exact h.symm

/-- A Reader's I64: the number, what is left, whether it is Bad. -/
def rI (xs : List UInt8) (bad : Bool) : Int × List UInt8 × Bool := if 8 ≤ xs.length then (sgn (val (xs.take 8)), xs.drop 8, bad) else (0, [], true)
/-- A Reader's Count. -/
def rC (m : Int) (xs : List UInt8) (bad : Bool) : Int × List UInt8 × Bool := if (rI xs bad).1 < 0 ∨ m < (rI xs bad).1 then (0, [], true) else rI xs bad
/-- A Reader's Text. -/
def rT (m : Int) (xs : List UInt8) (bad : Bool) : List UInt8 × List UInt8 × Bool :=
  if (rC m xs bad).1.toNat ≤ (rC m xs bad).2.1.length then ((rC m xs bad).2.1.take (rC m xs bad).1.toNat, (rC m xs bad).2.1.drop (rC m xs bad).1.toNat, (rC m xs bad).2.2) else ([], [], true)

theorem rC_nonneg (m : Int) (xs : List UInt8) (bad : Bool) : 0 ≤ (rC m xs bad).1 := by
  unfold rC; split
  · exact Int.le_refl _
  · rename_i h
    have : ¬ (rI xs bad).1 < 0 := fun e => h (Or.inl e)
    omega

theorem be8_len (z : Int) : (be8 z).length = 8 := rfl

theorem val_be8 (z : Int) : (val (be8 z) : Int) = z % 18446744073709551616 := by
  have h0 := byteAt_nat z 0
  have h1 := byteAt_nat z 8
  have h2 := byteAt_nat z 16
  have h3 := byteAt_nat z 24
  have h4 := byteAt_nat z 32
  have h5 := byteAt_nat z 40
  have h6 := byteAt_nat z 48
  have h7 := byteAt_nat z 56
  simp only [val, be8, List.foldl_cons, List.foldl_nil]
  omega

theorem sgn_be8 (z : Int) (h1 : -9223372036854775808 ≤ z) (h2 : z ≤ 9223372036854775807) : sgn (val (be8 z)) = z := by
  have h := val_be8 z
  unfold sgn
  split <;> omega

theorem rI_be8 (z : Int) (r : List UInt8) (bad : Bool) (h1 : -9223372036854775808 ≤ z) (h2 : z ≤ 9223372036854775807) : rI (be8 z ++ r) bad = (z, r, bad) := by
  unfold rI
  rw [if_pos (by rw [List.length_append, be8_len]; omega), List.take_left' (be8_len z), List.drop_left' (be8_len z), sgn_be8 z h1 h2]

theorem rC_be8 (m z : Int) (r : List UInt8) (bad : Bool) (h1 : 0 ≤ z) (h2 : z ≤ 9223372036854775807) (hm : z ≤ m) : rC m (be8 z ++ r) bad = (z, r, bad) := by
  unfold rC
  rw [rI_be8 z r bad (by omega) h2, if_neg (by simp; omega)]

theorem rT_txt (m : Int) (l r : List UInt8) (bad : Bool) (h2 : l.length ≤ 9223372036854775807) (hm : (l.length : Int) ≤ m) : rT m (txt l ++ r) bad = (l, r, bad) := by
  unfold rT txt
  rw [List.append_assoc, rC_be8 m l.length (l ++ r) bad (by omega) (by omega) hm]
  simp

theorem rT_txt' (m : Int) (l : List UInt8) (bad : Bool) (h2 : l.length ≤ 9223372036854775807) (hm : (l.length : Int) ≤ m) : rT m (txt l) bad = (l, [], bad) := by
  have := rT_txt m l [] bad h2 hm
  rwa [List.append_nil] at this

theorem be8_inj {a b : Int} (ha1 : -9223372036854775808 ≤ a) (ha2 : a ≤ 9223372036854775807) (hb1 : -9223372036854775808 ≤ b) (hb2 : b ≤ 9223372036854775807) (h : be8 a = be8 b) : a = b := by
  have h1 := sgn_be8 a ha1 ha2
  rw [h, sgn_be8 b hb1 hb2] at h1
  exact h1.symm

theorem fold_add (l : List UInt8) : ∀ a : Nat, l.foldl (fun v c => v * 256 + c.toNat) a = a * 256 ^ l.length + val l := by
  induction l with
  | nil => intro a; simp [val]
  | cons x l ih =>
    intro a
    have e : val (x :: l) = x.toNat * 256 ^ l.length + val l := by
      show l.foldl (fun v c => v * 256 + c.toNat) (0 * 256 + x.toNat) = _
      rw [ih]; simp
    rw [List.foldl_cons, ih, e, List.length_cons, Nat.pow_succ, Nat.add_mul, Nat.mul_assoc, Nat.mul_comm 256, Nat.add_assoc]

theorem val_cons (x : UInt8) (l : List UInt8) : val (x :: l) = x.toNat * 256 ^ l.length + val l := by
  show (x :: l).foldl _ 0 = _
  rw [List.foldl_cons, fold_add]
  simp

theorem less_val : ∀ (l m : List UInt8), l.length = m.length → Go.Op.bytesLess l m = decide (val l < val m)
  | [], [], _ => by simp [Go.Op.bytesLess]
  | [], _ :: _, h => by cases h
  | _ :: _, [], h => by cases h
  | x :: l, y :: m, h => by
    have hl : l.length = m.length := by simpa using h
    have ih := less_val l m hl
    have b1 := val_lt l
    have b2 := val_lt m
    rw [hl] at b1
    rw [Go.Op.bytesLess, ih, val_cons, val_cons, hl]
    have hp : 0 < 256 ^ m.length := Nat.pow_pos (by decide)
    rcases Nat.lt_trichotomy x.toNat y.toNat with hxy | hxy | hxy
    · have hk : (x.toNat + 1) * 256 ^ m.length ≤ y.toNat * 256 ^ m.length := Nat.mul_le_mul_right _ hxy
      rw [Nat.add_mul] at hk
      have h1 : x < y := hxy
      simp [h1]
      omega
    · have e : x = y := UInt8.toNat_inj.1 hxy
      subst e
      simp
    · have hk : (y.toNat + 1) * 256 ^ m.length ≤ x.toNat * 256 ^ m.length := Nat.mul_le_mul_right _ hxy
      rw [Nat.add_mul] at hk
      have h1 : ¬ x < y := by show ¬ x.toNat < y.toNat; omega
      have h2 : (x == y) = false := by
        have h3 : x ≠ y := fun e => by rw [e] at hxy; omega
        simpa using h3
      rw [h2]
      simp [h1]
      omega

theorem be8_less {a b : Int} (ha1 : 0 ≤ a) (ha2 : a ≤ 9223372036854775807) (hb1 : 0 ≤ b) (hb2 : b ≤ 9223372036854775807) : Go.Op.bytesLess (be8 a) (be8 b) = decide (a < b) := by
  rw [less_val (be8 a) (be8 b) rfl]
  have h1 := val_be8 a
  have h2 := val_be8 b
  exact decide_eq_decide.2 (by omega)
end Go.Proofs.YtjimemnkmpapgaaGreatDoor.Pk
namespace Go.Proofs.YtjimemnkmpapgaaGreatDoor

/-- What one Op is answered. -/
structure X where
  err : Int
  path : ByteArray
  data : ByteArray
  names : List ByteArray
  made : Int
  changed : Int
  ver : Int
  kids : Int
  owner : Int
  len : Int
  cnt : Int

/-- A reply. -/
structure Rp where
  num : Int
  zxid : Int
  err : Int
  at_ : Int
  xs : List X

namespace Rq

/-- A number of 64 bits. -/
def Rng (z : Int) : Prop := -9223372036854775808 ≤ z ∧ z ≤ 9223372036854775807

/-- Numbers of 64 bits, texts that can be. -/
structure Fit (x : X) : Prop where
  err : Rng x.err
  made : Rng x.made
  changed : Rng x.changed
  ver : Rng x.ver
  kids : Rng x.kids
  owner : Rng x.owner
  len : Rng x.len
  cnt : Rng x.cnt
  path : x.path.size ≤ 9223372036854775807
  data : x.data.size ≤ 9223372036854775807
  count : x.names.length ≤ 9223372036854775807
  texts : ∀ t ∈ x.names, t.size ≤ 9223372036854775807

/-- The texts of a list. -/
def tbytes (ts : List ByteArray) : List UInt8 := ts.flatMap fun t => Pk.txt t.data.toList
/-- The Stat's bytes. -/
def sbytes (x : X) : List UInt8 := Pk.be8 x.made ++ Pk.be8 x.changed ++ Pk.be8 x.ver ++ Pk.be8 x.kids ++ Pk.be8 x.owner ++ Pk.be8 x.len ++ Pk.be8 x.cnt
/-- One result's bytes. -/
def xbytes (x : X) : List UInt8 := Pk.be8 x.err ++ Pk.txt x.path.data.toList ++ Pk.txt x.data.data.toList ++ Pk.be8 (x.names.length : Int) ++ tbytes x.names ++ sbytes x
/-- Put. -/
def bytes (r : Rp) : List UInt8 := Pk.be8 r.num ++ Pk.be8 r.zxid ++ Pk.be8 r.err ++ Pk.be8 r.at_ ++ Pk.be8 (r.xs.length : Int) ++ r.xs.flatMap xbytes

theorem be8_app {z z' : Int} {t t' : List UInt8} (h : Pk.be8 z ++ t = Pk.be8 z' ++ t') (hz : Rng z) (hz' : Rng z') : z = z' ∧ t = t' := by
  obtain ⟨h1, h2⟩ := List.append_inj h (by rw [Pk.be8_len, Pk.be8_len])
  exact ⟨Pk.be8_inj hz.1 (by have := hz.2; omega) hz'.1 (by have := hz'.2; omega) h1, h2⟩

theorem txt_app {l l' t t' : List UInt8} (h : Pk.txt l ++ t = Pk.txt l' ++ t') (hl : l.length ≤ 9223372036854775807) (hl' : l'.length ≤ 9223372036854775807) : l = l' ∧ t = t' := by
  unfold Pk.txt at h
  rw [List.append_assoc, List.append_assoc] at h
  obtain ⟨h1, h2⟩ := be8_app h ⟨by omega, by omega⟩ ⟨by omega, by omega⟩
  exact List.append_inj h2 (by omega)

theorem bytes_ext {a b : ByteArray} (h : a.data.toList = b.data.toList) : a = b := by
  obtain ⟨⟨x⟩⟩ := a
  obtain ⟨⟨y⟩⟩ := b
  have : x = y := h
  rw [this]

theorem tbytes_app : ∀ {a b : List ByteArray} {t t' : List UInt8}, a.length = b.length → (∀ x ∈ a, x.size ≤ 9223372036854775807) → (∀ x ∈ b, x.size ≤ 9223372036854775807) → tbytes a ++ t = tbytes b ++ t' → a = b ∧ t = t'
  | [], [], _, _, _, _, _, h => ⟨rfl, by simpa [tbytes] using h⟩
  | x :: a, y :: b, t, t', hl, ha, hb, h => by
    unfold tbytes at h
    rw [List.flatMap_cons, List.flatMap_cons, List.append_assoc, List.append_assoc] at h
    obtain ⟨e, h2⟩ := txt_app h (ha x (by simp)) (hb y (by simp))
    obtain ⟨e2, h3⟩ := tbytes_app (a := a) (b := b) (by simpa using hl) (fun z hz => ha z (by simp [hz])) (fun z hz => hb z (by simp [hz])) h2
    exact ⟨by rw [bytes_ext e, e2], h3⟩

theorem xbytes_app {x y : X} {t t' : List UInt8} (h : xbytes x ++ t = xbytes y ++ t') (hx : Fit x) (hy : Fit y) : x = y ∧ t = t' := by
  unfold xbytes sbytes at h
  simp only [List.append_assoc] at h
  obtain ⟨e1, h⟩ := be8_app h hx.err hy.err
  obtain ⟨e2, h⟩ := txt_app h hx.path hy.path
  obtain ⟨e3, h⟩ := txt_app h hx.data hy.data
  have c1 := hx.count
  have c2 := hy.count
  obtain ⟨e4, h⟩ := be8_app h ⟨by omega, by omega⟩ ⟨by omega, by omega⟩
  obtain ⟨e5, h⟩ := tbytes_app (by omega) hx.texts hy.texts h
  obtain ⟨e6, h⟩ := be8_app h hx.made hy.made
  obtain ⟨e7, h⟩ := be8_app h hx.changed hy.changed
  obtain ⟨e8, h⟩ := be8_app h hx.ver hy.ver
  obtain ⟨e9, h⟩ := be8_app h hx.kids hy.kids
  obtain ⟨e10, h⟩ := be8_app h hx.owner hy.owner
  obtain ⟨e11, h⟩ := be8_app h hx.len hy.len
  obtain ⟨e12, h⟩ := be8_app h hx.cnt hy.cnt
  refine ⟨?_, h⟩
  obtain ⟨a1, a2, a3, a4, a5, a6, a7, a8, a9, a10, a11⟩ := x
  obtain ⟨b1, b2, b3, b4, b5, b6, b7, b8, b9, b10, b11⟩ := y
  simp only [] at e1 e2 e3 e5 e6 e7 e8 e9 e10 e11 e12
  have e2' := bytes_ext e2
  have e3' := bytes_ext e3
  subst e1 e2' e3' e5 e6 e7 e8 e9 e10 e11 e12
  rfl

theorem flat_inj : ∀ {xs ys : List X}, xs.length = ys.length → (∀ x ∈ xs, Fit x) → (∀ x ∈ ys, Fit x) → xs.flatMap xbytes = ys.flatMap xbytes → xs = ys
  | [], [], _, _, _, _ => rfl
  | x :: xs, y :: ys, hl, hf, hf', h => by
    rw [List.flatMap_cons, List.flatMap_cons] at h
    obtain ⟨rfl, h2⟩ := xbytes_app h (hf x (by simp)) (hf' y (by simp))
    rw [flat_inj (by simpa using hl) (fun z hz => hf z (by simp [hz])) (fun z hz => hf' z (by simp [hz])) h2]

/-- Numbers of 64 bits, texts that can be, throughout. -/
structure FitR (r : Rp) : Prop where
  num : Rng r.num
  zxid : Rng r.zxid
  err : Rng r.err
  at_ : Rng r.at_
  count : r.xs.length ≤ 9223372036854775807
  xs : ∀ x ∈ r.xs, Fit x

/-- Unlike replies have unlike bytes. -/
theorem bytes_inj {r q : Rp} (h : bytes r = bytes q) (hr : FitR r) (hq : FitR q) : r = q := by
  unfold bytes at h
  simp only [List.append_assoc] at h
  obtain ⟨e1, h⟩ := be8_app h hr.num hq.num
  obtain ⟨e2, h⟩ := be8_app h hr.zxid hq.zxid
  obtain ⟨e3, h⟩ := be8_app h hr.err hq.err
  obtain ⟨e4, h⟩ := be8_app h hr.at_ hq.at_
  have c1 := hr.count
  have c2 := hq.count
  obtain ⟨e5, h⟩ := be8_app h ⟨by omega, by omega⟩ ⟨by omega, by omega⟩
  have e6 := flat_inj (by omega) hr.xs hq.xs h
  obtain ⟨a1, a2, a3, a4, a5⟩ := r
  obtain ⟨b1, b2, b3, b4, b5⟩ := q
  simp only [] at e1 e2 e3 e4 e6
  subst e1 e2 e3 e4 e6
  rfl

/-- Small enough to be read. -/
structure Small (x : X) : Prop where
  path : x.path.size ≤ 20000
  data : x.data.size ≤ 20000
  count : x.names.length ≤ 500
  texts : ∀ t ∈ x.names, t.size ≤ 20000

/-- Bytes are just those of such a reply. -/
structure Is (b : List UInt8) (r : Rp) : Prop where
  eq : bytes r = b
  fit : FitR r
  few : r.xs.length ≤ 16
  small : ∀ x ∈ r.xs, Small x

theorem is_inj {b : List UInt8} {r q : Rp} (h : Is b r) (k : Is b q) : r = q := bytes_inj (h.eq.trans k.eq.symm) h.fit k.fit

/-! What was read well was written so. -/

theorem rng_sgn {n : Nat} (h : n < 18446744073709551616) : Rng (Pk.sgn n) := by
  unfold Pk.sgn Rng
  constructor <;> split <;> omega

theorem val8 {l : List UInt8} (h : l.length = 8) : Pk.val l < 18446744073709551616 := by
  have h1 := Pk.val_lt l
  rw [h] at h1
  exact h1

theorem rI_rng (ys : List UInt8) (bad : Bool) : Rng (Pk.rI ys bad).1 := by
  unfold Pk.rI
  split
  · rename_i h
    exact rng_sgn (val8 (by rw [List.length_take]; omega))
  · exact ⟨by decide, by decide⟩

theorem byte_lt (x : UInt8) : x.toNat < 256 := x.toNat_lt

/-- Eight bytes are those of their number. -/
theorem be8_val : ∀ {l : List UInt8}, l.length = 8 → Pk.be8 (Pk.val l : Int) = l
  | [a, b, c, d, e, f, g, h], _ => by
    have ha := byte_lt a
    have hb := byte_lt b
    have hc := byte_lt c
    have hd := byte_lt d
    have he := byte_lt e
    have hf := byte_lt f
    have hg := byte_lt g
    have hh := byte_lt h
    have hv : Pk.val [a, b, c, d, e, f, g, h] = ((((((a.toNat * 256 + b.toNat) * 256 + c.toNat) * 256 + d.toNat) * 256 + e.toNat) * 256 + f.toNat) * 256 + g.toNat) * 256 + h.toNat := by
      simp [Pk.val]
    have key : ∀ (s : Nat) (x : UInt8), (((Pk.val [a, b, c, d, e, f, g, h] : Nat) : Int) % 18446744073709551616 / 2 ^ s % 256).toNat = x.toNat → Pk.byteAt ((Pk.val [a, b, c, d, e, f, g, h] : Nat) : Int) s = x := fun s x hx => by
      unfold Pk.byteAt
      rw [hx]
      exact UInt8.ofNat_toNat
    unfold Pk.be8
    rw [key 56 a, key 48 b, key 40 c, key 32 d, key 24 e, key 16 f, key 8 g, key 0 h]
    all_goals
      rw [hv]
      omega

theorem be8_sgn (n : Nat) : Pk.be8 (Pk.sgn n) = Pk.be8 (n : Int) := by
  unfold Pk.sgn
  split
  · rfl
  · have e : ∀ s, Pk.byteAt ((n : Int) - 18446744073709551616) s = Pk.byteAt (n : Int) s := fun s => by
      unfold Pk.byteAt
      have : ((n : Int) - 18446744073709551616) % 18446744073709551616 = (n : Int) % 18446744073709551616 := by omega
      rw [this]
    unfold Pk.be8
    simp only [e]

/-- A number that was read well stood there. -/
theorem rI_inv {ys : List UInt8} {bad : Bool} (h : (Pk.rI ys bad).2.2 = false) : bad = false ∧ ys = Pk.be8 (Pk.rI ys bad).1 ++ (Pk.rI ys bad).2.1 := by
  unfold Pk.rI at h ⊢
  split at h
  · rename_i h8
    rw [if_pos h8]
    simp only [] at h ⊢
    refine ⟨h, ?_⟩
    have hl : (ys.take 8).length = 8 := by rw [List.length_take]; omega
    rw [be8_sgn, be8_val hl, List.take_append_drop]
  · cases h

theorem rC_inv {m : Int} {ys : List UInt8} {bad : Bool} (h : (Pk.rC m ys bad).2.2 = false) : bad = false ∧ ys = Pk.be8 (Pk.rC m ys bad).1 ++ (Pk.rC m ys bad).2.1 ∧ 0 ≤ (Pk.rC m ys bad).1 ∧ (Pk.rC m ys bad).1 ≤ m := by
  unfold Pk.rC at h ⊢
  split at h
  · cases h
  · rename_i hc
    rw [if_neg hc]
    obtain ⟨h1, h2⟩ := rI_inv h
    exact ⟨h1, h2, by omega, by omega⟩

theorem rT_inv {m : Int} {ys : List UInt8} {bad : Bool} (h : (Pk.rT m ys bad).2.2 = false) : bad = false ∧ ys = Pk.txt (Pk.rT m ys bad).1 ++ (Pk.rT m ys bad).2.1 ∧ ((Pk.rT m ys bad).1.length : Int) ≤ m := by
  unfold Pk.rT at h ⊢
  split at h
  · rename_i hc
    rw [if_pos hc]
    simp only [] at h ⊢
    obtain ⟨h1, h2, h3, h4⟩ := rC_inv h
    generalize Pk.rC m ys bad = c at *
    have hl : (c.2.1.take c.1.toNat).length = c.1.toNat := by rw [List.length_take]; omega
    refine ⟨h1, ?_, by rw [hl]; omega⟩
    unfold Pk.txt
    rw [hl, show ((c.1.toNat : Nat) : Int) = c.1 by omega, List.append_assoc, List.take_append_drop]
    exact h2
  · cases h
end Rq
end Go.Proofs.YtjimemnkmpapgaaGreatDoor
