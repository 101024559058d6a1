/- Replies in bytes, and back: plain reckoning, no program. -/
import Derived.Test.YtjimemnkmpapgaaGreatDoorPlain
namespace Go.Proofs.YtjimemnkmpapgaaGreatDoor

/-- What one Op is answered. -/
structure X where
  err : Int
  path : ByteArray
  data : ByteArray
  names : List ByteArray
  made : Int
  changed : Int
  ver : Int
  kids : Int
  owner : Int
  len : Int
  cnt : Int

/-- A reply. -/
structure Rp where
  num : Int
  zxid : Int
  err : Int
  at_ : Int
  xs : List X

namespace Rq

/-- A number of 64 bits. -/
def Rng (z : Int) : Prop := -9223372036854775808 ≤ z ∧ z ≤ 9223372036854775807

/-- Numbers of 64 bits, texts that can be. -/
structure Fit (x : X) : Prop where
  err : Rng x.err
  made : Rng x.made
  changed : Rng x.changed
  ver : Rng x.ver
  kids : Rng x.kids
  owner : Rng x.owner
  len : Rng x.len
  cnt : Rng x.cnt
  path : x.path.size ≤ 9223372036854775807
  data : x.data.size ≤ 9223372036854775807
  count : x.names.length ≤ 9223372036854775807
  texts : ∀ t ∈ x.names, t.size ≤ 9223372036854775807

/-- The texts of a list. -/
def tbytes (ts : List ByteArray) : List UInt8 := ts.flatMap fun t => Pk.txt t.data.toList
/-- The Stat's bytes. -/
def sbytes (x : X) : List UInt8 := Pk.be8 x.made ++ Pk.be8 x.changed ++ Pk.be8 x.ver ++ Pk.be8 x.kids ++ Pk.be8 x.owner ++ Pk.be8 x.len ++ Pk.be8 x.cnt
/-- One result's bytes. -/
def xbytes (x : X) : List UInt8 := Pk.be8 x.err ++ Pk.txt x.path.data.toList ++ Pk.txt x.data.data.toList ++ Pk.be8 (x.names.length : Int) ++ tbytes x.names ++ sbytes x
/-- Put. -/
def bytes (r : Rp) : List UInt8 := Pk.be8 r.num ++ Pk.be8 r.zxid ++ Pk.be8 r.err ++ Pk.be8 r.at_ ++ Pk.be8 (r.xs.length : Int) ++ r.xs.flatMap xbytes

theorem be8_app {z z' : Int} {t t' : List UInt8} (h : Pk.be8 z ++ t = Pk.be8 z' ++ t') (hz : Rng z) (hz' : Rng z') : z = z' ∧ t = t' := by
  obtain ⟨h1, h2⟩ := List.append_inj h (by rw [Pk.be8_len, Pk.be8_len])
  exact ⟨Pk.be8_inj hz.1 (by have := hz.2; omega) hz'.1 (by have := hz'.2; omega) h1, h2⟩

theorem txt_app {l l' t t' : List UInt8} (h : Pk.txt l ++ t = Pk.txt l' ++ t') (hl : l.length ≤ 9223372036854775807) (hl' : l'.length ≤ 9223372036854775807) : l = l' ∧ t = t' := by
  unfold Pk.txt at h
  rw [List.append_assoc, List.append_assoc] at h
  obtain ⟨h1, h2⟩ := be8_app h ⟨by omega, by omega⟩ ⟨by omega, by omega⟩
  exact List.append_inj h2 (by omega)

theorem bytes_ext {a b : ByteArray} (h : a.data.toList = b.data.toList) : a = b := by
  obtain ⟨⟨x⟩⟩ := a
  obtain ⟨⟨y⟩⟩ := b
  have : x = y := h
  rw [this]

theorem tbytes_app : ∀ {a b : List ByteArray} {t t' : List UInt8}, a.length = b.length → (∀ x ∈ a, x.size ≤ 9223372036854775807) → (∀ x ∈ b, x.size ≤ 9223372036854775807) → tbytes a ++ t = tbytes b ++ t' → a = b ∧ t = t'
  | [], [], _, _, _, _, _, h => ⟨rfl, by simpa [tbytes] using h⟩
  | x :: a, y :: b, t, t', hl, ha, hb, h => by
    unfold tbytes at h
    rw [List.flatMap_cons, List.flatMap_cons, List.append_assoc, List.append_assoc] at h
    obtain ⟨e, h2⟩ := txt_app h (ha x (by simp)) (hb y (by simp))
    obtain ⟨e2, h3⟩ := tbytes_app (a := a) (b := b) (by simpa using hl) (fun z hz => ha z (by simp [hz])) (fun z hz => hb z (by simp [hz])) h2
    exact ⟨by rw [bytes_ext e, e2], h3⟩

theorem xbytes_app {x y : X} {t t' : List UInt8} (h : xbytes x ++ t = xbytes y ++ t') (hx : Fit x) (hy : Fit y) : x = y ∧ t = t' := by
  unfold xbytes sbytes at h
  simp only [List.append_assoc] at h
  obtain ⟨e1, h⟩ := be8_app h hx.err hy.err
  obtain ⟨e2, h⟩ := txt_app h hx.path hy.path
  obtain ⟨e3, h⟩ := txt_app h hx.data hy.data
  have c1 := hx.count
  have c2 := hy.count
  obtain ⟨e4, h⟩ := be8_app h ⟨by omega, by omega⟩ ⟨by omega, by omega⟩
  obtain ⟨e5, h⟩ := tbytes_app (by omega) hx.texts hy.texts h
  obtain ⟨e6, h⟩ := be8_app h hx.made hy.made
  obtain ⟨e7, h⟩ := be8_app h hx.changed hy.changed
  obtain ⟨e8, h⟩ := be8_app h hx.ver hy.ver
  obtain ⟨e9, h⟩ := be8_app h hx.kids hy.kids
  obtain ⟨e10, h⟩ := be8_app h hx.owner hy.owner
  obtain ⟨e11, h⟩ := be8_app h hx.len hy.len
  obtain ⟨e12, h⟩ := be8_app h hx.cnt hy.cnt
  refine ⟨?_, h⟩
  obtain ⟨a1, a2, a3, a4, a5, a6, a7, a8, a9, a10, a11⟩ := x
  obtain ⟨b1, b2, b3, b4, b5, b6, b7, b8, b9, b10, b11⟩ := y
  simp only [] at e1 e2 e3 e5 e6 e7 e8 e9 e10 e11 e12
  have e2' := bytes_ext e2
  have e3' := bytes_ext e3
  subst e1 e2' e3' e5 e6 e7 e8 e9 e10 e11 e12
  rfl

theorem flat_inj : ∀ {xs ys : List X}, xs.length = ys.length → (∀ x ∈ xs, Fit x) → (∀ x ∈ ys, Fit x) → xs.flatMap xbytes = ys.flatMap xbytes → xs = ys
  | [], [], _, _, _, _ => rfl
  | x :: xs, y :: ys, hl, hf, hf', h => by
    rw [List.flatMap_cons, List.flatMap_cons] at h
    obtain ⟨rfl, h2⟩ := xbytes_app h (hf x (by simp)) (hf' y (by simp))
    rw [flat_inj (by simpa using hl) (fun z hz => hf z (by simp [hz])) (fun z hz => hf' z (by simp [hz])) h2]

/-- Numbers of 64 bits, texts that can be, throughout. -/
structure FitR (r : Rp) : Prop where
  num : Rng r.num
  zxid : Rng r.zxid
  err : Rng r.err
  at_ : Rng r.at_
  count : r.xs.length ≤ 9223372036854775807
  xs : ∀ x ∈ r.xs, Fit x

/-- Unlike replies have unlike bytes. -/
theorem bytes_inj {r q : Rp} (h : bytes r = bytes q) (hr : FitR r) (hq : FitR q) : r = q := by
  unfold bytes at h
  simp only [List.append_assoc] at h
  obtain ⟨e1, h⟩ := be8_app h hr.num hq.num
  obtain ⟨e2, h⟩ := be8_app h hr.zxid hq.zxid
  obtain ⟨e3, h⟩ := be8_app h hr.err hq.err
  obtain ⟨e4, h⟩ := be8_app h hr.at_ hq.at_
  have c1 := hr.count
  have c2 := hq.count
  obtain ⟨e5, h⟩ := be8_app h ⟨by omega, by omega⟩ ⟨by omega, by omega⟩
  have e6 := flat_inj (by omega) hr.xs hq.xs h
  obtain ⟨a1, a2, a3, a4, a5⟩ := r
  obtain ⟨b1, b2, b3, b4, b5⟩ := q
  simp only [] at e1 e2 e3 e4 e6
  subst e1 e2 e3 e4 e6
  rfl

/-- Small enough to be read. -/
structure Small (x : X) : Prop where
  path : x.path.size ≤ 20000
  data : x.data.size ≤ 20000
  count : x.names.length ≤ 500
  texts : ∀ t ∈ x.names, t.size ≤ 20000

/-- Bytes are just those of such a reply. -/
structure Is (b : List UInt8) (r : Rp) : Prop where
  eq : bytes r = b
  fit : FitR r
  few : r.xs.length ≤ 16
  small : ∀ x ∈ r.xs, Small x

theorem is_inj {b : List UInt8} {r q : Rp} (h : Is b r) (k : Is b q) : r = q := bytes_inj (h.eq.trans k.eq.symm) h.fit k.fit

/-! What was read well was written so. -/

theorem rng_sgn {n : Nat} (h : n < 18446744073709551616) : Rng (Pk.sgn n) := by
  unfold Pk.sgn Rng
  constructor <;> split <;> omega

theorem val8 {l : List UInt8} (h : l.length = 8) : Pk.val l < 18446744073709551616 := by
  have h1 := Pk.val_lt l
  rw [h] at h1
  exact h1

theorem rI_rng (ys : List UInt8) (bad : Bool) : Rng (Pk.rI ys bad).1 := by
  unfold Pk.rI
  split
  · rename_i h
    exact rng_sgn (val8 (by rw [List.length_take]; omega))
  · exact ⟨by decide, by decide⟩

theorem byte_lt (x : UInt8) : x.toNat < 256 := x.toNat_lt

/-- Eight bytes are those of their number. -/
theorem be8_val : ∀ {l : List UInt8}, l.length = 8 → Pk.be8 (Pk.val l : Int) = l
  | [a, b, c, d, e, f, g, h], _ => by
    have ha := byte_lt a
    have hb := byte_lt b
    have hc := byte_lt c
    have hd := byte_lt d
    have he := byte_lt e
    have hf := byte_lt f
    have hg := byte_lt g
    have hh := byte_lt h
    have hv : Pk.val [a, b, c, d, e, f, g, h] = ((((((a.toNat * 256 + b.toNat) * 256 + c.toNat) * 256 + d.toNat) * 256 + e.toNat) * 256 + f.toNat) * 256 + g.toNat) * 256 + h.toNat := by
      simp [Pk.val]
    have key : ∀ (s : Nat) (x : UInt8), (((Pk.val [a, b, c, d, e, f, g, h] : Nat) : Int) % 18446744073709551616 / 2 ^ s % 256).toNat = x.toNat → Pk.byteAt ((Pk.val [a, b, c, d, e, f, g, h] : Nat) : Int) s = x := fun s x hx => by
      unfold Pk.byteAt
      rw [hx]
      exact UInt8.ofNat_toNat
    unfold Pk.be8
    rw [key 56 a, key 48 b, key 40 c, key 32 d, key 24 e, key 16 f, key 8 g, key 0 h]
    all_goals
      rw [hv]
      omega

theorem be8_sgn (n : Nat) : Pk.be8 (Pk.sgn n) = Pk.be8 (n : Int) := by
  unfold Pk.sgn
  split
  · rfl
  · have e : ∀ s, Pk.byteAt ((n : Int) - 18446744073709551616) s = Pk.byteAt (n : Int) s := fun s => by
      unfold Pk.byteAt
      have : ((n : Int) - 18446744073709551616) % 18446744073709551616 = (n : Int) % 18446744073709551616 := by omega
      rw [this]
    unfold Pk.be8
    simp only [e]

/-- A number that was read well stood there. -/
theorem rI_inv {ys : List UInt8} {bad : Bool} (h : (Pk.rI ys bad).2.2 = false) : bad = false ∧ ys = Pk.be8 (Pk.rI ys bad).1 ++ (Pk.rI ys bad).2.1 := by
  unfold Pk.rI at h ⊢
  split at h
  · rename_i h8
    rw [if_pos h8]
    simp only [] at h ⊢
    refine ⟨h, ?_⟩
    have hl : (ys.take 8).length = 8 := by rw [List.length_take]; omega
    rw [be8_sgn, be8_val hl, List.take_append_drop]
  · cases h

theorem rC_inv {m : Int} {ys : List UInt8} {bad : Bool} (h : (Pk.rC m ys bad).2.2 = false) : bad = false ∧ ys = Pk.be8 (Pk.rC m ys bad).1 ++ (Pk.rC m ys bad).2.1 ∧ 0 ≤ (Pk.rC m ys bad).1 ∧ (Pk.rC m ys bad).1 ≤ m := by
  unfold Pk.rC at h ⊢
  split at h
  · cases h
  · rename_i hc
    rw [if_neg hc]
    obtain ⟨h1, h2⟩ := rI_inv h
    exact ⟨h1, h2, by omega, by omega⟩

theorem rT_inv {m : Int} {ys : List UInt8} {bad : Bool} (h : (Pk.rT m ys bad).2.2 = false) : bad = false ∧ ys = Pk.txt (Pk.rT m ys bad).1 ++ (Pk.rT m ys bad).2.1 ∧ ((Pk.rT m ys bad).1.length : Int) ≤ m := by
  unfold Pk.rT at h ⊢
  split at h
  · rename_i hc
    rw [if_pos hc]
    simp only [] at h ⊢
    obtain ⟨h1, h2, h3, h4⟩ := rC_inv h
    generalize Pk.rC m ys bad = c at *
    have hl : (c.2.1.take c.1.toNat).length = c.1.toNat := by rw [List.length_take]; omega
    refine ⟨h1, ?_, by rw [hl]; omega⟩
    unfold Pk.txt
    rw [hl, show ((c.1.toNat : Nat) : Int) = c.1 by omega, List.append_assoc, List.take_append_drop]
    exact h2
  · cases h
end Rq
end Go.Proofs.YtjimemnkmpapgaaGreatDoor
