/- A node's bytes, and back: plain reckoning. -/
import Derived.Test.YtlgpjgncimcijaaPlainK10
import Derived.Test.YtlgpjgncimcijaaPlain
namespace Go.Proofs.Ytlgpjgncimcijaa.Kq

def tx (s : ByteArray) : List UInt8 := Pk.txt s.data.toList
def bytes (n : Kn) : List UInt8 := Pk.be8 n.made ++ (Pk.be8 n.changed ++ (Pk.be8 n.ver ++ (Pk.be8 n.kids ++ (Pk.be8 n.owner ++ (Pk.be8 n.next ++ (tx n.data ++ (Pk.be8 (n.names.length : Int) ++ n.names.flatMap tx)))))))
/-- So many names are read. -/
def rdNs : Nat → List UInt8 → Bool → List ByteArray × List UInt8 × Bool
  | 0, ys, bad => ([], ys, bad)
  | k + 1, ys, bad => if bad then ([], ys, bad) else (⟨(Pk.rT 40 ys bad).1.toArray⟩ :: (rdNs k (Pk.rT 40 ys bad).2.1 (Pk.rT 40 ys bad).2.2).1, (rdNs k (Pk.rT 40 ys bad).2.1 (Pk.rT 40 ys bad).2.2).2)
/-- A node is read; what is left; was it there? -/
def raw (ys : List UInt8) (bad : Bool) : Kn × List UInt8 × Bool :=
  let a := Pk.rI ys bad
  let b := Pk.rI a.2.1 a.2.2
  let c := Pk.rC 2147483647 b.2.1 b.2.2
  let d := Pk.rC 2147483647 c.2.1 c.2.2
  let e := Pk.rI d.2.1 d.2.2
  let f := Pk.rC 2147483647 e.2.1 e.2.2
  let g := Pk.rT 1000 f.2.1 f.2.2
  let h := Pk.rC 500 g.2.1 g.2.2
  let i := rdNs h.1.toNat h.2.1 h.2.2
  (⟨a.1, b.1, c.1, d.1, e.1, (g.1.length : Int), (i.1.length : Int), ⟨g.1.toArray⟩, f.1, i.1⟩, i.2.1, i.2.2)
/-- It is one. -/
def Good (ys : List UInt8) (bad : Bool) : Prop := (raw ys bad).2.2 = false ∧ Rises (raw ys bad).1.names

/-- A node that Get may tell. -/
structure Fit (n : Kn) : Prop where
  made : -9223372036854775808 ≤ n.made ∧ n.made ≤ 9223372036854775807
  changed : -9223372036854775808 ≤ n.changed ∧ n.changed ≤ 9223372036854775807
  ver : 0 ≤ n.ver ∧ n.ver ≤ 2147483647
  kids : 0 ≤ n.kids ∧ n.kids ≤ 2147483647
  owner : -9223372036854775808 ≤ n.owner ∧ n.owner ≤ 9223372036854775807
  next : 0 ≤ n.next ∧ n.next ≤ 2147483647
  data : n.data.size ≤ 1000
  many : n.names.length ≤ 500
  long : ∀ s ∈ n.names, s.size ≤ 40
  len : n.len = (n.data.size : Int)
  cnt : n.cnt = (n.names.length : Int)
  rises : Rises n.names
theorem size_data (s : ByteArray) : s.data.toList.length = s.size := by rw [Array.length_toList]; rfl
theorem back (s : ByteArray) : (⟨s.data.toList.toArray⟩ : ByteArray) = s := by cases s; simp
theorem rdNs_flat : ∀ (l : List ByteArray) (t : List UInt8), (∀ s ∈ l, s.size ≤ 40) → rdNs l.length (l.flatMap tx ++ t) false = (l, t, false)
  | [], t, _ => rfl
  | s :: l, t, h => by
    have h1 := h s (by simp)
    have e : (s :: l).flatMap tx ++ t = tx s ++ (l.flatMap tx ++ t) := by rw [List.flatMap_cons, List.append_assoc]
    have hr : Pk.rT 40 (tx s ++ (l.flatMap tx ++ t)) false = (s.data.toList, l.flatMap tx ++ t, false) := Pk.rT_txt 40 _ _ false (by rw [size_data]; omega) (by rw [size_data]; omega)
    rw [e, List.length_cons, rdNs, if_neg (by simp), hr]
    simp only []
    rw [rdNs_flat l t (fun x hx => h x (by simp [hx])), back]
theorem raw_bytes {n : Kn} (h : Fit n) (t : List UInt8) : raw (bytes n ++ t) false = (n, t, false) := by
  have hd := size_data n.data
  have hdl := h.data
  have hm := h.many
  have e : bytes n ++ t = Pk.be8 n.made ++ (Pk.be8 n.changed ++ (Pk.be8 n.ver ++ (Pk.be8 n.kids ++ (Pk.be8 n.owner ++ (Pk.be8 n.next ++ (tx n.data ++ (Pk.be8 (n.names.length : Int) ++ (n.names.flatMap tx ++ t)))))))) := by
    unfold bytes
    simp only [List.append_assoc]
  have h7 : Pk.rT 1000 (tx n.data ++ (Pk.be8 (n.names.length : Int) ++ (n.names.flatMap tx ++ t))) false = (n.data.data.toList, Pk.be8 (n.names.length : Int) ++ (n.names.flatMap tx ++ t), false) := Pk.rT_txt 1000 _ _ false (by omega) (by omega)
  unfold raw
  rw [e]
  simp only [Pk.rI_be8 n.made _ false h.made.1 h.made.2, Pk.rI_be8 n.changed _ false h.changed.1 h.changed.2, Pk.rC_be8 2147483647 n.ver _ false h.ver.1 (by have := h.ver.2; omega) h.ver.2, Pk.rC_be8 2147483647 n.kids _ false h.kids.1 (by have := h.kids.2; omega) h.kids.2, Pk.rI_be8 n.owner _ false h.owner.1 h.owner.2, Pk.rC_be8 2147483647 n.next _ false h.next.1 (by have := h.next.2; omega) h.next.2, h7, Pk.rC_be8 500 (n.names.length : Int) _ false (by omega) (by omega) (by omega), Int.toNat_natCast, rdNs_flat n.names t h.long, hd, back]
  rw [← h.len, ← h.cnt]
theorem good_bytes {n : Kn} (h : Fit n) (t : List UInt8) : Good (bytes n ++ t) false := by
  unfold Good
  rw [raw_bytes h t]
  exact ⟨rfl, h.rises⟩
theorem bytes_inj {a b : Kn} (ha : Fit a) (hb : Fit b) (h : bytes a = bytes b) : a = b := by
  have h1 := raw_bytes ha []
  have h2 := raw_bytes hb []
  rw [h, h2] at h1
  exact (congrArg Prod.fst h1).symm
theorem tx_len (s : ByteArray) : (tx s).length = 8 + s.size := by unfold tx Pk.txt; rw [List.length_append, Pk.be8_len, size_data]
theorem flat_le : ∀ (l : List ByteArray) (m : Nat), (∀ s ∈ l, s.size ≤ m) → (l.flatMap tx).length ≤ l.length * (8 + m)
  | [], m, _ => by simp
  | s :: l, m, h => by
    have h1 := h s (by simp)
    have h2 := flat_le l m (fun x hx => h x (by simp [hx]))
    rw [List.flatMap_cons, List.length_append, tx_len, List.length_cons, Nat.add_mul]
    omega
theorem bytes_len (n : Kn) : (bytes n).length = 64 + n.data.size + (n.names.flatMap tx).length := by
  unfold bytes
  simp only [List.length_append, Pk.be8_len, tx_len]
  omega
theorem good_none : ¬ Good [] false := fun h => by cases h.1
end Go.Proofs.Ytlgpjgncimcijaa.Kq
