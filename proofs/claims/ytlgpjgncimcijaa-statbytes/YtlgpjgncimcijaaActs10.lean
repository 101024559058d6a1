/- Acts on a node: plainly, and as they come in. -/
import Derived.Test.YtlgpjgncimcijaaSpecB10
import Derived.Test.YtlgpjgncimcijaaLAwake10
namespace Go.Proofs.Ytlgpjgncimcijaa.Kq
/-- An act. -/
structure Ac where
  op : Int
  n : Int
  s : ByteArray
def act (n : Kn) (x : Ac) : Kn := if x.op = 0 then write n x.n x.s else if x.op = 1 then add n x.s else remove n x.s
def acts (n : Kn) (l : List Ac) : Kn := l.foldl act n
theorem acts_snoc (n : Kn) (l : List Ac) (x : Ac) : acts n (l ++ [x]) = act (acts n l) x := by unfold acts; rw [List.foldl_append]; rfl
/-- A node behind at most k acts. -/
structure Fk (n : Kn) (k : Nat) : Prop where
  fit : Fit n
  ver : n.ver ≤ (k : Int)
  kids : n.kids ≤ (k : Int)
  next : n.next ≤ (k : Int)
  many : n.names.length ≤ k
theorem more_le {z : Int} {k : Nat} (h0 : 0 ≤ z) (h : z ≤ (k : Int)) (hk : k ≤ 1000) : 0 ≤ more z ∧ more z ≤ ((k + 1 : Nat) : Int) := by
  unfold more
  rw [if_neg (by omega)]
  omega
theorem Fk.start {z o : Int} {d : ByteArray} (hz : -9223372036854775808 ≤ z ∧ z ≤ 9223372036854775807) (ho : -9223372036854775808 ≤ o ∧ o ≤ 9223372036854775807) (hd : d.size ≤ 1000) : Fk (new z o d) 0 :=
  ⟨⟨hz, hz, ⟨Int.le_refl _, by show (0 : Int) ≤ 2147483647; decide⟩, ⟨Int.le_refl _, by show (0 : Int) ≤ 2147483647; decide⟩, ho, ⟨Int.le_refl _, by show (0 : Int) ≤ 2147483647; decide⟩, hd, Nat.zero_le _, fun s hs => (by cases hs), rfl, rfl, List.Pairwise.nil⟩, Int.le_refl _, Int.le_refl _, Int.le_refl _, Nat.le_refl _⟩
theorem Fk.more {n : Kn} {k : Nat} (h : Fk n k) : Fk n (k + 1) := ⟨h.fit, by have := h.ver; omega, by have := h.kids; omega, by have := h.next; omega, by have := h.many; omega⟩
theorem Fk.write {n : Kn} {k : Nat} (h : Fk n k) {z : Int} {d : ByteArray} (hz : -9223372036854775808 ≤ z ∧ z ≤ 9223372036854775807) (hd : d.size ≤ 1000) (hk : k ≤ 100) : Fk (write n z d) (k + 1) := by
  have hm := more_le h.fit.ver.1 h.ver (by omega)
  exact ⟨⟨h.fit.made, hz, ⟨hm.1, by show Kq.more n.ver ≤ 2147483647; omega⟩, h.fit.kids, h.fit.owner, h.fit.next, hd, h.fit.many, h.fit.long, rfl, h.fit.cnt, h.fit.rises⟩, hm.2, h.more.kids, h.more.next, h.more.many⟩
theorem Fk.add {n : Kn} {k : Nat} (h : Fk n k) {s : ByteArray} (hs : s.size ≤ 40) (hk : k ≤ 100) : Fk (add n s) (k + 1) := by
  cases hh : has n.names s with
  | true => rw [add_no hh]; exact h.more
  | false =>
    have hn : s ∉ n.names := fun e => by rw [has_iff.2 e] at hh; cases hh
    have h1 := more_le h.fit.kids.1 h.kids (by omega)
    have h2 := more_le h.fit.next.1 h.next (by omega)
    have h3 := h.many
    rw [add_yes hh]
    refine ⟨⟨h.fit.made, h.fit.changed, h.fit.ver, ⟨h1.1, by show Kq.more n.kids ≤ 2147483647; omega⟩, h.fit.owner, ⟨h2.1, by show Kq.more n.next ≤ 2147483647; omega⟩, h.fit.data, ?_, fun x hx => ?_, h.fit.len, ?_, rises_ins h.fit.rises hn⟩, h.more.ver, h1.2, h2.2, ?_⟩
    · show (ins n.names s).length ≤ 500
      rw [len_ins]
      omega
    · rcases mem_ins.1 hx with e | e
      · rw [e]; exact hs
      · exact h.fit.long x e
    · show ((n.names.length + 1 : Nat) : Int) = ((ins n.names s).length : Int)
      rw [len_ins]
    · show (ins n.names s).length ≤ k + 1
      rw [len_ins]
      omega
theorem Fk.remove {n : Kn} {k : Nat} (h : Fk n k) (s : ByteArray) (hk : k ≤ 100) : Fk (remove n s) (k + 1) := by
  cases hh : has n.names s with
  | false => rw [remove_no hh]; exact h.more
  | true =>
    have hl := len_del h.fit.rises (has_iff.1 hh)
    have h1 := more_le h.fit.kids.1 h.kids (by omega)
    have h3 := h.many
    rw [remove_yes hh]
    refine ⟨⟨h.fit.made, h.fit.changed, h.fit.ver, ⟨h1.1, by show Kq.more n.kids ≤ 2147483647; omega⟩, h.fit.owner, h.fit.next, h.fit.data, ?_, fun x hx => h.fit.long x (mem_del.1 hx).1, h.fit.len, ?_, rises_del s h.fit.rises⟩, h.more.ver, h1.2, h.more.next, ?_⟩
    · show (del n.names s).length ≤ 500
      have := h.fit.many
      omega
    · show ((n.names.length - 1 : Nat) : Int) = ((del n.names s).length : Int)
      rw [hl.1]
    · show (del n.names s).length ≤ k + 1
      omega
theorem Fk.act {n : Kn} {k : Nat} (h : Fk n k) {x : Ac} (hn : -9223372036854775808 ≤ x.n ∧ x.n ≤ 9223372036854775807) (hs : x.s.size ≤ 40) (hk : k ≤ 100) : Fk (act n x) (k + 1) := by
  unfold Kq.act
  split
  · exact h.write hn (by omega) hk
  · split
    · exact h.add hs hk
    · exact h.remove x.s hk
end Go.Proofs.Ytlgpjgncimcijaa.Kq
namespace Go.Proofs.Ytlgpjgncimcijaa
open Go.RowKit
def aac (x : Kq.Ac) : List Value := [.int .i64 x.op, .int .i64 x.n, .string x.s]
/-- Acts in a row, as they come in. -/
def Acl10 (W : World) (v : Value) (xs : List Kq.Ac) : Prop := ∃ av k c, v = .slice av k c ∧ k = xs.length ∧ ∀ (j : Nat) x, xs[j]? = some x → ∃ g o, av = some ⟨g, o, none⟩ ∧ ∀ (i : Nat) u, (aac x)[i]? = some u → W.cell? ⟨g, o + j * 3 + i, none⟩ = some u
/-- Acts whose numbers and texts an argument may hold. -/
structure AcOk (x : Kq.Ac) : Prop where
  n : -9223372036854775808 ≤ x.n ∧ x.n ≤ 9223372036854775807
  s : x.s.size ≤ maxLen
end Go.Proofs.Ytlgpjgncimcijaa
