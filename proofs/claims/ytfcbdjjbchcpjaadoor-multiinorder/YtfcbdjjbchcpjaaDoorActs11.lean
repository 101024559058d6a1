/- Acts on a tree, as they come in; what the statements' own heavy answers. -/
import Derived.Test.YtfcbdjjbchcpjaaDoorLAwake11
namespace Go.Proofs.YtfcbdjjbchcpjaaDoor
open Go.RowKit

/-- An act. -/
structure Ac11 where
  op : Int
  o : O
  sess : Int
  zxid : Int
  n : Kq.Kn
def a18 (x : Ac11) (v : Value) : List Value := [.int .i64 x.op, .int .i64 x.o.kind, .string x.o.path, .string x.o.data, .int .i64 x.o.ver, .int .i64 x.o.flags, .int .i64 x.sess, .int .i64 x.zxid, .int .i64 x.n.made, .int .i64 x.n.changed, .int .i64 x.n.ver, .int .i64 x.n.kids, .int .i64 x.n.owner, .int .i64 x.n.len, .int .i64 x.n.cnt, .string x.n.data, .int .i64 x.n.next, v]
def av18 (x : Ac11) (v : Value) : Value := .agg #[.int .i64 x.op, .int .i64 x.o.kind, .string x.o.path, .string x.o.data, .int .i64 x.o.ver, .int .i64 x.o.flags, .int .i64 x.sess, .int .i64 x.zxid, .int .i64 x.n.made, .int .i64 x.n.changed, .int .i64 x.n.ver, .int .i64 x.n.kids, .int .i64 x.n.owner, .int .i64 x.n.len, .int .i64 x.n.cnt, .string x.n.data, .int .i64 x.n.next, v]
/-- Acts in a row. -/
def Acl11 (W : World) (v : Value) (xs : List Ac11) : Prop := ∃ av k c, v = .slice av k c ∧ k = xs.length ∧ ∀ (j : Nat) x, xs[j]? = some x → ∃ g o nv, av = some ⟨g, o, none⟩ ∧ Ss W nv x.n.names ∧ ∀ (i : Nat) u, (a18 x nv)[i]? = some u → W.cell? ⟨g, o + j * 18 + i, none⟩ = some u
def Rg11 (z : Int) : Prop := -9223372036854775808 ≤ z ∧ z ≤ 9223372036854775807
/-- An act that an argument may hold. -/
structure AcOk11 (x : Ac11) : Prop where
  o : OFit x.o
  sess : Rg11 x.sess
  zxid : Rg11 x.zxid
  ver : Rg11 x.n.ver
  kids : Rg11 x.n.kids
  next : Rg11 x.n.next
  data : x.n.data.size ≤ maxLen
  many : x.n.names.length ≤ maxLen
  long : ∀ s ∈ x.n.names, s.size ≤ maxLen
/-- An act that is more than is asked of. -/
def Heavy11 (x : Ac11) : Prop := 300 < x.o.path.size ∨ 1100 < x.o.data.size ∨ 20 < x.n.names.length ∨ 1100 < x.n.data.size ∨ ∃ s ∈ x.n.names, 60 < s.size
theorem Cb18 {w : World} {q : Nat} {x : Ac11} {v : Value} {t : TypeId} (h : Cb w q (a18 x v) t) : w.cell? ⟨q, 2, none⟩ = some (.string x.o.path) ∧ w.cell? ⟨q, 3, none⟩ = some (.string x.o.data) ∧ w.cell? ⟨q, 15, none⟩ = some (.string x.n.data) ∧ w.cell? ⟨q, 17, none⟩ = some v := ⟨h.cell 2, h.cell 3, h.cell 15, h.cell 17⟩

end Go.Proofs.YtfcbdjjbchcpjaaDoor
