/- Acts of stage 12's statements, as they are handed in. -/
import Derived.Test.YtfcbdjjbchcpjaaGreatDoorSpecs11
namespace Go.Proofs.YtfcbdjjbchcpjaaGreatDoor
open Go.RowKit
structure Ac12 where
  op : Int
  sess : Int
  zxid : Int
  num : Int
  ops : List O
def a5 (x : Ac12) (v : Value) : List Value := [.int .i64 x.op, .int .i64 x.sess, .int .i64 x.zxid, .int .i64 x.num, v]
/-- A value is a slice of acts. -/
def Acl12 (W : World) (v : Value) (xs : List Ac12) : Prop := ∃ av k c, v = .slice av k c ∧ k = xs.length ∧ ∀ (j : Nat) x, xs[j]? = some x → ∃ g o nv, av = some ⟨g, o, none⟩ ∧ Ol W nv x.ops ∧ ∀ (i : Nat) u, (a5 x nv)[i]? = some u → W.cell? ⟨g, o + j * 5 + i, none⟩ = some u
structure AcOk12 (x : Ac12) : Prop where
  sess : -9223372036854775808 ≤ x.sess ∧ x.sess ≤ 9223372036854775807
  zxid : -9223372036854775808 ≤ x.zxid ∧ x.zxid ≤ 9223372036854775807
  len : x.ops.length ≤ maxLen
  ops : ∀ o ∈ x.ops, OFit o
theorem Acl12.nil (w : World) : Acl12 w (.slice none 0 0) [] := ⟨_, _, _, rfl, rfl, fun j s hs => by simp at hs⟩
end Go.Proofs.YtfcbdjjbchcpjaaGreatDoor
