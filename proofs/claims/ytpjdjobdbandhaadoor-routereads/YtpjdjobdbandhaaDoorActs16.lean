/- Moves, plainly, and as they come in. -/
import Derived.Test.YtpjdjobdbandhaaDoorSpecs16
namespace Go.Proofs.YtpjdjobdbandhaaDoor.Tb
/-- A move that is asked for. -/
structure Ac where
  top : ByteArray
  shard : Int
end Go.Proofs.YtpjdjobdbandhaaDoor.Tb
namespace Go.Proofs.YtpjdjobdbandhaaDoor
open Go.RowKit
/-- The two cells of a move that is asked for. -/
def aac16 (x : Tb.Ac) : List Value := [.string x.top, .int .i64 x.shard]
structure AcOk16 (x : Tb.Ac) : Prop where
  top : x.top.size ≤ maxLen
/-- Moves in a row. -/
def Acl16 (W : World) (v : Value) (xs : List Tb.Ac) : Prop := ∃ av k c, v = .slice av k c ∧ k = xs.length ∧ ∀ (j : Nat) x, xs[j]? = some x → ∃ g o, av = some ⟨g, o, none⟩ ∧ ∀ (i : Nat) u, (aac16 x)[i]? = some u → W.cell? ⟨g, o + j * 2 + i, none⟩ = some u
theorem Acl16.below {w w' : World} {v : Value} {xs : List Tb.Ac} (h : Acl16 w v xs) (hb : Below w.heap.size w w') : Acl16 w' v xs := by
  obtain ⟨av, k, c, hv, hk, hc⟩ := h
  refine ⟨av, k, c, hv, hk, fun j z hz => ?_⟩
  obtain ⟨g, o, ha, hcell⟩ := hc j z hz
  exact ⟨g, o, ha, fun i u hu => Below.kept hb (hcell i u hu)⟩
theorem Acl16.at {w : World} {a : Option Addr} {n c : Nat} {xs : List Tb.Ac} (h : Acl16 w (.slice a n c) xs) {j : Nat} {x : Tb.Ac} (hx : xs[j]? = some x) : ∃ g o, a = some ⟨g, o, none⟩ ∧ w.cell? ⟨g, o + j * 2, none⟩ = some (.string x.top) ∧ w.cell? ⟨g, o + j * 2 + 1, none⟩ = some (.int .i64 x.shard) := by
  obtain ⟨av, k, c', hv, hk, hc⟩ := h
  simp only [Value.slice.injEq] at hv
  obtain ⟨rfl, rfl, rfl⟩ := hv
  obtain ⟨g, o, ha, hcell⟩ := hc j x hx
  exact ⟨g, o, ha, hcell 0 _ rfl, hcell 1 _ rfl⟩
/-- The cells of a move, in a later world. -/
theorem Acl16.on {W w : World} {g o n c : Nat} {xs : List Tb.Ac} (h : Acl16 W (.slice (some ⟨g, o, none⟩) n c) xs) (hb : Below W.heap.size W w) {j : Nat} {x : Tb.Ac} (hx : xs[j]? = some x) : w.cell? ⟨g, o + j * 2, none⟩ = some (.string x.top) ∧ w.cell? ⟨g, o + j * 2 + 1, none⟩ = some (.int .i64 x.shard) := by
  obtain ⟨g', o', e, d0, d1⟩ := (h.below hb).at hx
  simp only [Option.some.injEq, Addr.mk.injEq, and_true] at e
  obtain ⟨rfl, rfl⟩ := e
  exact ⟨d0, d1⟩
end Go.Proofs.YtpjdjobdbandhaaDoor
