/- Acts on Sessions: as they come in. -/
import Derived.Test.YtlabdhllindenaaLAwake15
namespace Go.Proofs.Ytlabdhllindenaa.Sq
/-- An act. -/
structure Ac where
  op : Int
  id : Int
  span : Int
end Go.Proofs.Ytlabdhllindenaa.Sq
namespace Go.Proofs.Ytlabdhllindenaa
open Go.RowKit
/-- The three cells of an act. -/
def aac15 (x : Sq.Ac) : List Value := [.int .i64 x.op, .int .i64 x.id, .int .i64 x.span]
/-- Acts in a row. -/
def Acl15 (W : World) (v : Value) (xs : List Sq.Ac) : Prop := ∃ av k c, v = .slice av k c ∧ k = xs.length ∧ ∀ (j : Nat) x, xs[j]? = some x → ∃ g o, av = some ⟨g, o, none⟩ ∧ ∀ (i : Nat) u, (aac15 x)[i]? = some u → W.cell? ⟨g, o + j * 3 + i, none⟩ = some u
theorem Acl15.below {w w' : World} {v : Value} {xs : List Sq.Ac} (h : Acl15 w v xs) (hb : Below w.heap.size w w') : Acl15 w' v xs := by
  obtain ⟨av, k, c, hv, hk, hc⟩ := h
  refine ⟨av, k, c, hv, hk, fun j z hz => ?_⟩
  obtain ⟨g, o, ha, hcell⟩ := hc j z hz
  exact ⟨g, o, ha, fun i u hu => Below.kept hb (hcell i u hu)⟩
theorem Acl15.at {w : World} {a : Option Addr} {n c : Nat} {xs : List Sq.Ac} (h : Acl15 w (.slice a n c) xs) {j : Nat} {x : Sq.Ac} (hx : xs[j]? = some x) : ∃ g o, a = some ⟨g, o, none⟩ ∧ w.cell? ⟨g, o + j * 3, none⟩ = some (.int .i64 x.op) ∧ w.cell? ⟨g, o + j * 3 + 1, none⟩ = some (.int .i64 x.id) ∧ w.cell? ⟨g, o + j * 3 + 2, none⟩ = some (.int .i64 x.span) := by
  obtain ⟨av, k, c', hv, hk, hc⟩ := h
  simp only [Value.slice.injEq] at hv
  obtain ⟨rfl, rfl, rfl⟩ := hv
  obtain ⟨g, o, ha, hcell⟩ := hc j x hx
  exact ⟨g, o, ha, hcell 0 _ rfl, hcell 1 _ rfl, hcell 2 _ rfl⟩
/-- The cells of an act, in a later world. -/
theorem Acl15.on {W w : World} {g o n c : Nat} {xs : List Sq.Ac} (h : Acl15 W (.slice (some ⟨g, o, none⟩) n c) xs) (hb : Below W.heap.size W w) {j : Nat} {x : Sq.Ac} (hx : xs[j]? = some x) : w.cell? ⟨g, o + j * 3, none⟩ = some (.int .i64 x.op) ∧ w.cell? ⟨g, o + j * 3 + 1, none⟩ = some (.int .i64 x.id) ∧ w.cell? ⟨g, o + j * 3 + 2, none⟩ = some (.int .i64 x.span) := by
  obtain ⟨g', o', e, d0, d1, d2⟩ := (h.below hb).at hx
  simp only [Option.some.injEq, Addr.mk.injEq, and_true] at e
  obtain ⟨rfl, rfl⟩ := e
  exact ⟨d0, d1, d2⟩
/-- A block that lies apart from what changes. -/
structure Kept15 (w : World) (F : Nat → Prop) (k : Nat) (cs : List Value) (t : TypeId) : Prop where
  cb : Cb w k cs t
  off : ¬ F k
theorem Kept15.moved {w w' : World} {F F' : Nat → Prop} {k : Nat} {cs : List Value} {t : TypeId} (h : Kept15 w F k cs t) (hm : Moved w w' F F') : Kept15 w' F' k cs t :=
  ⟨h.cb.keep (hm.block k h.cb.lt h.off), fun e => by
    rcases hm.sub k e with e | e
    · exact h.off e
    · have := h.cb.lt
      omega⟩
theorem Kept15.later {w w' : World} {F : Nat → Prop} {k : Nat} {cs : List Value} {t : TypeId} (h : Kept15 w F k cs t) (hb : Below w.heap.size w w') : Kept15 w' F k cs t := ⟨h.cb.below hb, h.off⟩
theorem Kept15.made (w : World) (F : Nat → Prop) (hF : ∀ k, F k → k < w.heap.size) (cs : List Value) (t : TypeId) : Kept15 (w.alloc (.cells cs.toArray t)) F w.heap.size cs t := ⟨Cb.made w cs t, fun e => by have := hF _ e; omega⟩
end Go.Proofs.Ytlabdhllindenaa
