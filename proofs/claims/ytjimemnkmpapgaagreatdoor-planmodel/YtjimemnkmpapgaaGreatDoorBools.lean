/- Truths, wherever they lie. -/
import Derived.Test.YtjimemnkmpapgaaGreatDoorBase
namespace Go.Proofs.YtjimemnkmpapgaaGreatDoor
open Go.RowKit
def Bb (w : World) (u : Value) (ts : List Bool) : Prop := ∃ av k c, u = .slice av k c ∧ k = ts.length ∧ ∀ (j : Nat) t, ts[j]? = some t → ∃ g o, av = some ⟨g, o, none⟩ ∧ w.cell? ⟨g, o + j, none⟩ = some (.bool t)
theorem Bb.below {w w' : World} {v : Value} {ts : List Bool} (h : Bb w v ts) (hb : Below w.heap.size w w') : Bb w' v ts := by
  obtain ⟨av, k, c, hv, hk, hc⟩ := h
  refine ⟨av, k, c, hv, hk, fun j z hz => ?_⟩
  obtain ⟨g, o, ha, hcell⟩ := hc j z hz
  exact ⟨g, o, ha, Below.kept hb hcell⟩
theorem Bi.at {w : World} {av : Option Addr} {k c j : Nat} {zs : List Int} {z : Int} (h : Bi w (.slice av k c) zs) (hz : zs[j]? = some z) : ∃ g o, av = some ⟨g, o, none⟩ ∧ w.cell? ⟨g, o + j, none⟩ = some (.int .i64 z) := by
  obtain ⟨av', k', c', e, _, hc⟩ := h
  simp only [Value.slice.injEq] at e
  obtain ⟨rfl, _, _⟩ := e
  exact hc j z hz
theorem Bb.at {w : World} {av : Option Addr} {k c j : Nat} {ts : List Bool} {t : Bool} (h : Bb w (.slice av k c) ts) (hz : ts[j]? = some t) : ∃ g o, av = some ⟨g, o, none⟩ ∧ w.cell? ⟨g, o + j, none⟩ = some (.bool t) := by
  obtain ⟨av', k', c', e, _, hc⟩ := h
  simp only [Value.slice.injEq] at e
  obtain ⟨rfl, _, _⟩ := e
  exact hc j t hz
end Go.Proofs.YtjimemnkmpapgaaGreatDoor
