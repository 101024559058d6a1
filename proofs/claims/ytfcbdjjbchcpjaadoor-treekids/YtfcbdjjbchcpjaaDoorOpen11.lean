/- Arguments that are truths and lists of acts: from what came in to the walks' words. -/
import Derived.Test.YtfcbdjjbchcpjaaDoorOpen
import Derived.Test.YtfcbdjjbchcpjaaDoorOpenOp11
import Derived.Test.YtfcbdjjbchcpjaaDoorBas
import Derived.Deep.Slices
import Derived.Deep.Grids
namespace Go.Proofs.YtfcbdjjbchcpjaaDoor
open Go.ChangeShapes Go.WideShapes Go.ChangeAt Go.RowKit

theorem cellsBool : Tryd.prog.cellsOf 4 = 1 := by kernel_rfl
set_option maxRecDepth 100000 in
theorem open_bb {H : Type} {enc : TypeId × Value → H} {W : World} {base : Nat} {v : Value} {d : DataW H} {p : List MemPlace} (hval : Value.okWide Tryd.prog W .any base 22 v) (h : DataW.Trod enc Tryd.prog W 0 (fun _ => true) true 22 v d p) :
    ∃ ts : List Bool, Bb W v ts ∧ ts.length ≤ maxLen := by
  obtain ⟨a0, len, cap, rfl⟩ := okWide_slice Tryd.underlying22 hval
  obtain ⟨fuel, hf⟩ := h
  rcases Go.Deep.open_bools Tryd.underlying22 Tryd.underlying4 cellsBool hf with ⟨hcs, _⟩ | ⟨a, len', cap', B, hcs, _, hl, hm, _, hcell⟩
  · simp only [Value.cells, List.cons.injEq, Value.slice.injEq, and_true] at hcs
    obtain ⟨rfl, rfl, rfl⟩ := hcs
    exact ⟨[], ⟨_, _, _, rfl, rfl, fun j z h => by simp at h⟩, Nat.zero_le _⟩
  · simp only [Value.cells, List.cons.injEq, Value.slice.injEq, and_true] at hcs
    obtain ⟨rfl, rfl, rfl⟩ := hcs
    have hlen : ((List.range len).map B).length = len := by simp
    refine ⟨(List.range len).map B, ⟨some a, len, cap, rfl, hlen.symm, fun j t ht => ?_⟩, by rw [hlen]; omega⟩
    have hj : j < len := by
      have := (List.getElem?_eq_some_iff.1 ht).1
      rw [hlen] at this
      exact this
    have ht2 : B j = t := by simpa [List.getElem?_map, List.getElem?_range hj] using ht
    have hc := hcell j (by omega)
    obtain ⟨b, off, spot⟩ := a
    have hspot : spot = none := by simpa [Addr.add] using World.cell?_spot (hcell 0 (by omega))
    subst hspot
    refine ⟨b, off, rfl, ?_⟩
    rw [← ht2, ← Go.WideShapes.add_plain]
    exact hc
end Go.Proofs.YtfcbdjjbchcpjaaDoor
