/- What arguments give stage 9's walks: truths in a row; numbers whose slice is none or lies somewhere. -/
import Derived.Test.YtkldecdjokfajaaOpen
import Derived.Test.YtkldecdjokfajaaLOrder9
import Derived.Deep.Grids
namespace Go.Proofs.Ytkldecdjokfajaa
open Go.ChangeShapes Go.WideShapes Go.ChangeAt Go.RowKit

theorem cellsBool : Try.prog.cellsOf 4 = 1 := by kernel_rfl
set_option maxRecDepth 100000 in
theorem open_bb {H : Type} {enc : TypeId × Value → H} {W : World} {base : Nat} {v : Value} {d : DataW H} {p : List MemPlace} (hval : Value.okWide Try.prog W .any base 54 v) (h : DataW.Trod enc Try.prog W 0 (fun _ => true) true 54 v d p) :
    ∃ ts : List Bool, Bb W v ts ∧ ts.length ≤ maxLen := by
  obtain ⟨a0, len, cap, rfl⟩ := okWide_slice Try.underlying54 hval
  obtain ⟨fuel, hf⟩ := h
  rcases Go.Deep.open_bools Try.underlying54 Try.underlying4 cellsBool hf with ⟨hcs, _⟩ | ⟨a, len', cap', B, hcs, _, hl, hm, _, hcell⟩
  · simp only [Value.cells, List.cons.injEq, Value.slice.injEq, and_true] at hcs
    obtain ⟨rfl, rfl, rfl⟩ := hcs
    exact ⟨[], ⟨_, _, _, rfl, rfl, fun j z h => by simp at h⟩, Nat.zero_le _⟩
  · simp only [Value.cells, List.cons.injEq, Value.slice.injEq, and_true] at hcs
    obtain ⟨rfl, rfl, rfl⟩ := hcs
    have hlen : ((List.range len).map B).length = len := by simp
    refine ⟨(List.range len).map B, ⟨some a, len, cap, rfl, hlen.symm, fun j t ht => ?_⟩, by rw [hlen]; omega⟩
    have hj : j < len := by
      have := (List.getElem?_eq_some_iff.1 ht).1
      rw [hlen] at this
      exact this
    have ht2 : B j = t := by simpa [List.getElem?_map, List.getElem?_range hj] using ht
    have hc := hcell j (by omega)
    obtain ⟨b, off, spot⟩ := a
    have hspot : spot = none := by simpa [Addr.add] using World.cell?_spot (hcell 0 (by omega))
    subst hspot
    refine ⟨b, off, rfl, ?_⟩
    rw [← ht2, ← Go.WideShapes.add_plain]
    exact hc

set_option maxRecDepth 100000 in
theorem open_bi9 {H : Type} {enc : TypeId × Value → H} {W : World} {base : Nat} {v : Value} {d : DataW H} {p : List MemPlace} (hval : Value.okWide Try.prog W .any base 28 v) (h : DataW.Trod enc Try.prog W 0 (fun _ => true) true 28 v d p) :
    ∃ zs : List Int, Bi W v zs ∧ zs.length ≤ maxLen ∧ (v = .slice none 0 0 ∨ ∃ ad k c, v = .slice (some ad) k c) := by
  obtain ⟨zs, h1, h2, _⟩ := open_bi hval h
  refine ⟨zs, h1, h2, ?_⟩
  obtain ⟨a0, len, cap, rfl⟩ := okWide_slice Try.underlying28 hval
  obtain ⟨fuel, hf⟩ := h
  rcases open_ints Try.underlying28 Try.underlying2 cellsI64 hf with ⟨hcs, _⟩ | ⟨a, len', cap', zs, hcs, _⟩
  · simp only [Value.cells, List.cons.injEq, and_true] at hcs
    exact Or.inl hcs
  · simp only [Value.cells, List.cons.injEq, and_true] at hcs
    exact Or.inr ⟨_, _, _, hcs⟩
end Go.Proofs.Ytkldecdjokfajaa
