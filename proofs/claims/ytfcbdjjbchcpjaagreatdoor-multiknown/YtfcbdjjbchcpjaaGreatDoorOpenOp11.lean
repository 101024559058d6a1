/- Arguments that are Ops: from what came in to the walks' words. -/
import Derived.Test.YtfcbdjjbchcpjaaGreatDoorOpen
import Derived.Test.YtfcbdjjbchcpjaaGreatDoorPln
import Derived.Deep.Slices
namespace Go.Proofs.YtfcbdjjbchcpjaaGreatDoor
open Go.ChangeShapes Go.WideShapes Go.ChangeAt Go.RowKit

/-- Numbers of 64 bits, texts that can be. -/
structure Fit (o : O) : Prop where
  kind : -9223372036854775808 ≤ o.kind ∧ o.kind ≤ 9223372036854775807
  path : o.path.size ≤ maxLen
  data : o.data.size ≤ maxLen
  ver : -9223372036854775808 ≤ o.ver ∧ o.ver ≤ 9223372036854775807
  flags : -9223372036854775808 ≤ o.flags ∧ o.flags ≤ 9223372036854775807

theorem cellsOp : Tryz.prog.cellsOf 34 = 5 := by kernel_rfl

set_option maxRecDepth 100000 in
theorem trod_op {H : Type} {enc : TypeId × Value → H} {W : World} {base fuel : Nat} {spare : Nat → Bool} {held : Bool} {cs : List Value} {x : DataW H × List MemPlace} (h : DataW.trod enc Tryz.prog W base spare held fuel 34 cs = some x) : ∃ o, cs = oc o ∧ Fit o := by
  obtain ⟨xs, n, _, rfl, hl, hlen, hf⟩ := DataW.trod_struct Tryz.underlying34 h
  rw [cellsOp] at hl
  match cs, hl with
  | [c0, c1, c2, c3, c4], _ =>
    match xs, hlen with
    | [y0, y1, y2, y3, y4], _ =>
      have f0 : DataW.trod enc Tryz.prog W base spare held n 3 [c0] = some y0 := by
        have h : DataW.trod enc Tryz.prog W base spare held n 3 ((List.drop 0 [c0, c1, c2, c3, c4]).take (Tryz.prog.cellsOf 3)) = some y0 := hf 0 _ rfl
        rw [cellsInt] at h
        exact h
      have f1 : DataW.trod enc Tryz.prog W base spare held n 9 [c1] = some y1 := by
        have h : DataW.trod enc Tryz.prog W base spare held n 9 ((List.drop 1 [c0, c1, c2, c3, c4]).take (Tryz.prog.cellsOf 9)) = some y1 := hf 1 _ rfl
        rw [cellsString] at h
        exact h
      have f2 : DataW.trod enc Tryz.prog W base spare held n 9 [c2] = some y2 := by
        have h : DataW.trod enc Tryz.prog W base spare held n 9 ((List.drop 2 [c0, c1, c2, c3, c4]).take (Tryz.prog.cellsOf 9)) = some y2 := hf 2 _ rfl
        rw [cellsString] at h
        exact h
      have f3 : DataW.trod enc Tryz.prog W base spare held n 3 [c3] = some y3 := by
        have h : DataW.trod enc Tryz.prog W base spare held n 3 ((List.drop 3 [c0, c1, c2, c3, c4]).take (Tryz.prog.cellsOf 3)) = some y3 := hf 3 _ rfl
        rw [cellsInt] at h
        exact h
      have f4 : DataW.trod enc Tryz.prog W base spare held n 3 [c4] = some y4 := by
        have h : DataW.trod enc Tryz.prog W base spare held n 3 ((List.drop 4 [c0, c1, c2, c3, c4]).take (Tryz.prog.cellsOf 3)) = some y4 := hf 4 _ rfl
        rw [cellsInt] at h
        exact h
      obtain ⟨z0, e0, _, w0⟩ := DataW.trod_int Tryz.underlying3 f0
      obtain ⟨s1, e1, _, w1⟩ := DataW.trod_string Tryz.underlying9 f1
      obtain ⟨s2, e2, _, w2⟩ := DataW.trod_string Tryz.underlying9 f2
      obtain ⟨z3, e3, _, w3⟩ := DataW.trod_int Tryz.underlying3 f3
      obtain ⟨z4, e4, _, w4⟩ := DataW.trod_int Tryz.underlying3 f4
      simp only [List.cons.injEq, and_true] at e0 e1 e2 e3 e4
      subst e0 e1 e2 e3 e4
      exact ⟨⟨z0, s1, s2, z3, z4⟩, rfl, bounds_i64 w0, w1, w2, bounds_i64 w3, bounds_i64 w4⟩

set_option maxRecDepth 100000 in
theorem open_op {H : Type} {enc : TypeId × Value → H} {W : World} {base : Nat} {v : Value} {d : DataW H} {p : List MemPlace} (hval : Value.okWide Tryz.prog W .any base 34 v) (h : DataW.Trod enc Tryz.prog W 0 (fun _ => true) true 34 v d p) : ∃ o, v = ov o ∧ Fit o := by
  obtain ⟨⟨cs⟩, rfl, hsz⟩ := okWide_struct Tryz.underlying34 hval
  obtain ⟨fuel, hf⟩ := h
  obtain ⟨o, ho, hfit⟩ := trod_op hf
  have : cs = oc o := ho
  subst this
  exact ⟨o, rfl, hfit⟩
end Go.Proofs.YtfcbdjjbchcpjaaGreatDoor
