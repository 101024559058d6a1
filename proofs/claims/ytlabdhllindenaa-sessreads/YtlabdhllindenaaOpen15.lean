/- Arguments that are lists of acts on Sessions: from what came in to the walks' words. -/
import Derived.Test.YtlabdhllindenaaOpen
import Derived.Test.YtlabdhllindenaaActs15
import Derived.Deep.Slices
namespace Go.Proofs.Ytlabdhllindenaa
open Go.ChangeShapes Go.WideShapes Go.ChangeAt Go.RowKit

theorem cellsAct15 : Try.prog.cellsOf 40 = 3 := by kernel_rfl
theorem Acl15.nil (w : World) : Acl15 w (.slice none 0 0) [] := ⟨_, _, _, rfl, rfl, fun j s hs => by simp at hs⟩

set_option maxRecDepth 100000 in
theorem trod_act15 {H : Type} {enc : TypeId × Value → H} {W : World} {fuel : Nat} {cs : List Value} {x : DataW H × List MemPlace} (h : DataW.trod enc Try.prog W 0 (fun _ => true) true fuel 40 cs = some x) : ∃ X : Sq.Ac, cs = aac15 X := by
  obtain ⟨xs, n, _, rfl, hl, hlen, hf⟩ := DataW.trod_struct Try.underlying40 h
  rw [cellsAct15] at hl
  match cs, hl with
  | [c0, c1, c2], _ =>
    match xs, hlen with
    | [y0, y1, y2], _ =>
      have f0 : DataW.trod enc Try.prog W 0 (fun _ => true) true n 3 [c0] = some y0 := by
        have h : DataW.trod enc Try.prog W 0 (fun _ => true) true n 3 ((List.drop 0 [c0, c1, c2]).take (Try.prog.cellsOf 3)) = some y0 := hf 0 _ rfl
        rw [cellsInt] at h
        exact h
      have f1 : DataW.trod enc Try.prog W 0 (fun _ => true) true n 2 [c1] = some y1 := by
        have h : DataW.trod enc Try.prog W 0 (fun _ => true) true n 2 ((List.drop 1 [c0, c1, c2]).take (Try.prog.cellsOf 2)) = some y1 := hf 1 _ rfl
        rw [cellsI64] at h
        exact h
      have f2 : DataW.trod enc Try.prog W 0 (fun _ => true) true n 2 [c2] = some y2 := by
        have h : DataW.trod enc Try.prog W 0 (fun _ => true) true n 2 ((List.drop 2 [c0, c1, c2]).take (Try.prog.cellsOf 2)) = some y2 := hf 2 _ rfl
        rw [cellsI64] at h
        exact h
      obtain ⟨z0, e0, _, w0⟩ := DataW.trod_int Try.underlying3 f0
      obtain ⟨z1, e1, _, w1⟩ := DataW.trod_int Try.underlying2 f1
      obtain ⟨z2, e2, _, w2⟩ := DataW.trod_int Try.underlying2 f2
      simp only [List.cons.injEq, and_true] at e0 e1 e2
      subst e0 e1 e2
      exact ⟨⟨z0, z1, z2⟩, rfl⟩

set_option maxRecDepth 100000 in
/-- A list of acts, by its cell. -/
theorem trod_acts15 {H : Type} {enc : TypeId × Value → H} {W : World} {fuel : Nat} {c : Value} {x : DataW H × List MemPlace} (h : DataW.trod enc Try.prog W 0 (fun _ => true) true fuel 34 [c] = some x) :
    ∃ xs, Acl15 W c xs ∧ xs.length ≤ maxLen := by
  rcases Deep.open_slice Try.underlying34 h with ⟨hcs, _⟩ | ⟨a, len, cap, m, n, D, Q, hcs, _, hl, hm, hmm, _, hx⟩
  · simp only [List.cons.injEq, and_true] at hcs
    subst hcs
    exact ⟨[], Acl15.nil W, Nat.zero_le _⟩
  · simp only [List.cons.injEq, and_true] at hcs
    subst hcs
    simp only [if_true] at hmm
    subst hmm
    rw [cellsAct15] at hx
    have hall : ∀ i, i < len → ∃ o : Sq.Ac, ∀ (k : Nat) u, (aac15 o)[k]? = some u → W.cell? (a.add (i * 3 + k)) = some u := fun i hi => by
      obtain ⟨cs', h1, h2⟩ := hx i (by omega)
      obtain ⟨o, rfl⟩ := trod_act15 h2
      refine ⟨o, fun k u hu => ?_⟩
      obtain ⟨_, hl3, hc⟩ := World.cells?_some h1
      have hk : k < 3 := by
        have := (List.getElem?_eq_some_iff.1 hu).1
        rw [hl3] at this
        exact this
      have := hc k hk
      rw [hu] at this
      rw [← this, Deep.add_add]
    have _inh : Inhabited Sq.Ac := ⟨⟨0, 0, 0⟩⟩
    obtain ⟨V, hV⟩ := Deep.choose_lt (α := Sq.Ac) (n := len) (p := fun i o => ∀ (k : Nat) u, (aac15 o)[k]? = some u → W.cell? (a.add (i * 3 + k)) = some u) hall
    have hln : ((List.range len).map V).length = len := by simp
    refine ⟨(List.range len).map V, ⟨some a, len, m, rfl, hln.symm, fun j o ho => ?_⟩, by rw [hln]; omega⟩
    · have hj : j < len := by
        have := (List.getElem?_eq_some_iff.1 ho).1
        rw [hln] at this
        exact this
      rw [List.getElem?_map, List.getElem?_range hj] at ho
      have ho : V j = o := Option.some.inj ho
      subst ho
      obtain ⟨b, off, spot⟩ := a
      have hspot : spot = none := by
        have h0 := hV 0 (by omega) 0 _ rfl
        have := World.cell?_spot h0
        simpa [Addr.add] using this
      subst hspot
      refine ⟨b, off, rfl, fun k u hu => ?_⟩
      have := hV j hj k u hu
      rw [Addr.add_lit, ← Nat.add_assoc] at this
      exact this

set_option maxRecDepth 100000 in
theorem open_ac15 {H : Type} {enc : TypeId × Value → H} {W : World} {base : Nat} {v : Value} {d : DataW H} {p : List MemPlace} (hval : Value.okWide Try.prog W .any base 34 v) (h : DataW.Trod enc Try.prog W 0 (fun _ => true) true 34 v d p) :
    ∃ xs, Acl15 W v xs ∧ xs.length ≤ maxLen := by
  obtain ⟨a0, len, cap, rfl⟩ := okWide_slice Try.underlying34 hval
  obtain ⟨fuel, hf⟩ := h
  exact trod_acts15 hf
end Go.Proofs.Ytlabdhllindenaa
