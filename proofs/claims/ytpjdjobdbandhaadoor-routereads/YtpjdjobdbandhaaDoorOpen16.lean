/- Arguments that are lists of moves: from what came in to the walks' words. -/
import Derived.Test.YtpjdjobdbandhaaDoorOpen
import Derived.Test.YtpjdjobdbandhaaDoorActs16
import Derived.Deep.Slices
namespace Go.Proofs.YtpjdjobdbandhaaDoor
open Go.ChangeShapes Go.WideShapes Go.ChangeAt Go.RowKit

theorem cellsAct16 : Tryd.prog.cellsOf 43 = 2 := by kernel_rfl
theorem Acl16.nil (w : World) : Acl16 w (.slice none 0 0) [] := ⟨_, _, _, rfl, rfl, fun j s hs => by simp at hs⟩

set_option maxRecDepth 100000 in
theorem trod_act16 {H : Type} {enc : TypeId × Value → H} {W : World} {fuel : Nat} {cs : List Value} {x : DataW H × List MemPlace} (h : DataW.trod enc Tryd.prog W 0 (fun _ => true) true fuel 43 cs = some x) : ∃ X : Tb.Ac, cs = aac16 X ∧ AcOk16 X := by
  obtain ⟨xs, n, _, rfl, hl, hlen, hf⟩ := DataW.trod_struct Tryd.underlying43 h
  rw [cellsAct16] at hl
  match cs, hl with
  | [c0, c1], _ =>
    match xs, hlen with
    | [y0, y1], _ =>
      have f0 : DataW.trod enc Tryd.prog W 0 (fun _ => true) true n 9 [c0] = some y0 := by
        have h : DataW.trod enc Tryd.prog W 0 (fun _ => true) true n 9 ((List.drop 0 [c0, c1]).take (Tryd.prog.cellsOf 9)) = some y0 := hf 0 _ rfl
        rw [cellsString] at h
        exact h
      have f1 : DataW.trod enc Tryd.prog W 0 (fun _ => true) true n 3 [c1] = some y1 := by
        have h : DataW.trod enc Tryd.prog W 0 (fun _ => true) true n 3 ((List.drop 1 [c0, c1]).take (Tryd.prog.cellsOf 3)) = some y1 := hf 1 _ rfl
        rw [cellsInt] at h
        exact h
      obtain ⟨s0, e0, _, w0⟩ := DataW.trod_string Tryd.underlying9 f0
      obtain ⟨z1, e1, _, w1⟩ := DataW.trod_int Tryd.underlying3 f1
      simp only [List.cons.injEq, and_true] at e0 e1
      subst e0 e1
      exact ⟨⟨s0, z1⟩, rfl, ⟨w0⟩⟩

set_option maxRecDepth 100000 in
/-- A list of acts, by its cell. -/
theorem trod_acts16 {H : Type} {enc : TypeId × Value → H} {W : World} {fuel : Nat} {c : Value} {x : DataW H × List MemPlace} (h : DataW.trod enc Tryd.prog W 0 (fun _ => true) true fuel 37 [c] = some x) :
    ∃ xs, Acl16 W c xs ∧ xs.length ≤ maxLen ∧ ∀ x ∈ xs, AcOk16 x := by
  rcases Deep.open_slice Tryd.underlying37 h with ⟨hcs, _⟩ | ⟨a, len, cap, m, n, D, Q, hcs, _, hl, hm, hmm, _, hx⟩
  · simp only [List.cons.injEq, and_true] at hcs
    subst hcs
    exact ⟨[], Acl16.nil W, Nat.zero_le _, fun _ h => by cases h⟩
  · simp only [List.cons.injEq, and_true] at hcs
    subst hcs
    simp only [if_true] at hmm
    subst hmm
    rw [cellsAct16] at hx
    have hall : ∀ i, i < len → ∃ o : Tb.Ac, AcOk16 o ∧ ∀ (k : Nat) u, (aac16 o)[k]? = some u → W.cell? (a.add (i * 2 + k)) = some u := fun i hi => by
      obtain ⟨cs', h1, h2⟩ := hx i (by omega)
      obtain ⟨o, rfl, hfit⟩ := trod_act16 h2
      refine ⟨o, hfit, fun k u hu => ?_⟩
      obtain ⟨_, hl3, hc⟩ := World.cells?_some h1
      have hk : k < 2 := by
        have := (List.getElem?_eq_some_iff.1 hu).1
        rw [hl3] at this
        exact this
      have := hc k hk
      rw [hu] at this
      rw [← this, Deep.add_add]
    have _inh : Inhabited Tb.Ac := ⟨⟨⟨#[]⟩, 0⟩⟩
    obtain ⟨V, hV⟩ := Deep.choose_lt (α := Tb.Ac) (n := len) (p := fun i o => AcOk16 o ∧ ∀ (k : Nat) u, (aac16 o)[k]? = some u → W.cell? (a.add (i * 2 + k)) = some u) hall
    have hln : ((List.range len).map V).length = len := by simp
    refine ⟨(List.range len).map V, ⟨some a, len, m, rfl, hln.symm, fun j o ho => ?_⟩, by rw [hln]; omega, fun o ho => ?_⟩
    · have hj : j < len := by
        have := (List.getElem?_eq_some_iff.1 ho).1
        rw [hln] at this
        exact this
      rw [List.getElem?_map, List.getElem?_range hj] at ho
      have ho : V j = o := Option.some.inj ho
      subst ho
      obtain ⟨b, off, spot⟩ := a
      have hspot : spot = none := by
        have h0 := (hV 0 (by omega)).2 0 _ rfl
        have := World.cell?_spot h0
        simpa [Addr.add] using this
      subst hspot
      refine ⟨b, off, rfl, fun k u hu => ?_⟩
      have := (hV j hj).2 k u hu
      rw [Addr.add_lit, ← Nat.add_assoc] at this
      exact this
    · obtain ⟨r, hr, rfl⟩ := List.mem_map.1 ho
      exact (hV r (by simpa using hr)).1

set_option maxRecDepth 100000 in
theorem open_ac16 {H : Type} {enc : TypeId × Value → H} {W : World} {base : Nat} {v : Value} {d : DataW H} {p : List MemPlace} (hval : Value.okWide Tryd.prog W .any base 37 v) (h : DataW.Trod enc Tryd.prog W 0 (fun _ => true) true 37 v d p) :
    ∃ xs, Acl16 W v xs ∧ xs.length ≤ maxLen ∧ ∀ x ∈ xs, AcOk16 x := by
  obtain ⟨a0, len, cap, rfl⟩ := okWide_slice Tryd.underlying37 hval
  obtain ⟨fuel, hf⟩ := h
  exact trod_acts16 hf
end Go.Proofs.YtpjdjobdbandhaaDoor
