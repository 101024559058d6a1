import Derived.Test.YtboejbjobjhajaaGreatDoorOpenO
import Derived.Test.YtboejbjobjhajaaGreatDoorMn18
namespace Go.Proofs.YtboejbjobjhajaaGreatDoor
open Go.ChangeShapes Go.WideShapes Go.ChangeAt Go.RowKit
theorem cellsAct18 : Tryz.prog.cellsOf 50 = 5 := by kernel_rfl
theorem cellsOps18 : Tryz.prog.cellsOf 39 = 1 := by kernel_rfl
theorem cellsBool18 : Tryz.prog.cellsOf 4 = 1 := by kernel_rfl
theorem cellsI6418 : Tryz.prog.cellsOf 2 = 1 := by kernel_rfl
set_option maxRecDepth 100000 in
theorem trod_ops18 {H : Type} {enc : TypeId × Value → H} {W : World} {fuel : Nat} {c : Value} {x : DataW H × List MemPlace} (h : DataW.trod enc Tryz.prog W 0 (fun _ => true) true fuel 39 [c] = some x) : ∃ os, Ol W c os ∧ os.length ≤ maxLen ∧ ∀ o ∈ os, Fit o := by
  rcases Deep.open_slice Tryz.underlying39 h with ⟨hcs, _⟩ | ⟨a, len, cap, m, n, D, Q, hcs, _⟩
  · simp only [List.cons.injEq, and_true] at hcs
    subst hcs
    exact trod_ops h
  · simp only [List.cons.injEq, and_true] at hcs
    subst hcs
    exact trod_ops h
set_option maxRecDepth 100000 in
theorem trod_act18 {H : Type} {enc : TypeId × Value → H} {W : World} {fuel : Nat} {cs : List Value} {x : DataW H × List MemPlace} (h : DataW.trod enc Tryz.prog W 0 (fun _ => true) true fuel 50 cs = some x) : ∃ (X : Ac18) (u : Value), cs = ac18 X u ∧ Ol W u X.ops ∧ AcOk18 X := by
  obtain ⟨xs, n, _, rfl, hl, hlen, hf⟩ := DataW.trod_struct Tryz.underlying50 h
  rw [cellsAct18] at hl
  match cs, hl with
  | [c0, c1, c2, c3, c4], _ =>
    match xs, hlen with
    | [y0, y1, y2, y3, y4], _ =>
      have f0 : DataW.trod enc Tryz.prog W 0 (fun _ => true) true n 3 [c0] = some y0 := by
        have h : DataW.trod enc Tryz.prog W 0 (fun _ => true) true n 3 ((List.drop 0 [c0, c1, c2, c3, c4]).take (Tryz.prog.cellsOf 3)) = some y0 := hf 0 _ rfl
        rw [cellsInt] at h
        exact h
      have f1 : DataW.trod enc Tryz.prog W 0 (fun _ => true) true n 2 [c1] = some y1 := by
        have h : DataW.trod enc Tryz.prog W 0 (fun _ => true) true n 2 ((List.drop 1 [c0, c1, c2, c3, c4]).take (Tryz.prog.cellsOf 2)) = some y1 := hf 1 _ rfl
        rw [cellsI6418] at h
        exact h
      have f2 : DataW.trod enc Tryz.prog W 0 (fun _ => true) true n 2 [c2] = some y2 := by
        have h : DataW.trod enc Tryz.prog W 0 (fun _ => true) true n 2 ((List.drop 2 [c0, c1, c2, c3, c4]).take (Tryz.prog.cellsOf 2)) = some y2 := hf 2 _ rfl
        rw [cellsI6418] at h
        exact h
      have f3 : DataW.trod enc Tryz.prog W 0 (fun _ => true) true n 39 [c3] = some y3 := by
        have h : DataW.trod enc Tryz.prog W 0 (fun _ => true) true n 39 ((List.drop 3 [c0, c1, c2, c3, c4]).take (Tryz.prog.cellsOf 39)) = some y3 := hf 3 _ rfl
        rw [cellsOps18] at h
        exact h
      have f4 : DataW.trod enc Tryz.prog W 0 (fun _ => true) true n 4 [c4] = some y4 := by
        have h : DataW.trod enc Tryz.prog W 0 (fun _ => true) true n 4 ((List.drop 4 [c0, c1, c2, c3, c4]).take (Tryz.prog.cellsOf 4)) = some y4 := hf 4 _ rfl
        rw [cellsBool18] at h
        exact h
      obtain ⟨z0, e0, _, w0⟩ := DataW.trod_int Tryz.underlying3 f0
      obtain ⟨z1, e1, _, w1⟩ := DataW.trod_int Tryz.underlying2 f1
      obtain ⟨z2, e2, _, w2⟩ := DataW.trod_int Tryz.underlying2 f2
      obtain ⟨os, ho, hol, hof⟩ := trod_ops18 f3
      obtain ⟨z4, e4, _⟩ := DataW.trod_bool Tryz.underlying4 f4
      simp only [List.cons.injEq, and_true] at e0 e1 e2 e4
      subst e0 e1 e2 e4
      exact ⟨⟨z0, z1, z2, os, z4⟩, c3, rfl, ho, ⟨bounds_i64 w1, bounds_i64 w2, hol, fun o h => ⟨(hof o h).kind, (hof o h).path, (hof o h).data, (hof o h).ver, (hof o h).flags⟩⟩⟩
set_option maxRecDepth 100000 in
theorem trod_acts18 {H : Type} {enc : TypeId × Value → H} {W : World} {fuel : Nat} {c : Value} {x : DataW H × List MemPlace} (h : DataW.trod enc Tryz.prog W 0 (fun _ => true) true fuel 46 [c] = some x) :
    ∃ xs, Acl18 W c xs ∧ xs.length ≤ maxLen ∧ ∀ x ∈ xs, AcOk18 x := by
  rcases Deep.open_slice Tryz.underlying46 h with ⟨hcs, _⟩ | ⟨a, len, cap, m, n, D, Q, hcs, _, hl, hm, hmm, _, hx⟩
  · simp only [List.cons.injEq, and_true] at hcs
    subst hcs
    exact ⟨[], Acl18.nil W, Nat.zero_le _, fun _ h => by cases h⟩
  · simp only [List.cons.injEq, and_true] at hcs
    subst hcs
    simp only [if_true] at hmm
    subst hmm
    rw [cellsAct18] at hx
    have hall : ∀ i, i < len → ∃ o : Ac18, AcOk18 o ∧ ∃ nv, Ol W nv o.ops ∧ ∀ (k : Nat) u, (ac18 o nv)[k]? = some u → W.cell? (a.add (i * 5 + k)) = some u := fun i hi => by
      obtain ⟨cs', h1, h2⟩ := hx i (by omega)
      obtain ⟨o, nv, rfl, hss, hfit⟩ := trod_act18 h2
      refine ⟨o, hfit, nv, hss, fun k u hu => ?_⟩
      obtain ⟨_, hl3, hc⟩ := World.cells?_some h1
      have hk : k < 5 := by
        have := (List.getElem?_eq_some_iff.1 hu).1
        rw [hl3] at this
        exact this
      have := hc k hk
      rw [hu] at this
      rw [← this, Deep.add_add]
    have _inh : Inhabited Ac18 := ⟨⟨0, 0, 0, [], false⟩⟩
    obtain ⟨V, hV⟩ := Deep.choose_lt (α := Ac18) (n := len) (p := fun i o => AcOk18 o ∧ ∃ nv, Ol W nv o.ops ∧ ∀ (k : Nat) u, (ac18 o nv)[k]? = some u → W.cell? (a.add (i * 5 + k)) = some u) hall
    have hln : ((List.range len).map V).length = len := by simp
    refine ⟨(List.range len).map V, ⟨some a, len, m, rfl, hln.symm, fun j o ho => ?_⟩, by rw [hln]; omega, fun o ho => ?_⟩
    · have hj : j < len := by
        have := (List.getElem?_eq_some_iff.1 ho).1
        rw [hln] at this
        exact this
      rw [List.getElem?_map, List.getElem?_range hj] at ho
      have ho : V j = o := Option.some.inj ho
      subst ho
      obtain ⟨nv, hss, hcl⟩ := (hV j hj).2
      obtain ⟨b, off, spot⟩ := a
      have hspot : spot = none := by
        obtain ⟨_, _, hcl0⟩ := (hV 0 (by omega)).2
        have h0 := hcl0 0 _ rfl
        have := World.cell?_spot h0
        simpa [Addr.add] using this
      subst hspot
      refine ⟨b, off, nv, rfl, hss, fun k u hu => ?_⟩
      have := hcl k u hu
      rw [Addr.add_lit, ← Nat.add_assoc] at this
      exact this
    · obtain ⟨r, hr, rfl⟩ := List.mem_map.1 ho
      exact (hV r (by simpa using hr)).1
set_option maxRecDepth 100000 in
theorem open_ac18 {H : Type} {enc : TypeId × Value → H} {W : World} {base : Nat} {v : Value} {d : DataW H} {p : List MemPlace} (hval : Value.okWide Tryz.prog W .any base 46 v) (h : DataW.Trod enc Tryz.prog W 0 (fun _ => true) true 46 v d p) :
    ∃ xs, Acl18 W v xs ∧ xs.length ≤ maxLen ∧ ∀ x ∈ xs, AcOk18 x := by
  obtain ⟨a0, len, cap, rfl⟩ := okWide_slice Tryz.underlying46 hval
  obtain ⟨fuel, hf⟩ := h
  exact trod_acts18 hf
end Go.Proofs.YtboejbjobjhajaaGreatDoor
