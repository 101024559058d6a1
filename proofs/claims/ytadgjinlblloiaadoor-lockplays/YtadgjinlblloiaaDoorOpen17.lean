/- Arguments that are calls of stage 17's statements: from what came in to the walks' words. -/
import Derived.Test.YtadgjinlblloiaaDoorOpen
import Derived.Test.YtadgjinlblloiaaDoorActs17
import Derived.Deep.Slices
namespace Go.Proofs.YtadgjinlblloiaaDoor
open Go.ChangeShapes Go.WideShapes Go.ChangeAt Go.RowKit
theorem cellsAct17 : Tryd.prog.cellsOf 39 = 3 := by kernel_rfl
theorem cellsTx17 : Tryd.prog.cellsOf 37 = 1 := by kernel_rfl
theorem cellsI6417 : Tryd.prog.cellsOf 2 = 1 := by kernel_rfl
set_option maxRecDepth 100000 in
theorem trod_texts17 {H : Type} {enc : TypeId × Value → H} {W : World} {fuel : Nat} {c : Value} {x : DataW H × List MemPlace} (hf : DataW.trod enc Tryd.prog W 0 (fun _ => true) true fuel 37 [c] = some x) :
    ∃ ss : List ByteArray, Tx17 W c ss ∧ ss.length ≤ maxLen ∧ ∀ s ∈ ss, s.size ≤ maxLen := by
  rcases open_strings Tryd.underlying37 Tryd.underlying9 cellsString hf with ⟨hcs, _⟩ | ⟨a, len, cap, ss, hcs, _, hl, hm, hz, _, hcell, hws⟩
  · simp only [List.cons.injEq, and_true] at hcs
    subst hcs
    exact ⟨[], ⟨⟨_, _, _, rfl, rfl, fun j s hs => by simp at hs⟩, Or.inl rfl⟩, Nat.zero_le _, fun _ h => by cases h⟩
  · simp only [List.cons.injEq, and_true] at hcs
    subst hcs
    have hzl : ss.length = cap := by simpa using hz
    have hlen : (ss.take len).length = len := by simp; omega
    refine ⟨ss.take len, ⟨⟨some a, len, cap, rfl, hlen.symm, fun j z hz => ?_⟩, Or.inr ⟨a, cap, by rw [hlen]⟩⟩, by rw [hlen]; omega, fun s hs => hws s (List.mem_of_mem_take hs)⟩
    have hj : j < len := by
      have := (List.getElem?_eq_some_iff.1 hz).1
      omega
    rw [List.getElem?_take_of_lt hj] at hz
    have h1 := hcell j (by omega)
    obtain ⟨b, o, spot⟩ := a
    have hsp : spot = none := by simpa [Addr.add] using World.cell?_spot (hcell 0 (by omega))
    subst hsp
    refine ⟨b, o, rfl, ?_⟩
    rw [Addr.add_lit] at h1
    rw [h1]
    simp [List.getD, hz]

set_option maxRecDepth 100000 in
theorem trod_act17 {H : Type} {enc : TypeId × Value → H} {W : World} {fuel : Nat} {cs : List Value} {x : DataW H × List MemPlace} (h : DataW.trod enc Tryd.prog W 0 (fun _ => true) true fuel 39 cs = some x) : ∃ (X : Lk.Ac) (u : Value), cs = aac17 X u ∧ Tx17 W u X.ps ∧ AcOk17 X := by
  obtain ⟨xs, n, _, rfl, hl, hlen, hf⟩ := DataW.trod_struct Tryd.underlying39 h
  rw [cellsAct17] at hl
  match cs, hl with
  | [c0, c1, c2], _ =>
    match xs, hlen with
    | [y0, y1, y2], _ =>
      have f0 : DataW.trod enc Tryd.prog W 0 (fun _ => true) true n 3 [c0] = some y0 := by
        have h : DataW.trod enc Tryd.prog W 0 (fun _ => true) true n 3 ((List.drop 0 [c0, c1, c2]).take (Tryd.prog.cellsOf 3)) = some y0 := hf 0 _ rfl
        rw [cellsInt] at h
        exact h
      have f1 : DataW.trod enc Tryd.prog W 0 (fun _ => true) true n 2 [c1] = some y1 := by
        have h : DataW.trod enc Tryd.prog W 0 (fun _ => true) true n 2 ((List.drop 1 [c0, c1, c2]).take (Tryd.prog.cellsOf 2)) = some y1 := hf 1 _ rfl
        rw [cellsI6417] at h
        exact h
      have f2 : DataW.trod enc Tryd.prog W 0 (fun _ => true) true n 37 [c2] = some y2 := by
        have h : DataW.trod enc Tryd.prog W 0 (fun _ => true) true n 37 ((List.drop 2 [c0, c1, c2]).take (Tryd.prog.cellsOf 37)) = some y2 := hf 2 _ rfl
        rw [cellsTx17] at h
        exact h
      obtain ⟨z0, e0, _, w0⟩ := DataW.trod_int Tryd.underlying3 f0
      obtain ⟨z1, e1, _, w1⟩ := DataW.trod_int Tryd.underlying2 f1
      obtain ⟨ss, hss, hsl, hst⟩ := trod_texts17 f2
      simp only [List.cons.injEq, and_true] at e0 e1
      subst e0 e1
      exact ⟨⟨z0, z1, ss⟩, c2, rfl, hss, ⟨bounds_i64 w1, hsl, hst⟩⟩
set_option maxRecDepth 100000 in
theorem trod_acts17 {H : Type} {enc : TypeId × Value → H} {W : World} {fuel : Nat} {c : Value} {x : DataW H × List MemPlace} (h : DataW.trod enc Tryd.prog W 0 (fun _ => true) true fuel 32 [c] = some x) :
    ∃ xs, Acl17 W c xs ∧ xs.length ≤ maxLen ∧ ∀ x ∈ xs, AcOk17 x := by
  rcases Deep.open_slice Tryd.underlying32 h with ⟨hcs, _⟩ | ⟨a, len, cap, m, n, D, Q, hcs, _, hl, hm, hmm, _, hx⟩
  · simp only [List.cons.injEq, and_true] at hcs
    subst hcs
    exact ⟨[], Acl17.nil W, Nat.zero_le _, fun _ h => by cases h⟩
  · simp only [List.cons.injEq, and_true] at hcs
    subst hcs
    simp only [if_true] at hmm
    subst hmm
    rw [cellsAct17] at hx
    have hall : ∀ i, i < len → ∃ o : Lk.Ac, AcOk17 o ∧ ∃ nv, Tx17 W nv o.ps ∧ ∀ (k : Nat) u, (aac17 o nv)[k]? = some u → W.cell? (a.add (i * 3 + k)) = some u := fun i hi => by
      obtain ⟨cs', h1, h2⟩ := hx i (by omega)
      obtain ⟨o, nv, rfl, hss, hfit⟩ := trod_act17 h2
      refine ⟨o, hfit, nv, hss, fun k u hu => ?_⟩
      obtain ⟨_, hl3, hc⟩ := World.cells?_some h1
      have hk : k < 3 := by
        have := (List.getElem?_eq_some_iff.1 hu).1
        rw [hl3] at this
        exact this
      have := hc k hk
      rw [hu] at this
      rw [← this, Deep.add_add]
    have _inh : Inhabited Lk.Ac := ⟨⟨0, 0, []⟩⟩
    obtain ⟨V, hV⟩ := Deep.choose_lt (α := Lk.Ac) (n := len) (p := fun i o => AcOk17 o ∧ ∃ nv, Tx17 W nv o.ps ∧ ∀ (k : Nat) u, (aac17 o nv)[k]? = some u → W.cell? (a.add (i * 3 + k)) = some u) hall
    have hln : ((List.range len).map V).length = len := by simp
    refine ⟨(List.range len).map V, ⟨some a, len, m, rfl, hln.symm, fun j o ho => ?_⟩, by rw [hln]; omega, fun o ho => ?_⟩
    · have hj : j < len := by
        have := (List.getElem?_eq_some_iff.1 ho).1
        rw [hln] at this
        exact this
      rw [List.getElem?_map, List.getElem?_range hj] at ho
      have ho : V j = o := Option.some.inj ho
      subst ho
      obtain ⟨nv, hss, hcl⟩ := (hV j hj).2
      obtain ⟨b, off, spot⟩ := a
      have hspot : spot = none := by
        obtain ⟨_, _, hcl0⟩ := (hV 0 (by omega)).2
        have h0 := hcl0 0 _ rfl
        have := World.cell?_spot h0
        simpa [Addr.add] using this
      subst hspot
      refine ⟨b, off, nv, rfl, hss, fun k u hu => ?_⟩
      have := hcl k u hu
      rw [Addr.add_lit, ← Nat.add_assoc] at this
      exact this
    · obtain ⟨r, hr, rfl⟩ := List.mem_map.1 ho
      exact (hV r (by simpa using hr)).1

set_option maxRecDepth 100000 in
theorem open_ac17 {H : Type} {enc : TypeId × Value → H} {W : World} {base : Nat} {v : Value} {d : DataW H} {p : List MemPlace} (hval : Value.okWide Tryd.prog W .any base 32 v) (h : DataW.Trod enc Tryd.prog W 0 (fun _ => true) true 32 v d p) :
    ∃ xs, Acl17 W v xs ∧ xs.length ≤ maxLen ∧ ∀ x ∈ xs, AcOk17 x := by
  obtain ⟨a0, len, cap, rfl⟩ := okWide_slice Tryd.underlying32 hval
  obtain ⟨fuel, hf⟩ := h
  exact trod_acts17 hf

end Go.Proofs.YtadgjinlblloiaaDoor
