/- Arguments that are truths and lists of acts: from what came in to the walks' words. -/
import Derived.Test.YtfcbdjjbchcpjaaGreatDoorOpen
import Derived.Test.YtfcbdjjbchcpjaaGreatDoorOpenOp11
import Derived.Test.YtfcbdjjbchcpjaaGreatDoorBas
import Derived.Test.YtfcbdjjbchcpjaaGreatDoorActs11
import Derived.Deep.Slices
import Derived.Deep.Grids
namespace Go.Proofs.YtfcbdjjbchcpjaaGreatDoor
open Go.ChangeShapes Go.WideShapes Go.ChangeAt Go.RowKit

def Rng10 (z : Int) : Prop := -9223372036854775808 ≤ z ∧ z ≤ 9223372036854775807
/-- A node that an argument may hold. -/
structure KnOk11 (n : Kq.Kn) : Prop where
  ver : Rng10 n.ver
  kids : Rng10 n.kids
  next : Rng10 n.next
  data : n.data.size ≤ maxLen
  many : n.names.length ≤ maxLen
  long : ∀ s ∈ n.names, s.size ≤ maxLen
theorem cellsStat10 : Tryz.prog.cellsOf 29 = 7 := by kernel_rfl
theorem cellsNode10 : Tryz.prog.cellsOf 38 = 10 := by kernel_rfl
theorem cellsTexts10 : Tryz.prog.cellsOf 27 = 1 := by kernel_rfl
theorem cellsAct11 : Tryz.prog.cellsOf 48 = 18 := by kernel_rfl

set_option maxRecDepth 100000 in
theorem trod_stat10 {H : Type} {enc : TypeId × Value → H} {W : World} {fuel : Nat} {cs : List Value} {x : DataW H × List MemPlace} (h : DataW.trod enc Tryz.prog W 0 (fun _ => true) true fuel 29 cs = some x) :
    ∃ z0 z1 z2 z3 z4 z5 z6 : Int, cs = [.int .i64 z0, .int .i64 z1, .int .i64 z2, .int .i64 z3, .int .i64 z4, .int .i64 z5, .int .i64 z6] ∧ Rng10 z0 ∧ Rng10 z1 ∧ Rng10 z2 ∧ Rng10 z3 ∧ Rng10 z4 ∧ Rng10 z5 ∧ Rng10 z6 := by
  obtain ⟨xs, n, _, rfl, hl, hlen, hf⟩ := DataW.trod_struct Tryz.underlying29 h
  rw [cellsStat10] at hl
  match cs, hl with
  | [c0, c1, c2, c3, c4, c5, c6], _ =>
    match xs, hlen with
    | [y0, y1, y2, y3, y4, y5, y6], _ =>
      have f0 : DataW.trod enc Tryz.prog W 0 (fun _ => true) true n 2 [c0] = some y0 := by
        have h : DataW.trod enc Tryz.prog W 0 (fun _ => true) true n 2 ((List.drop 0 [c0, c1, c2, c3, c4, c5, c6]).take (Tryz.prog.cellsOf 2)) = some y0 := hf 0 _ rfl
        rw [cellsI64] at h
        exact h
      have f1 : DataW.trod enc Tryz.prog W 0 (fun _ => true) true n 2 [c1] = some y1 := by
        have h : DataW.trod enc Tryz.prog W 0 (fun _ => true) true n 2 ((List.drop 1 [c0, c1, c2, c3, c4, c5, c6]).take (Tryz.prog.cellsOf 2)) = some y1 := hf 1 _ rfl
        rw [cellsI64] at h
        exact h
      have f2 : DataW.trod enc Tryz.prog W 0 (fun _ => true) true n 3 [c2] = some y2 := by
        have h : DataW.trod enc Tryz.prog W 0 (fun _ => true) true n 3 ((List.drop 2 [c0, c1, c2, c3, c4, c5, c6]).take (Tryz.prog.cellsOf 3)) = some y2 := hf 2 _ rfl
        rw [cellsInt] at h
        exact h
      have f3 : DataW.trod enc Tryz.prog W 0 (fun _ => true) true n 3 [c3] = some y3 := by
        have h : DataW.trod enc Tryz.prog W 0 (fun _ => true) true n 3 ((List.drop 3 [c0, c1, c2, c3, c4, c5, c6]).take (Tryz.prog.cellsOf 3)) = some y3 := hf 3 _ rfl
        rw [cellsInt] at h
        exact h
      have f4 : DataW.trod enc Tryz.prog W 0 (fun _ => true) true n 2 [c4] = some y4 := by
        have h : DataW.trod enc Tryz.prog W 0 (fun _ => true) true n 2 ((List.drop 4 [c0, c1, c2, c3, c4, c5, c6]).take (Tryz.prog.cellsOf 2)) = some y4 := hf 4 _ rfl
        rw [cellsI64] at h
        exact h
      have f5 : DataW.trod enc Tryz.prog W 0 (fun _ => true) true n 3 [c5] = some y5 := by
        have h : DataW.trod enc Tryz.prog W 0 (fun _ => true) true n 3 ((List.drop 5 [c0, c1, c2, c3, c4, c5, c6]).take (Tryz.prog.cellsOf 3)) = some y5 := hf 5 _ rfl
        rw [cellsInt] at h
        exact h
      have f6 : DataW.trod enc Tryz.prog W 0 (fun _ => true) true n 3 [c6] = some y6 := by
        have h : DataW.trod enc Tryz.prog W 0 (fun _ => true) true n 3 ((List.drop 6 [c0, c1, c2, c3, c4, c5, c6]).take (Tryz.prog.cellsOf 3)) = some y6 := hf 6 _ rfl
        rw [cellsInt] at h
        exact h
      obtain ⟨z0, e0, _, w0⟩ := DataW.trod_int Tryz.underlying2 f0
      obtain ⟨z1, e1, _, w1⟩ := DataW.trod_int Tryz.underlying2 f1
      obtain ⟨z2, e2, _, w2⟩ := DataW.trod_int Tryz.underlying3 f2
      obtain ⟨z3, e3, _, w3⟩ := DataW.trod_int Tryz.underlying3 f3
      obtain ⟨z4, e4, _, w4⟩ := DataW.trod_int Tryz.underlying2 f4
      obtain ⟨z5, e5, _, w5⟩ := DataW.trod_int Tryz.underlying3 f5
      obtain ⟨z6, e6, _, w6⟩ := DataW.trod_int Tryz.underlying3 f6
      simp only [List.cons.injEq, and_true] at e0 e1 e2 e3 e4 e5 e6
      subst e0 e1 e2 e3 e4 e5 e6
      exact ⟨z0, z1, z2, z3, z4, z5, z6, rfl, bounds_i64 w0, bounds_i64 w1, bounds_i64 w2, bounds_i64 w3, bounds_i64 w4, bounds_i64 w5, bounds_i64 w6⟩


set_option maxRecDepth 100000 in
theorem trod_texts11 {H : Type} {enc : TypeId × Value → H} {W : World} {fuel : Nat} {c : Value} {x : DataW H × List MemPlace} (hf : DataW.trod enc Tryz.prog W 0 (fun _ => true) true fuel 27 [c] = some x) :
    ∃ ss : List ByteArray, Ss W c ss ∧ ss.length ≤ maxLen ∧ ∀ s ∈ ss, s.size ≤ maxLen := by
  rcases open_strings Tryz.underlying27 Tryz.underlying9 cellsString hf with ⟨hcs, _⟩ | ⟨a, len, cap, ss, hcs, _, hl, hm, hz, _, hcell, hws⟩
  · simp only [List.cons.injEq, and_true] at hcs
    subst hcs
    exact ⟨[], ⟨_, _, _, rfl, rfl, fun j s hs => by simp at hs⟩, Nat.zero_le _, fun _ h => by cases h⟩
  · simp only [List.cons.injEq, and_true] at hcs
    subst hcs
    have hzl : ss.length = cap := by simpa using hz
    have hlen : (ss.take len).length = len := by simp; omega
    refine ⟨ss.take len, ⟨some a, len, cap, rfl, hlen.symm, fun j z hz => ?_⟩, by rw [hlen]; omega, fun s hs => hws s (List.mem_of_mem_take hs)⟩
    have hj : j < len := by
      have := (List.getElem?_eq_some_iff.1 hz).1
      omega
    rw [List.getElem?_take_of_lt hj] at hz
    have h1 := hcell j (by omega)
    obtain ⟨b, o, spot⟩ := a
    have hsp : spot = none := by simpa [Addr.add] using World.cell?_spot (hcell 0 (by omega))
    subst hsp
    refine ⟨b, o, rfl, ?_⟩
    rw [Addr.add_lit] at h1
    rw [h1]
    simp [List.getD, hz]

set_option maxRecDepth 100000 in
theorem trod_node11 {H : Type} {enc : TypeId × Value → H} {W : World} {fuel : Nat} {cs : List Value} {x : DataW H × List MemPlace} (h : DataW.trod enc Tryz.prog W 0 (fun _ => true) true fuel 38 cs = some x) : ∃ (n : Kq.Kn) (u : Value), cs = k10 n u ∧ Ss W u n.names ∧ KnOk11 n := by
  obtain ⟨xs, m, _, rfl, hl, hlen, hf⟩ := DataW.trod_struct Tryz.underlying38 h
  rw [cellsNode10] at hl
  match cs, hl with
  | [c0, c1, c2, c3, c4, c5, c6, c7, c8, c9], _ =>
    match xs, hlen with
    | [y0, y1, y2, y3], _ =>
      have f0 : DataW.trod enc Tryz.prog W 0 (fun _ => true) true m 29 [c0, c1, c2, c3, c4, c5, c6] = some y0 := by
        have h : DataW.trod enc Tryz.prog W 0 (fun _ => true) true m 29 ((List.drop 0 [c0, c1, c2, c3, c4, c5, c6, c7, c8, c9]).take (Tryz.prog.cellsOf 29)) = some y0 := hf 0 _ rfl
        rw [cellsStat10] at h
        exact h
      have f1 : DataW.trod enc Tryz.prog W 0 (fun _ => true) true m 9 [c7] = some y1 := by
        have h : DataW.trod enc Tryz.prog W 0 (fun _ => true) true m 9 ((List.drop 7 [c0, c1, c2, c3, c4, c5, c6, c7, c8, c9]).take (Tryz.prog.cellsOf 9)) = some y1 := hf 1 _ rfl
        rw [cellsString] at h
        exact h
      have f2 : DataW.trod enc Tryz.prog W 0 (fun _ => true) true m 3 [c8] = some y2 := by
        have h : DataW.trod enc Tryz.prog W 0 (fun _ => true) true m 3 ((List.drop 8 [c0, c1, c2, c3, c4, c5, c6, c7, c8, c9]).take (Tryz.prog.cellsOf 3)) = some y2 := hf 2 _ rfl
        rw [cellsInt] at h
        exact h
      have f3 : DataW.trod enc Tryz.prog W 0 (fun _ => true) true m 27 [c9] = some y3 := by
        have h : DataW.trod enc Tryz.prog W 0 (fun _ => true) true m 27 ((List.drop 9 [c0, c1, c2, c3, c4, c5, c6, c7, c8, c9]).take (Tryz.prog.cellsOf 27)) = some y3 := hf 3 _ rfl
        rw [cellsTexts10] at h
        exact h
      obtain ⟨m0, m1, m2, m3, m4, m5, m6, e0, r0, r1, r2, r3, r4, r5, r6⟩ := trod_stat10 f0
      obtain ⟨s1, e1, _, w1⟩ := DataW.trod_string Tryz.underlying9 f1
      obtain ⟨z2, e2, _, w2⟩ := DataW.trod_int Tryz.underlying3 f2
      obtain ⟨ss, hss, hsl, hst⟩ := trod_texts11 f3
      simp only [List.cons.injEq, and_true] at e0 e1 e2
      obtain ⟨rfl, rfl, rfl, rfl, rfl, rfl, rfl⟩ := e0
      subst e1 e2
      exact ⟨⟨m0, m1, m2, m3, m4, m5, m6, s1, z2, ss⟩, c9, rfl, hss, ⟨r2, r3, bounds_i64 w2, w1, hsl, hst⟩⟩


theorem bounds_of {z : Int} (h : Rng10 z) : Rg11 z := h
set_option maxRecDepth 100000 in
theorem trod_act11 {H : Type} {enc : TypeId × Value → H} {W : World} {fuel : Nat} {cs : List Value} {x : DataW H × List MemPlace} (h : DataW.trod enc Tryz.prog W 0 (fun _ => true) true fuel 48 cs = some x) : ∃ (X : Ac11) (u : Value), cs = a18 X u ∧ Ss W u X.n.names ∧ AcOk11 X := by
  obtain ⟨xs, n, _, rfl, hl, hlen, hf⟩ := DataW.trod_struct Tryz.underlying48 h
  rw [cellsAct11] at hl
  match cs, hl with
  | [c0, c1, c2, c3, c4, c5, c6, c7, c8, c9, c10, c11, c12, c13, c14, c15, c16, c17], _ =>
    match xs, hlen with
    | [y0, y1, y2, y3, y4], _ =>
      have f0 : DataW.trod enc Tryz.prog W 0 (fun _ => true) true n 3 [c0] = some y0 := by
        have h : DataW.trod enc Tryz.prog W 0 (fun _ => true) true n 3 ((List.drop 0 [c0, c1, c2, c3, c4, c5, c6, c7, c8, c9, c10, c11, c12, c13, c14, c15, c16, c17]).take (Tryz.prog.cellsOf 3)) = some y0 := hf 0 _ rfl
        rw [cellsInt] at h
        exact h
      have f1 : DataW.trod enc Tryz.prog W 0 (fun _ => true) true n 34 [c1, c2, c3, c4, c5] = some y1 := by
        have h : DataW.trod enc Tryz.prog W 0 (fun _ => true) true n 34 ((List.drop 1 [c0, c1, c2, c3, c4, c5, c6, c7, c8, c9, c10, c11, c12, c13, c14, c15, c16, c17]).take (Tryz.prog.cellsOf 34)) = some y1 := hf 1 _ rfl
        rw [cellsOp] at h
        exact h
      have f2 : DataW.trod enc Tryz.prog W 0 (fun _ => true) true n 2 [c6] = some y2 := by
        have h : DataW.trod enc Tryz.prog W 0 (fun _ => true) true n 2 ((List.drop 6 [c0, c1, c2, c3, c4, c5, c6, c7, c8, c9, c10, c11, c12, c13, c14, c15, c16, c17]).take (Tryz.prog.cellsOf 2)) = some y2 := hf 2 _ rfl
        rw [cellsI64] at h
        exact h
      have f3 : DataW.trod enc Tryz.prog W 0 (fun _ => true) true n 2 [c7] = some y3 := by
        have h : DataW.trod enc Tryz.prog W 0 (fun _ => true) true n 2 ((List.drop 7 [c0, c1, c2, c3, c4, c5, c6, c7, c8, c9, c10, c11, c12, c13, c14, c15, c16, c17]).take (Tryz.prog.cellsOf 2)) = some y3 := hf 3 _ rfl
        rw [cellsI64] at h
        exact h
      have f4 : DataW.trod enc Tryz.prog W 0 (fun _ => true) true n 38 [c8, c9, c10, c11, c12, c13, c14, c15, c16, c17] = some y4 := by
        have h : DataW.trod enc Tryz.prog W 0 (fun _ => true) true n 38 ((List.drop 8 [c0, c1, c2, c3, c4, c5, c6, c7, c8, c9, c10, c11, c12, c13, c14, c15, c16, c17]).take (Tryz.prog.cellsOf 38)) = some y4 := hf 4 _ rfl
        rw [cellsNode10] at h
        exact h
      obtain ⟨z0, e0, _, w0⟩ := DataW.trod_int Tryz.underlying3 f0
      obtain ⟨o1, e1, h1⟩ := trod_op f1
      obtain ⟨z2, e2, _, w2⟩ := DataW.trod_int Tryz.underlying2 f2
      obtain ⟨z3, e3, _, w3⟩ := DataW.trod_int Tryz.underlying2 f3
      obtain ⟨k4, u4, e4, hss, h4⟩ := trod_node11 f4
      simp only [List.cons.injEq, and_true] at e0 e2 e3
      unfold oc at e1
      unfold k10 at e4
      simp only [List.cons.injEq, and_true] at e1 e4
      obtain ⟨rfl, rfl, rfl, rfl, rfl⟩ := e1
      obtain ⟨rfl, rfl, rfl, rfl, rfl, rfl, rfl, rfl, rfl, rfl⟩ := e4
      subst e0 e2 e3
      exact ⟨⟨z0, o1, z2, z3, k4⟩, c17, rfl, hss, ⟨⟨h1.kind, h1.path, h1.data, h1.ver, h1.flags⟩, bounds_i64 w2, bounds_i64 w3, h4.ver, h4.kids, h4.next, h4.data, h4.many, h4.long⟩⟩

theorem Acl11.nil (w : World) : Acl11 w (.slice none 0 0) [] := ⟨_, _, _, rfl, rfl, fun j s hs => by simp at hs⟩
set_option maxRecDepth 100000 in
theorem trod_acts11 {H : Type} {enc : TypeId × Value → H} {W : World} {fuel : Nat} {c : Value} {x : DataW H × List MemPlace} (h : DataW.trod enc Tryz.prog W 0 (fun _ => true) true fuel 42 [c] = some x) :
    ∃ xs, Acl11 W c xs ∧ xs.length ≤ maxLen ∧ ∀ x ∈ xs, AcOk11 x := by
  rcases Deep.open_slice Tryz.underlying42 h with ⟨hcs, _⟩ | ⟨a, len, cap, m, n, D, Q, hcs, _, hl, hm, hmm, _, hx⟩
  · simp only [List.cons.injEq, and_true] at hcs
    subst hcs
    exact ⟨[], Acl11.nil W, Nat.zero_le _, fun _ h => by cases h⟩
  · simp only [List.cons.injEq, and_true] at hcs
    subst hcs
    simp only [if_true] at hmm
    subst hmm
    rw [cellsAct11] at hx
    have hall : ∀ i, i < len → ∃ o : Ac11, AcOk11 o ∧ ∃ nv, Ss W nv o.n.names ∧ ∀ (k : Nat) u, (a18 o nv)[k]? = some u → W.cell? (a.add (i * 18 + k)) = some u := fun i hi => by
      obtain ⟨cs', h1, h2⟩ := hx i (by omega)
      obtain ⟨o, nv, rfl, hss, hfit⟩ := trod_act11 h2
      refine ⟨o, hfit, nv, hss, fun k u hu => ?_⟩
      obtain ⟨_, hl3, hc⟩ := World.cells?_some h1
      have hk : k < 18 := by
        have := (List.getElem?_eq_some_iff.1 hu).1
        rw [hl3] at this
        exact this
      have := hc k hk
      rw [hu] at this
      rw [← this, Deep.add_add]
    have _inh : Inhabited Ac11 := ⟨⟨0, ⟨0, ⟨#[]⟩, ⟨#[]⟩, 0, 0⟩, 0, 0, Kq.zero⟩⟩
    obtain ⟨V, hV⟩ := Deep.choose_lt (α := Ac11) (n := len) (p := fun i o => AcOk11 o ∧ ∃ nv, Ss W nv o.n.names ∧ ∀ (k : Nat) u, (a18 o nv)[k]? = some u → W.cell? (a.add (i * 18 + k)) = some u) hall
    have hln : ((List.range len).map V).length = len := by simp
    refine ⟨(List.range len).map V, ⟨some a, len, m, rfl, hln.symm, fun j o ho => ?_⟩, by rw [hln]; omega, fun o ho => ?_⟩
    · have hj : j < len := by
        have := (List.getElem?_eq_some_iff.1 ho).1
        rw [hln] at this
        exact this
      rw [List.getElem?_map, List.getElem?_range hj] at ho
      have ho : V j = o := Option.some.inj ho
      subst ho
      obtain ⟨nv, hss, hcl⟩ := (hV j hj).2
      obtain ⟨b, off, spot⟩ := a
      have hspot : spot = none := by
        obtain ⟨_, _, hcl0⟩ := (hV 0 (by omega)).2
        have h0 := hcl0 0 _ rfl
        have := World.cell?_spot h0
        simpa [Addr.add] using this
      subst hspot
      refine ⟨b, off, nv, rfl, hss, fun k u hu => ?_⟩
      have := hcl k u hu
      rw [Addr.add_lit, ← Nat.add_assoc] at this
      exact this
    · obtain ⟨r, hr, rfl⟩ := List.mem_map.1 ho
      exact (hV r (by simpa using hr)).1

set_option maxRecDepth 100000 in
theorem open_ac11 {H : Type} {enc : TypeId × Value → H} {W : World} {base : Nat} {v : Value} {d : DataW H} {p : List MemPlace} (hval : Value.okWide Tryz.prog W .any base 42 v) (h : DataW.Trod enc Tryz.prog W 0 (fun _ => true) true 42 v d p) :
    ∃ xs, Acl11 W v xs ∧ xs.length ≤ maxLen ∧ ∀ x ∈ xs, AcOk11 x := by
  obtain ⟨a0, len, cap, rfl⟩ := okWide_slice Tryz.underlying42 hval
  obtain ⟨fuel, hf⟩ := h
  exact trod_acts11 hf
end Go.Proofs.YtfcbdjjbchcpjaaGreatDoor
