/- An argument that is a node: from what came in to the walks' words. -/
import Derived.Test.YtlgpjgncimcijaaOpen10
import Derived.Test.YtlgpjgncimcijaaNm10
namespace Go.Proofs.Ytlgpjgncimcijaa
open Go.ChangeShapes Go.WideShapes Go.ChangeAt Go.RowKit

def Rng10 (z : Int) : Prop := -9223372036854775808 ≤ z ∧ z ≤ 9223372036854775807
/-- A node that an argument may hold. -/
structure KnOk (n : Kq.Kn) : Prop where
  ver : Rng10 n.ver
  kids : Rng10 n.kids
  next : Rng10 n.next
  owner : Rng10 n.owner
  data : n.data.size ≤ maxLen
  many : n.names.length ≤ maxLen
  long : ∀ s ∈ n.names, s.size ≤ maxLen
theorem cellsStat10 : Try.prog.cellsOf 24 = 7 := by kernel_rfl
theorem cellsNode10 : Try.prog.cellsOf 27 = 10 := by kernel_rfl
theorem cellsTexts10 : Try.prog.cellsOf 25 = 1 := by kernel_rfl
theorem cellTypes10 : Try.prog.cellTypes Try.prog.depth 27 = some [2, 2, 3, 3, 2, 3, 3, 9, 3, 25] := by kernel_rfl

set_option maxRecDepth 100000 in
theorem trod_stat10 {H : Type} {enc : TypeId × Value → H} {W : World} {fuel : Nat} {cs : List Value} {x : DataW H × List MemPlace} (h : DataW.trod enc Try.prog W 0 (fun _ => true) true fuel 24 cs = some x) :
    ∃ z0 z1 z2 z3 z4 z5 z6 : Int, cs = [.int .i64 z0, .int .i64 z1, .int .i64 z2, .int .i64 z3, .int .i64 z4, .int .i64 z5, .int .i64 z6] ∧ Rng10 z0 ∧ Rng10 z1 ∧ Rng10 z2 ∧ Rng10 z3 ∧ Rng10 z4 ∧ Rng10 z5 ∧ Rng10 z6 := by
  obtain ⟨xs, n, _, rfl, hl, hlen, hf⟩ := DataW.trod_struct Try.underlying24 h
  rw [cellsStat10] at hl
  match cs, hl with
  | [c0, c1, c2, c3, c4, c5, c6], _ =>
    match xs, hlen with
    | [y0, y1, y2, y3, y4, y5, y6], _ =>
      have f0 : DataW.trod enc Try.prog W 0 (fun _ => true) true n 2 [c0] = some y0 := by
        have h : DataW.trod enc Try.prog W 0 (fun _ => true) true n 2 ((List.drop 0 [c0, c1, c2, c3, c4, c5, c6]).take (Try.prog.cellsOf 2)) = some y0 := hf 0 _ rfl
        rw [cellsI64] at h
        exact h
      have f1 : DataW.trod enc Try.prog W 0 (fun _ => true) true n 2 [c1] = some y1 := by
        have h : DataW.trod enc Try.prog W 0 (fun _ => true) true n 2 ((List.drop 1 [c0, c1, c2, c3, c4, c5, c6]).take (Try.prog.cellsOf 2)) = some y1 := hf 1 _ rfl
        rw [cellsI64] at h
        exact h
      have f2 : DataW.trod enc Try.prog W 0 (fun _ => true) true n 3 [c2] = some y2 := by
        have h : DataW.trod enc Try.prog W 0 (fun _ => true) true n 3 ((List.drop 2 [c0, c1, c2, c3, c4, c5, c6]).take (Try.prog.cellsOf 3)) = some y2 := hf 2 _ rfl
        rw [cellsInt] at h
        exact h
      have f3 : DataW.trod enc Try.prog W 0 (fun _ => true) true n 3 [c3] = some y3 := by
        have h : DataW.trod enc Try.prog W 0 (fun _ => true) true n 3 ((List.drop 3 [c0, c1, c2, c3, c4, c5, c6]).take (Try.prog.cellsOf 3)) = some y3 := hf 3 _ rfl
        rw [cellsInt] at h
        exact h
      have f4 : DataW.trod enc Try.prog W 0 (fun _ => true) true n 2 [c4] = some y4 := by
        have h : DataW.trod enc Try.prog W 0 (fun _ => true) true n 2 ((List.drop 4 [c0, c1, c2, c3, c4, c5, c6]).take (Try.prog.cellsOf 2)) = some y4 := hf 4 _ rfl
        rw [cellsI64] at h
        exact h
      have f5 : DataW.trod enc Try.prog W 0 (fun _ => true) true n 3 [c5] = some y5 := by
        have h : DataW.trod enc Try.prog W 0 (fun _ => true) true n 3 ((List.drop 5 [c0, c1, c2, c3, c4, c5, c6]).take (Try.prog.cellsOf 3)) = some y5 := hf 5 _ rfl
        rw [cellsInt] at h
        exact h
      have f6 : DataW.trod enc Try.prog W 0 (fun _ => true) true n 3 [c6] = some y6 := by
        have h : DataW.trod enc Try.prog W 0 (fun _ => true) true n 3 ((List.drop 6 [c0, c1, c2, c3, c4, c5, c6]).take (Try.prog.cellsOf 3)) = some y6 := hf 6 _ rfl
        rw [cellsInt] at h
        exact h
      obtain ⟨z0, e0, _, w0⟩ := DataW.trod_int Try.underlying2 f0
      obtain ⟨z1, e1, _, w1⟩ := DataW.trod_int Try.underlying2 f1
      obtain ⟨z2, e2, _, w2⟩ := DataW.trod_int Try.underlying3 f2
      obtain ⟨z3, e3, _, w3⟩ := DataW.trod_int Try.underlying3 f3
      obtain ⟨z4, e4, _, w4⟩ := DataW.trod_int Try.underlying2 f4
      obtain ⟨z5, e5, _, w5⟩ := DataW.trod_int Try.underlying3 f5
      obtain ⟨z6, e6, _, w6⟩ := DataW.trod_int Try.underlying3 f6
      simp only [List.cons.injEq, and_true] at e0 e1 e2 e3 e4 e5 e6
      subst e0 e1 e2 e3 e4 e5 e6
      exact ⟨z0, z1, z2, z3, z4, z5, z6, rfl, bounds_i64 w0, bounds_i64 w1, bounds_i64 w2, bounds_i64 w3, bounds_i64 w4, bounds_i64 w5, bounds_i64 w6⟩

theorem maxLen_le : maxLen ≤ 9223372036854775807 := by unfold maxLen; omega

set_option maxRecDepth 100000 in
theorem trod_texts10 {H : Type} {enc : TypeId × Value → H} {W : World} {fuel : Nat} {c : Value} {x : DataW H × List MemPlace} (hf : DataW.trod enc Try.prog W 0 (fun _ => true) true fuel 25 [c] = some x) (hs : ∀ a len cap, c = .slice (some a) len cap → a.spot = none) :
    ∃ ss : List ByteArray, Nm W c ss ∧ ss.length ≤ maxLen ∧ ∀ s ∈ ss, s.size ≤ maxLen := by
  rcases open_strings Try.underlying25 Try.underlying9 cellsString hf with ⟨hcs, _⟩ | ⟨a, len, cap, ss, hcs, _, hl, hm, hz, _, hcell, hws⟩
  · simp only [List.cons.injEq, and_true] at hcs
    subst hcs
    exact ⟨[], Or.inl ⟨rfl, rfl⟩, Nat.zero_le _, fun _ h => by cases h⟩
  · simp only [List.cons.injEq, and_true] at hcs
    subst hcs
    have hsp := hs a len cap rfl
    obtain ⟨b, o, spot⟩ := a
    simp only [] at hsp
    subst hsp
    have hzl : ss.length = cap := by simpa using hz
    have hlen : (ss.take len).length = len := by simp; omega
    refine ⟨ss.take len, Or.inr ⟨b, o, cap, by rw [hlen], by rw [hlen]; exact hl, fun j z hz => ?_⟩, by rw [hlen]; omega, fun s hs => hws s (List.mem_of_mem_take hs)⟩
    have hj : j < len := by
      have := (List.getElem?_eq_some_iff.1 hz).1
      omega
    rw [List.getElem?_take_of_lt hj] at hz
    have h1 := hcell j (by omega)
    rw [Addr.add_lit] at h1
    rw [h1]
    simp [List.getD, hz]

set_option maxRecDepth 100000 in
theorem trod_node10 {H : Type} {enc : TypeId × Value → H} {W : World} {fuel : Nat} {cs : List Value} {x : DataW H × List MemPlace} (h : DataW.trod enc Try.prog W 0 (fun _ => true) true fuel 27 cs = some x) (hs : ∀ a len cap, cs[9]? = some (.slice (some a) len cap) → a.spot = none) : ∃ (n : Kq.Kn) (u : Value), cs = k10 n u ∧ Nm W u n.names ∧ KnOk n := by
  obtain ⟨xs, m, _, rfl, hl, hlen, hf⟩ := DataW.trod_struct Try.underlying27 h
  rw [cellsNode10] at hl
  match cs, hl with
  | [c0, c1, c2, c3, c4, c5, c6, c7, c8, c9], _ =>
    match xs, hlen with
    | [y0, y1, y2, y3], _ =>
      have f0 : DataW.trod enc Try.prog W 0 (fun _ => true) true m 24 [c0, c1, c2, c3, c4, c5, c6] = some y0 := by
        have h : DataW.trod enc Try.prog W 0 (fun _ => true) true m 24 ((List.drop 0 [c0, c1, c2, c3, c4, c5, c6, c7, c8, c9]).take (Try.prog.cellsOf 24)) = some y0 := hf 0 _ rfl
        rw [cellsStat10] at h
        exact h
      have f1 : DataW.trod enc Try.prog W 0 (fun _ => true) true m 9 [c7] = some y1 := by
        have h : DataW.trod enc Try.prog W 0 (fun _ => true) true m 9 ((List.drop 7 [c0, c1, c2, c3, c4, c5, c6, c7, c8, c9]).take (Try.prog.cellsOf 9)) = some y1 := hf 1 _ rfl
        rw [cellsString] at h
        exact h
      have f2 : DataW.trod enc Try.prog W 0 (fun _ => true) true m 3 [c8] = some y2 := by
        have h : DataW.trod enc Try.prog W 0 (fun _ => true) true m 3 ((List.drop 8 [c0, c1, c2, c3, c4, c5, c6, c7, c8, c9]).take (Try.prog.cellsOf 3)) = some y2 := hf 2 _ rfl
        rw [cellsInt] at h
        exact h
      have f3 : DataW.trod enc Try.prog W 0 (fun _ => true) true m 25 [c9] = some y3 := by
        have h : DataW.trod enc Try.prog W 0 (fun _ => true) true m 25 ((List.drop 9 [c0, c1, c2, c3, c4, c5, c6, c7, c8, c9]).take (Try.prog.cellsOf 25)) = some y3 := hf 3 _ rfl
        rw [cellsTexts10] at h
        exact h
      obtain ⟨m0, m1, m2, m3, m4, m5, m6, e0, r0, r1, r2, r3, r4, r5, r6⟩ := trod_stat10 f0
      obtain ⟨s1, e1, _, w1⟩ := DataW.trod_string Try.underlying9 f1
      obtain ⟨z2, e2, _, w2⟩ := DataW.trod_int Try.underlying3 f2
      obtain ⟨ss, hss, hsl, hst⟩ := trod_texts10 f3 (fun a len cap e => hs a len cap (by rw [e]; rfl))
      simp only [List.cons.injEq, and_true] at e0 e1 e2
      obtain ⟨rfl, rfl, rfl, rfl, rfl, rfl, rfl⟩ := e0
      subst e1 e2
      exact ⟨⟨m0, m1, m2, m3, m4, m5, m6, s1, z2, ss⟩, c9, rfl, hss, ⟨r2, r3, bounds_i64 w2, r4, w1, hsl, hst⟩⟩

set_option maxRecDepth 100000 in
theorem open_kn10 {H : Type} {enc : TypeId × Value → H} {W : World} {base : Nat} {v : Value} {d : DataW H} {p : List MemPlace} (hval : Value.okWide Try.prog W .any base 27 v) (h : DataW.Trod enc Try.prog W 0 (fun _ => true) true 27 v d p) : ∃ (n : Kq.Kn) (u : Value), v = kv n u ∧ Nm W u n.names ∧ KnOk n ∧ ∀ k, u.ownBlock = some k → k < W.heap.size := by
  have hv := hval
  simp only [Value.okWide, Try.underlying27] at hv
  obtain ⟨cs, rfl, hsz, ts, hts, _, hrow⟩ := hv
  rw [cellTypes10] at hts
  obtain rfl := (Option.some.inj hts).symm
  have h9 : ∀ a len cap, cs.toList[9]? = some (.slice (some a) len cap) → a.spot = none ∧ a.block < W.heap.size := fun a len cap e => by
    rw [Array.getElem?_toList] at e
    obtain ⟨u, hu, hok⟩ := hrow 9 _ e
    simp at hu
    subst hu
    simp only [Cell.okWide, Cell.ok, Try.underlying25] at hok
    obtain ⟨_, _, _, hsp, row, cells, hsh, _⟩ := hok
    refine ⟨hsp, ?_⟩
    unfold World.shape? at hsh
    rcases Nat.lt_or_ge a.block W.heap.size with hlt | hge
    · exact hlt
    · rw [Array.getElem?_eq_none hge] at hsh
      cases hsh
  obtain ⟨fuel, hf⟩ := h
  have hf' : DataW.trod enc Try.prog W 0 (fun _ => true) true fuel 27 cs.toList = some (d, p) := hf
  obtain ⟨n, u, ho, hnm, hok⟩ := trod_node10 hf' (fun a len cap e => (h9 a len cap e).1)
  refine ⟨n, u, ?_, hnm, hok, fun k hk => ?_⟩
  · have e : cs = (k10 n u).toArray := by rw [← ho]
    rw [e]
    rfl
  · rcases hnm with ⟨rfl, _⟩ | ⟨g, o, c, rfl, _, _⟩
    · cases hk
    · have e := (h9 ⟨g, o, none⟩ n.names.length c (by rw [ho]; rfl)).2
      simp only [Value.ownBlock, Option.some.injEq] at hk
      simp only [] at e
      omega
end Go.Proofs.Ytlgpjgncimcijaa
