/- Arguments that are results, lists of results, replies: from what came in to the walks' words. -/
import Derived.Test.YtebmcjhhoionbabOpen
import Derived.Test.YtebmcjhhoionbabXs
import Derived.Test.YtebmcjhhoionbabBox6
import Derived.Deep.Slices
namespace Go.Proofs.Ytebmcjhhoionbab
open Go.ChangeShapes Go.WideShapes Go.ChangeAt Go.RowKit

theorem cellsTexts : Try.prog.cellsOf 24 = 1 := by kernel_rfl
theorem cellsStat : Try.prog.cellsOf 26 = 7 := by kernel_rfl
theorem cellsErrno : Try.prog.cellsOf 23 = 1 := by kernel_rfl
theorem cellsResult : Try.prog.cellsOf 28 = 11 := by kernel_rfl
theorem cellsResults : Try.prog.cellsOf 22 = 1 := by kernel_rfl
theorem cellsReply : Try.prog.cellsOf 34 = 5 := by kernel_rfl

set_option maxRecDepth 100000 in
/-- A list of texts, by its cell. -/
theorem trod_texts {H : Type} {enc : TypeId × Value → H} {W : World} {fuel : Nat} {c : Value} {x : DataW H × List MemPlace} (h : DataW.trod enc Try.prog W 0 (fun _ => true) true fuel 24 [c] = some x) :
    ∃ ss, Sq W c ss ∧ ss.length ≤ maxLen ∧ ∀ s ∈ ss, s.size ≤ maxLen := by
  rcases open_strings Try.underlying24 Try.underlying9 cellsString h with ⟨hcs, _⟩ | ⟨a, len', cap', ss, hcs, _, hl, hm, hz, _, hcell, hws⟩
  · simp only [List.cons.injEq, and_true] at hcs
    subst hcs
    exact ⟨[], Sq.nil W, Nat.zero_le _, fun _ h => by cases h⟩
  · simp only [List.cons.injEq, and_true] at hcs
    subst hcs
    have hzl : ss.length = cap' := by simpa using hz
    have hlen : (ss.take len').length = len' := by simp; omega
    refine ⟨ss.take len', ⟨some a, len', cap', rfl, hlen.symm, hl, fun e => (by cases e), fun j z hz2 => ?_⟩, by rw [hlen]; omega, fun s hs => hws s (List.mem_of_mem_take hs)⟩
    have hj : j < len' := by
      have := (List.getElem?_eq_some_iff.1 hz2).1
      omega
    obtain ⟨b, o, rfl, hc⟩ := strs_at hcell (by omega)
    refine ⟨b, o, rfl, ?_⟩
    rw [hc j (by omega)]
    rw [List.getElem?_take_of_lt hj] at hz2
    simp [List.getD, hz2]

set_option maxRecDepth 100000 in
theorem trod_stat {H : Type} {enc : TypeId × Value → H} {W : World} {fuel : Nat} {cs : List Value} {x : DataW H × List MemPlace} (h : DataW.trod enc Try.prog W 0 (fun _ => true) true fuel 26 cs = some x) :
    ∃ z0 z1 z2 z3 z4 z5 z6 : Int, cs = [.int .i64 z0, .int .i64 z1, .int .i64 z2, .int .i64 z3, .int .i64 z4, .int .i64 z5, .int .i64 z6] ∧ Rq.Rng z0 ∧ Rq.Rng z1 ∧ Rq.Rng z2 ∧ Rq.Rng z3 ∧ Rq.Rng z4 ∧ Rq.Rng z5 ∧ Rq.Rng z6 := by
  obtain ⟨xs, n, _, rfl, hl, hlen, hf⟩ := DataW.trod_struct Try.underlying26 h
  rw [cellsStat] at hl
  match cs, hl with
  | [c0, c1, c2, c3, c4, c5, c6], _ =>
    match xs, hlen with
    | [y0, y1, y2, y3, y4, y5, y6], _ =>
      have f0 : DataW.trod enc Try.prog W 0 (fun _ => true) true n 2 [c0] = some y0 := by
        have h : DataW.trod enc Try.prog W 0 (fun _ => true) true n 2 ((List.drop 0 [c0, c1, c2, c3, c4, c5, c6]).take (Try.prog.cellsOf 2)) = some y0 := hf 0 _ rfl
        rw [cellsI64] at h
        exact h
      have f1 : DataW.trod enc Try.prog W 0 (fun _ => true) true n 2 [c1] = some y1 := by
        have h : DataW.trod enc Try.prog W 0 (fun _ => true) true n 2 ((List.drop 1 [c0, c1, c2, c3, c4, c5, c6]).take (Try.prog.cellsOf 2)) = some y1 := hf 1 _ rfl
        rw [cellsI64] at h
        exact h
      have f2 : DataW.trod enc Try.prog W 0 (fun _ => true) true n 3 [c2] = some y2 := by
        have h : DataW.trod enc Try.prog W 0 (fun _ => true) true n 3 ((List.drop 2 [c0, c1, c2, c3, c4, c5, c6]).take (Try.prog.cellsOf 3)) = some y2 := hf 2 _ rfl
        rw [cellsInt] at h
        exact h
      have f3 : DataW.trod enc Try.prog W 0 (fun _ => true) true n 3 [c3] = some y3 := by
        have h : DataW.trod enc Try.prog W 0 (fun _ => true) true n 3 ((List.drop 3 [c0, c1, c2, c3, c4, c5, c6]).take (Try.prog.cellsOf 3)) = some y3 := hf 3 _ rfl
        rw [cellsInt] at h
        exact h
      have f4 : DataW.trod enc Try.prog W 0 (fun _ => true) true n 2 [c4] = some y4 := by
        have h : DataW.trod enc Try.prog W 0 (fun _ => true) true n 2 ((List.drop 4 [c0, c1, c2, c3, c4, c5, c6]).take (Try.prog.cellsOf 2)) = some y4 := hf 4 _ rfl
        rw [cellsI64] at h
        exact h
      have f5 : DataW.trod enc Try.prog W 0 (fun _ => true) true n 3 [c5] = some y5 := by
        have h : DataW.trod enc Try.prog W 0 (fun _ => true) true n 3 ((List.drop 5 [c0, c1, c2, c3, c4, c5, c6]).take (Try.prog.cellsOf 3)) = some y5 := hf 5 _ rfl
        rw [cellsInt] at h
        exact h
      have f6 : DataW.trod enc Try.prog W 0 (fun _ => true) true n 3 [c6] = some y6 := by
        have h : DataW.trod enc Try.prog W 0 (fun _ => true) true n 3 ((List.drop 6 [c0, c1, c2, c3, c4, c5, c6]).take (Try.prog.cellsOf 3)) = some y6 := hf 6 _ rfl
        rw [cellsInt] at h
        exact h
      obtain ⟨z0, e0, _, w0⟩ := DataW.trod_int Try.underlying2 f0
      obtain ⟨z1, e1, _, w1⟩ := DataW.trod_int Try.underlying2 f1
      obtain ⟨z2, e2, _, w2⟩ := DataW.trod_int Try.underlying3 f2
      obtain ⟨z3, e3, _, w3⟩ := DataW.trod_int Try.underlying3 f3
      obtain ⟨z4, e4, _, w4⟩ := DataW.trod_int Try.underlying2 f4
      obtain ⟨z5, e5, _, w5⟩ := DataW.trod_int Try.underlying3 f5
      obtain ⟨z6, e6, _, w6⟩ := DataW.trod_int Try.underlying3 f6
      simp only [List.cons.injEq, and_true] at e0 e1 e2 e3 e4 e5 e6
      subst e0 e1 e2 e3 e4 e5 e6
      exact ⟨z0, z1, z2, z3, z4, z5, z6, rfl, bounds_i64 w0, bounds_i64 w1, bounds_i64 w2, bounds_i64 w3, bounds_i64 w4, bounds_i64 w5, bounds_i64 w6⟩

theorem maxLen_le : maxLen ≤ 9223372036854775807 := by unfold maxLen; omega

set_option maxRecDepth 100000 in
theorem trod_result {H : Type} {enc : TypeId × Value → H} {W : World} {fuel : Nat} {cs : List Value} {x : DataW H × List MemPlace} (h : DataW.trod enc Try.prog W 0 (fun _ => true) true fuel 28 cs = some x) : ∃ (X : X) (nv : Value), cs = xc X nv ∧ Rq.Fit X ∧ Sq W nv X.names := by
  obtain ⟨xs, n, _, rfl, hl, hlen, hf⟩ := DataW.trod_struct Try.underlying28 h
  rw [cellsResult] at hl
  match cs, hl with
  | [c0, c1, c2, c3, c4, c5, c6, c7, c8, c9, c10], _ =>
    match xs, hlen with
    | [y0, y1, y2, y3, y4], _ =>
      have f0 : DataW.trod enc Try.prog W 0 (fun _ => true) true n 23 [c0] = some y0 := by
        have h : DataW.trod enc Try.prog W 0 (fun _ => true) true n 23 ((List.drop 0 [c0, c1, c2, c3, c4, c5, c6, c7, c8, c9, c10]).take (Try.prog.cellsOf 23)) = some y0 := hf 0 _ rfl
        rw [cellsErrno] at h
        exact h
      have f1 : DataW.trod enc Try.prog W 0 (fun _ => true) true n 9 [c1] = some y1 := by
        have h : DataW.trod enc Try.prog W 0 (fun _ => true) true n 9 ((List.drop 1 [c0, c1, c2, c3, c4, c5, c6, c7, c8, c9, c10]).take (Try.prog.cellsOf 9)) = some y1 := hf 1 _ rfl
        rw [cellsString] at h
        exact h
      have f2 : DataW.trod enc Try.prog W 0 (fun _ => true) true n 9 [c2] = some y2 := by
        have h : DataW.trod enc Try.prog W 0 (fun _ => true) true n 9 ((List.drop 2 [c0, c1, c2, c3, c4, c5, c6, c7, c8, c9, c10]).take (Try.prog.cellsOf 9)) = some y2 := hf 2 _ rfl
        rw [cellsString] at h
        exact h
      have f3 : DataW.trod enc Try.prog W 0 (fun _ => true) true n 24 [c3] = some y3 := by
        have h : DataW.trod enc Try.prog W 0 (fun _ => true) true n 24 ((List.drop 3 [c0, c1, c2, c3, c4, c5, c6, c7, c8, c9, c10]).take (Try.prog.cellsOf 24)) = some y3 := hf 3 _ rfl
        rw [cellsTexts] at h
        exact h
      have f4 : DataW.trod enc Try.prog W 0 (fun _ => true) true n 26 [c4, c5, c6, c7, c8, c9, c10] = some y4 := by
        have h : DataW.trod enc Try.prog W 0 (fun _ => true) true n 26 ((List.drop 4 [c0, c1, c2, c3, c4, c5, c6, c7, c8, c9, c10]).take (Try.prog.cellsOf 26)) = some y4 := hf 4 _ rfl
        rw [cellsStat] at h
        exact h
      obtain ⟨z0, e0, _, w0⟩ := DataW.trod_int Try.underlying23 f0
      obtain ⟨s1, e1, _, w1⟩ := DataW.trod_string Try.underlying9 f1
      obtain ⟨s2, e2, _, w2⟩ := DataW.trod_string Try.underlying9 f2
      obtain ⟨ss, hss, hsl, hst⟩ := trod_texts f3
      obtain ⟨m0, m1, m2, m3, m4, m5, m6, e4, r0, r1, r2, r3, r4, r5, r6⟩ := trod_stat f4
      simp only [List.cons.injEq, and_true] at e0 e1 e2 e4
      obtain ⟨rfl, rfl, rfl, rfl, rfl, rfl, rfl⟩ := e4
      subst e0 e1 e2
      have hM := maxLen_le
      exact ⟨⟨z0, s1, s2, ss, m0, m1, m2, m3, m4, m5, m6⟩, c3, rfl, ⟨bounds_i64 w0, r0, r1, r2, r3, r4, r5, r6, Nat.le_trans w1 hM, Nat.le_trans w2 hM, Nat.le_trans hsl hM, fun t ht => Nat.le_trans (hst t ht) hM⟩, hss⟩

/-- A result as a value. -/
def xv (x : X) (nv : Value) : Value := .agg (xc x nv).toArray

set_option maxRecDepth 100000 in
theorem open_x {H : Type} {enc : TypeId × Value → H} {W : World} {base : Nat} {v : Value} {d : DataW H} {p : List MemPlace} (hval : Value.okWide Try.prog W .any base 28 v) (h : DataW.Trod enc Try.prog W 0 (fun _ => true) true 28 v d p) : ∃ (X : X) (nv : Value), v = xv X nv ∧ Rq.Fit X ∧ Sq W nv X.names := by
  obtain ⟨⟨cs⟩, rfl, hsz⟩ := okWide_struct Try.underlying28 hval
  obtain ⟨fuel, hf⟩ := h
  obtain ⟨X, nv, ho, hfit⟩ := trod_result hf
  have : cs = xc X nv := ho
  subst this
  exact ⟨X, nv, rfl, hfit⟩

set_option maxRecDepth 100000 in
/-- A list of results, by its cell. -/
theorem trod_results {H : Type} {enc : TypeId × Value → H} {W : World} {fuel : Nat} {c : Value} {x : DataW H × List MemPlace} (h : DataW.trod enc Try.prog W 0 (fun _ => true) true fuel 22 [c] = some x) :
    ∃ xs, Rl W c xs ∧ xs.length ≤ maxLen ∧ ∀ x ∈ xs, Rq.Fit x := by
  rcases Deep.open_slice Try.underlying22 h with ⟨hcs, _⟩ | ⟨a, len, cap, m, n, D, Q, hcs, _, hl, hm, hmm, _, hx⟩
  · simp only [List.cons.injEq, and_true] at hcs
    subst hcs
    exact ⟨[], Rl.nil W, Nat.zero_le _, fun _ h => by cases h⟩
  · simp only [List.cons.injEq, and_true] at hcs
    subst hcs
    simp only [if_true] at hmm
    subst hmm
    rw [cellsResult] at hx
    have hall : ∀ i, i < len → ∃ o : X × Value, Rq.Fit o.1 ∧ Sq W o.2 o.1.names ∧ ∀ (k : Nat) u, (xc o.1 o.2)[k]? = some u → W.cell? (a.add (i * 11 + k)) = some u := fun i hi => by
      obtain ⟨cs', h1, h2⟩ := hx i (by omega)
      obtain ⟨o, nv, rfl, hfit, hnv⟩ := trod_result h2
      refine ⟨(o, nv), hfit, hnv, fun k u hu => ?_⟩
      obtain ⟨_, hl5, hc⟩ := World.cells?_some h1
      have hk : k < 11 := by
        have := (List.getElem?_eq_some_iff.1 hu).1
        rw [hl5] at this
        exact this
      have := hc k hk
      rw [hu] at this
      rw [← this, Deep.add_add]
    have _inh : Inhabited (X × Value) := ⟨⟨⟨0, ⟨#[]⟩, ⟨#[]⟩, [], 0, 0, 0, 0, 0, 0, 0⟩, .slice none 0 0⟩⟩
    obtain ⟨V, hV⟩ := Deep.choose_lt (α := X × Value) (n := len) (p := fun i o => Rq.Fit o.1 ∧ Sq W o.2 o.1.names ∧ ∀ (k : Nat) u, (xc o.1 o.2)[k]? = some u → W.cell? (a.add (i * 11 + k)) = some u) hall
    have hln : ((List.range len).map fun i => (V i).1).length = len := by simp
    refine ⟨(List.range len).map fun i => (V i).1, ⟨some a, len, m, rfl, hln.symm, hl, fun e => (by cases e), fun j o ho => ?_⟩, by rw [hln]; omega, fun o ho => ?_⟩
    · have hj : j < len := by
        have := (List.getElem?_eq_some_iff.1 ho).1
        rw [hln] at this
        exact this
      rw [List.getElem?_map, List.getElem?_range hj] at ho
      have ho : (V j).1 = o := Option.some.inj ho
      subst ho
      obtain ⟨b, off, spot⟩ := a
      have hspot : spot = none := by
        have h0 := (hV 0 (by omega)).2.2 0 _ rfl
        have := World.cell?_spot h0
        simpa [Addr.add] using this
      subst hspot
      refine ⟨b, off, (V j).2, rfl, (hV j hj).2.1, fun k u hu => ?_⟩
      have := (hV j hj).2.2 k u hu
      rwa [Addr.add_lit] at this
    · obtain ⟨r, hr, rfl⟩ := List.mem_map.1 ho
      exact (hV r (by simpa using hr)).1

set_option maxRecDepth 100000 in
theorem open_xs {H : Type} {enc : TypeId × Value → H} {W : World} {base : Nat} {v : Value} {d : DataW H} {p : List MemPlace} (hval : Value.okWide Try.prog W .any base 22 v) (h : DataW.Trod enc Try.prog W 0 (fun _ => true) true 22 v d p) :
    ∃ xs, Rl W v xs ∧ xs.length ≤ maxLen ∧ ∀ x ∈ xs, Rq.Fit x := by
  obtain ⟨a0, len, cap, rfl⟩ := okWide_slice Try.underlying22 hval
  obtain ⟨fuel, hf⟩ := h
  exact trod_results hf

set_option maxRecDepth 100000 in
theorem open_rp {H : Type} {enc : TypeId × Value → H} {W : World} {base : Nat} {v : Value} {d : DataW H} {p : List MemPlace} (hval : Value.okWide Try.prog W .any base 34 v) (h : DataW.Trod enc Try.prog W 0 (fun _ => true) true 34 v d p) :
    ∃ (r : Rp) (u : Value), v = rv r u ∧ Rl W u r.xs ∧ r.xs.length ≤ maxLen ∧ Rq.FitR r := by
  obtain ⟨⟨cs⟩, rfl, hsz⟩ := okWide_struct Try.underlying34 hval
  rw [cellsReply] at hsz
  match cs, hsz with
  | [c0, c1, c2, c3, c4], _ =>
    obtain ⟨fuel, hf⟩ := h
    obtain ⟨xs, n, _, _, _, hlen, hfs⟩ := DataW.trod_struct Try.underlying34 hf
    match xs, hlen with
    | [y0, y1, y2, y3, y4], _ =>
      have f0 : DataW.trod enc Try.prog W 0 (fun _ => true) true n 2 [c0] = some y0 := by
        have h : DataW.trod enc Try.prog W 0 (fun _ => true) true n 2 ((List.drop 0 [c0, c1, c2, c3, c4]).take (Try.prog.cellsOf 2)) = some y0 := hfs 0 _ rfl
        rw [cellsI64] at h
        exact h
      have f1 : DataW.trod enc Try.prog W 0 (fun _ => true) true n 2 [c1] = some y1 := by
        have h : DataW.trod enc Try.prog W 0 (fun _ => true) true n 2 ((List.drop 1 [c0, c1, c2, c3, c4]).take (Try.prog.cellsOf 2)) = some y1 := hfs 1 _ rfl
        rw [cellsI64] at h
        exact h
      have f2 : DataW.trod enc Try.prog W 0 (fun _ => true) true n 23 [c2] = some y2 := by
        have h : DataW.trod enc Try.prog W 0 (fun _ => true) true n 23 ((List.drop 2 [c0, c1, c2, c3, c4]).take (Try.prog.cellsOf 23)) = some y2 := hfs 2 _ rfl
        rw [cellsErrno] at h
        exact h
      have f3 : DataW.trod enc Try.prog W 0 (fun _ => true) true n 3 [c3] = some y3 := by
        have h : DataW.trod enc Try.prog W 0 (fun _ => true) true n 3 ((List.drop 3 [c0, c1, c2, c3, c4]).take (Try.prog.cellsOf 3)) = some y3 := hfs 3 _ rfl
        rw [cellsInt] at h
        exact h
      have f4 : DataW.trod enc Try.prog W 0 (fun _ => true) true n 22 [c4] = some y4 := by
        have h : DataW.trod enc Try.prog W 0 (fun _ => true) true n 22 ((List.drop 4 [c0, c1, c2, c3, c4]).take (Try.prog.cellsOf 22)) = some y4 := hfs 4 _ rfl
        rw [cellsResults] at h
        exact h
      obtain ⟨z0, e0, _, w0⟩ := DataW.trod_int Try.underlying2 f0
      obtain ⟨z1, e1, _, w1⟩ := DataW.trod_int Try.underlying2 f1
      obtain ⟨z2, e2, _, w2⟩ := DataW.trod_int Try.underlying23 f2
      obtain ⟨z3, e3, _, w3⟩ := DataW.trod_int Try.underlying3 f3
      simp only [List.cons.injEq, and_true] at e0 e1 e2 e3
      subst e0 e1 e2 e3
      obtain ⟨os, hol, hl, hfit⟩ := trod_results f4
      exact ⟨⟨z0, z1, z2, z3, os⟩, c4, rfl, hol, hl, ⟨bounds_i64 w0, bounds_i64 w1, bounds_i64 w2, bounds_i64 w3, Nat.le_trans hl maxLen_le, hfit⟩⟩
end Go.Proofs.Ytebmcjhhoionbab
