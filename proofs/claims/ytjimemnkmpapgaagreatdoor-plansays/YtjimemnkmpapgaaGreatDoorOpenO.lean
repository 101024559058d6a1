/- Arguments that are Ops, lists of Ops, requests: from what came in to the walks' words. -/
import Derived.Test.YtjimemnkmpapgaaGreatDoorOpen
import Derived.Test.YtjimemnkmpapgaaGreatDoorOps
import Derived.Deep.Slices
namespace Go.Proofs.YtjimemnkmpapgaaGreatDoor
open Go.ChangeShapes Go.WideShapes Go.ChangeAt Go.RowKit

/-- Numbers of 64 bits, texts that can be. -/
structure Fit (o : O) : Prop where
  kind : -9223372036854775808 ≤ o.kind ∧ o.kind ≤ 9223372036854775807
  path : o.path.size ≤ maxLen
  data : o.data.size ≤ maxLen
  ver : -9223372036854775808 ≤ o.ver ∧ o.ver ≤ 9223372036854775807
  flags : -9223372036854775808 ≤ o.flags ∧ o.flags ≤ 9223372036854775807

theorem cellsOp : Tryz.prog.cellsOf 38 = 5 := by kernel_rfl

set_option maxRecDepth 100000 in
theorem trod_op {H : Type} {enc : TypeId × Value → H} {W : World} {base fuel : Nat} {spare : Nat → Bool} {held : Bool} {cs : List Value} {x : DataW H × List MemPlace} (h : DataW.trod enc Tryz.prog W base spare held fuel 38 cs = some x) : ∃ o, cs = oc o ∧ Fit o := by
  obtain ⟨xs, n, _, rfl, hl, hlen, hf⟩ := DataW.trod_struct Tryz.underlying38 h
  rw [cellsOp] at hl
  match cs, hl with
  | [c0, c1, c2, c3, c4], _ =>
    match xs, hlen with
    | [y0, y1, y2, y3, y4], _ =>
      have f0 : DataW.trod enc Tryz.prog W base spare held n 3 [c0] = some y0 := by
        have h : DataW.trod enc Tryz.prog W base spare held n 3 ((List.drop 0 [c0, c1, c2, c3, c4]).take (Tryz.prog.cellsOf 3)) = some y0 := hf 0 _ rfl
        rw [cellsInt] at h
        exact h
      have f1 : DataW.trod enc Tryz.prog W base spare held n 9 [c1] = some y1 := by
        have h : DataW.trod enc Tryz.prog W base spare held n 9 ((List.drop 1 [c0, c1, c2, c3, c4]).take (Tryz.prog.cellsOf 9)) = some y1 := hf 1 _ rfl
        rw [cellsString] at h
        exact h
      have f2 : DataW.trod enc Tryz.prog W base spare held n 9 [c2] = some y2 := by
        have h : DataW.trod enc Tryz.prog W base spare held n 9 ((List.drop 2 [c0, c1, c2, c3, c4]).take (Tryz.prog.cellsOf 9)) = some y2 := hf 2 _ rfl
        rw [cellsString] at h
        exact h
      have f3 : DataW.trod enc Tryz.prog W base spare held n 3 [c3] = some y3 := by
        have h : DataW.trod enc Tryz.prog W base spare held n 3 ((List.drop 3 [c0, c1, c2, c3, c4]).take (Tryz.prog.cellsOf 3)) = some y3 := hf 3 _ rfl
        rw [cellsInt] at h
        exact h
      have f4 : DataW.trod enc Tryz.prog W base spare held n 3 [c4] = some y4 := by
        have h : DataW.trod enc Tryz.prog W base spare held n 3 ((List.drop 4 [c0, c1, c2, c3, c4]).take (Tryz.prog.cellsOf 3)) = some y4 := hf 4 _ rfl
        rw [cellsInt] at h
        exact h
      obtain ⟨z0, e0, _, w0⟩ := DataW.trod_int Tryz.underlying3 f0
      obtain ⟨s1, e1, _, w1⟩ := DataW.trod_string Tryz.underlying9 f1
      obtain ⟨s2, e2, _, w2⟩ := DataW.trod_string Tryz.underlying9 f2
      obtain ⟨z3, e3, _, w3⟩ := DataW.trod_int Tryz.underlying3 f3
      obtain ⟨z4, e4, _, w4⟩ := DataW.trod_int Tryz.underlying3 f4
      simp only [List.cons.injEq, and_true] at e0 e1 e2 e3 e4
      subst e0 e1 e2 e3 e4
      exact ⟨⟨z0, s1, s2, z3, z4⟩, rfl, bounds_i64 w0, w1, w2, bounds_i64 w3, bounds_i64 w4⟩

set_option maxRecDepth 100000 in
theorem open_op {H : Type} {enc : TypeId × Value → H} {W : World} {base : Nat} {v : Value} {d : DataW H} {p : List MemPlace} (hval : Value.okWide Tryz.prog W .any base 38 v) (h : DataW.Trod enc Tryz.prog W 0 (fun _ => true) true 38 v d p) : ∃ o, v = ov o ∧ Fit o := by
  obtain ⟨⟨cs⟩, rfl, hsz⟩ := okWide_struct Tryz.underlying38 hval
  obtain ⟨fuel, hf⟩ := h
  obtain ⟨o, ho, hfit⟩ := trod_op hf
  have : cs = oc o := ho
  subst this
  exact ⟨o, rfl, hfit⟩

set_option maxRecDepth 100000 in
/-- A list of Ops, by its cell. -/
theorem trod_ops {H : Type} {enc : TypeId × Value → H} {W : World} {fuel : Nat} {a0 : Option Addr} {len cap : Nat} {x : DataW H × List MemPlace} (h : DataW.trod enc Tryz.prog W 0 (fun _ => true) true fuel 28 [.slice a0 len cap] = some x) :
    ∃ os, Ol W (.slice a0 len cap) os ∧ os.length ≤ maxLen ∧ ∀ o ∈ os, Fit o := by
  rcases Deep.open_slice Tryz.underlying28 h with ⟨hcs, _⟩ | ⟨a, len', cap', m, n, D, Q, hcs, _, hl, hm, hmm, _, hx⟩
  · simp only [List.cons.injEq, Value.slice.injEq, and_true] at hcs
    obtain ⟨rfl, rfl, rfl⟩ := hcs
    exact ⟨[], ⟨_, _, _, rfl, rfl, Nat.le_refl _, fun _ => rfl, fun j o h => by simp at h⟩, Nat.zero_le _, fun _ h => by cases h⟩
  · simp only [List.cons.injEq, Value.slice.injEq, and_true] at hcs
    obtain ⟨rfl, rfl, rfl⟩ := hcs
    simp only [if_true] at hmm
    subst hmm
    rw [cellsOp] at hx
    have hall : ∀ i, i < len → ∃ o, Fit o ∧ ∀ (k : Nat) u, (oc o)[k]? = some u → W.cell? (a.add (i * 5 + k)) = some u := fun i hi => by
      obtain ⟨cs', h1, h2⟩ := hx i (by omega)
      obtain ⟨o, rfl, hfit⟩ := trod_op h2
      refine ⟨o, hfit, fun k u hu => ?_⟩
      obtain ⟨_, hl5, hc⟩ := World.cells?_some h1
      have hk : k < 5 := by
        have := (List.getElem?_eq_some_iff.1 hu).1
        rw [hl5] at this
        exact this
      have := hc k hk
      rw [hu] at this
      rw [← this, Deep.add_add]
    have _inh : Inhabited O := ⟨⟨0, ⟨#[]⟩, ⟨#[]⟩, 0, 0⟩⟩
    obtain ⟨V, hV⟩ := Deep.choose_lt (α := O) (n := len) (p := fun i o => Fit o ∧ ∀ (k : Nat) u, (oc o)[k]? = some u → W.cell? (a.add (i * 5 + k)) = some u) hall
    have hln : ((List.range len).map V).length = len := by simp
    refine ⟨(List.range len).map V, ⟨some a, len, m, rfl, hln.symm, hl, fun e => (by cases e), fun j o ho => ?_⟩, by rw [hln]; omega, fun o ho => ?_⟩
    · have hj : j < len := by
        have := (List.getElem?_eq_some_iff.1 ho).1
        rw [hln] at this
        exact this
      rw [List.getElem?_map, List.getElem?_range hj] at ho
      have ho : V j = o := Option.some.inj ho
      subst ho
      obtain ⟨b, off, spot⟩ := a
      have hspot : spot = none := by
        have h0 := (hV 0 (by omega)).2 0 _ rfl
        have := World.cell?_spot h0
        simpa [Addr.add] using this
      subst hspot
      refine ⟨b, off, rfl, fun k u hu => ?_⟩
      have := (hV j hj).2 k u hu
      rwa [Addr.add_lit] at this
    · obtain ⟨r, hr, rfl⟩ := List.mem_map.1 ho
      exact (hV r (by simpa using hr)).1

set_option maxRecDepth 100000 in
theorem open_ops {H : Type} {enc : TypeId × Value → H} {W : World} {base : Nat} {v : Value} {d : DataW H} {p : List MemPlace} (hval : Value.okWide Tryz.prog W .any base 28 v) (h : DataW.Trod enc Tryz.prog W 0 (fun _ => true) true 28 v d p) :
    ∃ os, Ol W v os ∧ os.length ≤ maxLen ∧ ∀ o ∈ os, Fit o := by
  obtain ⟨a0, len, cap, rfl⟩ := okWide_slice Tryz.underlying28 hval
  obtain ⟨fuel, hf⟩ := h
  exact trod_ops hf

theorem cellsReq : Tryz.prog.cellsOf 30 = 3 := by kernel_rfl
theorem cellsOps : Tryz.prog.cellsOf 28 = 1 := by kernel_rfl

set_option maxRecDepth 100000 in
theorem open_req {H : Type} {enc : TypeId × Value → H} {W : World} {base : Nat} {v : Value} {d : DataW H} {p : List MemPlace} (hval : Value.okWide Tryz.prog W .any base 30 v) (h : DataW.Trod enc Tryz.prog W 0 (fun _ => true) true 30 v d p) :
    ∃ s n u os, v = .agg #[.int .i64 s, .int .i64 n, u] ∧ (-9223372036854775808 ≤ s ∧ s ≤ 9223372036854775807) ∧ (-9223372036854775808 ≤ n ∧ n ≤ 9223372036854775807) ∧ Ol W u os ∧ os.length ≤ maxLen ∧ ∀ o ∈ os, Fit o := by
  obtain ⟨⟨cs⟩, rfl, hsz⟩ := okWide_struct Tryz.underlying30 hval
  rw [cellsReq] at hsz
  match cs, hsz with
  | [c0, c1, c2], _ =>
    obtain ⟨fuel, hf⟩ := h
    obtain ⟨xs, n, _, _, _, hlen, hfs⟩ := DataW.trod_struct Tryz.underlying30 hf
    match xs, hlen with
    | [y0, y1, y2], _ =>
      have f0 : DataW.trod enc Tryz.prog W 0 (fun _ => true) true n 2 [c0] = some y0 := by
        have h : DataW.trod enc Tryz.prog W 0 (fun _ => true) true n 2 ((List.drop 0 [c0, c1, c2]).take (Tryz.prog.cellsOf 2)) = some y0 := hfs 0 _ rfl
        rw [cellsI64] at h
        exact h
      have f1 : DataW.trod enc Tryz.prog W 0 (fun _ => true) true n 2 [c1] = some y1 := by
        have h : DataW.trod enc Tryz.prog W 0 (fun _ => true) true n 2 ((List.drop 1 [c0, c1, c2]).take (Tryz.prog.cellsOf 2)) = some y1 := hfs 1 _ rfl
        rw [cellsI64] at h
        exact h
      have f2 : DataW.trod enc Tryz.prog W 0 (fun _ => true) true n 28 [c2] = some y2 := by
        have h : DataW.trod enc Tryz.prog W 0 (fun _ => true) true n 28 ((List.drop 2 [c0, c1, c2]).take (Tryz.prog.cellsOf 28)) = some y2 := hfs 2 _ rfl
        rw [cellsOps] at h
        exact h
      obtain ⟨z0, e0, _, w0⟩ := DataW.trod_int Tryz.underlying2 f0
      obtain ⟨z1, e1, _, w1⟩ := DataW.trod_int Tryz.underlying2 f1
      simp only [List.cons.injEq, and_true] at e0 e1
      subst e0 e1
      obtain ⟨a0, len, cap, rfl⟩ : ∃ a0 len cap, c2 = .slice a0 len cap := by
        rcases DataW.trod_slice Tryz.underlying28 f2 with ⟨hcs, _⟩ | ⟨a, l, c, _, _, _, _, hcs, _⟩
        · simp only [List.cons.injEq, and_true] at hcs
          exact ⟨_, _, _, hcs⟩
        · simp only [List.cons.injEq, and_true] at hcs
          exact ⟨_, _, _, hcs⟩
      obtain ⟨os, hol, hl, hfit⟩ := trod_ops f2
      exact ⟨z0, z1, _, os, rfl, bounds_i64 w0, bounds_i64 w1, hol, hl, hfit⟩
end Go.Proofs.YtjimemnkmpapgaaGreatDoor
