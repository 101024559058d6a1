/- Truths, wherever they lie. Arguments that are lists of truths or of votes: from what came in to the walks' words. -/
import Derived.Test.YtjimemnkmpapgaaGreatDoorBase
import Derived.Test.YtjimemnkmpapgaaGreatDoorOpen
import Derived.Test.YtjimemnkmpapgaaGreatDoorPn19
import Derived.Deep.Slices
import Derived.Deep.Grids
namespace Go.Proofs.YtjimemnkmpapgaaGreatDoor
open Go.RowKit
def Bb (w : World) (u : Value) (ts : List Bool) : Prop := ∃ av k c, u = .slice av k c ∧ k = ts.length ∧ ∀ (j : Nat) t, ts[j]? = some t → ∃ g o, av = some ⟨g, o, none⟩ ∧ w.cell? ⟨g, o + j, none⟩ = some (.bool t)
theorem Bb.below {w w' : World} {v : Value} {ts : List Bool} (h : Bb w v ts) (hb : Below w.heap.size w w') : Bb w' v ts := by
  obtain ⟨av, k, c, hv, hk, hc⟩ := h
  refine ⟨av, k, c, hv, hk, fun j z hz => ?_⟩
  obtain ⟨g, o, ha, hcell⟩ := hc j z hz
  exact ⟨g, o, ha, Below.kept hb hcell⟩
theorem Bi.at {w : World} {av : Option Addr} {k c j : Nat} {zs : List Int} {z : Int} (h : Bi w (.slice av k c) zs) (hz : zs[j]? = some z) : ∃ g o, av = some ⟨g, o, none⟩ ∧ w.cell? ⟨g, o + j, none⟩ = some (.int .i64 z) := by
  obtain ⟨av', k', c', e, _, hc⟩ := h
  simp only [Value.slice.injEq] at e
  obtain ⟨rfl, _, _⟩ := e
  exact hc j z hz
theorem Bb.at {w : World} {av : Option Addr} {k c j : Nat} {ts : List Bool} {t : Bool} (h : Bb w (.slice av k c) ts) (hz : ts[j]? = some t) : ∃ g o, av = some ⟨g, o, none⟩ ∧ w.cell? ⟨g, o + j, none⟩ = some (.bool t) := by
  obtain ⟨av', k', c', e, _, hc⟩ := h
  simp only [Value.slice.injEq] at e
  obtain ⟨rfl, _, _⟩ := e
  exact hc j t hz
end Go.Proofs.YtjimemnkmpapgaaGreatDoor
namespace Go.Proofs.YtjimemnkmpapgaaGreatDoor
open Go.ChangeShapes Go.WideShapes Go.ChangeAt Go.RowKit

theorem cellsBool : Tryz.prog.cellsOf 4 = 1 := by kernel_rfl
set_option maxRecDepth 100000 in
theorem open_bb {H : Type} {enc : TypeId × Value → H} {W : World} {base : Nat} {v : Value} {d : DataW H} {p : List MemPlace} (hval : Value.okWide Tryz.prog W .any base 74 v) (h : DataW.Trod enc Tryz.prog W 0 (fun _ => true) true 74 v d p) :
    ∃ ts : List Bool, Bb W v ts ∧ ts.length ≤ maxLen := by
  obtain ⟨a0, len, cap, rfl⟩ := okWide_slice Tryz.underlying74 hval
  obtain ⟨fuel, hf⟩ := h
  rcases Go.Deep.open_bools Tryz.underlying74 Tryz.underlying4 cellsBool hf with ⟨hcs, _⟩ | ⟨a, len', cap', B, hcs, _, hl, hm, _, hcell⟩
  · simp only [Value.cells, List.cons.injEq, Value.slice.injEq, and_true] at hcs
    obtain ⟨rfl, rfl, rfl⟩ := hcs
    exact ⟨[], ⟨_, _, _, rfl, rfl, fun j z h => by simp at h⟩, Nat.zero_le _⟩
  · simp only [Value.cells, List.cons.injEq, Value.slice.injEq, and_true] at hcs
    obtain ⟨rfl, rfl, rfl⟩ := hcs
    have hlen : ((List.range len).map B).length = len := by simp
    refine ⟨(List.range len).map B, ⟨some a, len, cap, rfl, hlen.symm, fun j t ht => ?_⟩, by rw [hlen]; omega⟩
    have hj : j < len := by
      have := (List.getElem?_eq_some_iff.1 ht).1
      rw [hlen] at this
      exact this
    have ht2 : B j = t := by simpa [List.getElem?_map, List.getElem?_range hj] using ht
    have hc := hcell j (by omega)
    obtain ⟨b, off, spot⟩ := a
    have hspot : spot = none := by simpa [Addr.add] using World.cell?_spot (hcell 0 (by omega))
    subst hspot
    refine ⟨b, off, rfl, ?_⟩
    rw [← ht2, ← Go.WideShapes.add_plain]
    exact hc
theorem cellsVo19 : Tryz.prog.cellsOf 42 = 2 := by kernel_rfl
def VoOk19 (_ : Pn.V) : Prop := True
set_option maxRecDepth 100000 in
theorem trod_vo19 {H : Type} {enc : TypeId × Value → H} {W : World} {fuel : Nat} {cs : List Value} {x : DataW H × List MemPlace} (h : DataW.trod enc Tryz.prog W 0 (fun _ => true) true fuel 42 cs = some x) : ∃ X : Pn.V, cs = vc X ∧ VoOk19 X := by
  obtain ⟨xs, n, _, rfl, hl, hlen, hf⟩ := DataW.trod_struct Tryz.underlying42 h
  rw [cellsVo19] at hl
  match cs, hl with
  | [c0, c1], _ =>
    match xs, hlen with
    | [y0, y1], _ =>
      have f0 : DataW.trod enc Tryz.prog W 0 (fun _ => true) true n 34 [c0] = some y0 := by
        have h : DataW.trod enc Tryz.prog W 0 (fun _ => true) true n 34 ((List.drop 0 [c0, c1]).take (Tryz.prog.cellsOf 34)) = some y0 := hf 0 _ rfl
        rw [show Tryz.prog.cellsOf 34 = 1 from by kernel_rfl] at h
        exact h
      have f1 : DataW.trod enc Tryz.prog W 0 (fun _ => true) true n 3 [c1] = some y1 := by
        have h : DataW.trod enc Tryz.prog W 0 (fun _ => true) true n 3 ((List.drop 1 [c0, c1]).take (Tryz.prog.cellsOf 3)) = some y1 := hf 1 _ rfl
        rw [cellsInt] at h
        exact h
      obtain ⟨s0, e0, _, w0⟩ := DataW.trod_int Tryz.underlying34 f0
      obtain ⟨z1, e1, _, w1⟩ := DataW.trod_int Tryz.underlying3 f1
      simp only [List.cons.injEq, and_true] at e0 e1
      subst e0 e1
      exact ⟨⟨s0, z1⟩, rfl, trivial⟩

set_option maxRecDepth 100000 in
/-- A list of acts, by its cell. -/
theorem trod_vos19 {H : Type} {enc : TypeId × Value → H} {W : World} {fuel : Nat} {c : Value} {x : DataW H × List MemPlace} (h : DataW.trod enc Tryz.prog W 0 (fun _ => true) true fuel 53 [c] = some x) :
    ∃ xs, KV.At W c xs ∧ xs.length ≤ maxLen ∧ ∃ a n m, c = .slice a n m ∧ n ≤ m := by
  rcases Deep.open_slice Tryz.underlying53 h with ⟨hcs, _⟩ | ⟨a, len, cap, m, n, D, Q, hcs, _, hl, hm, hmm, _, hx⟩
  · simp only [List.cons.injEq, and_true] at hcs
    subst hcs
    exact ⟨[], Kd.At.nil W, Nat.zero_le _, none, 0, 0, rfl, Nat.le_refl _⟩
  · simp only [List.cons.injEq, and_true] at hcs
    subst hcs
    simp only [if_true] at hmm
    subst hmm
    rw [cellsVo19] at hx
    have hall : ∀ i, i < len → ∃ o : Pn.V, VoOk19 o ∧ ∀ (k : Nat) u, (vc o)[k]? = some u → W.cell? (a.add (i * 2 + k)) = some u := fun i hi => by
      obtain ⟨cs', h1, h2⟩ := hx i (by omega)
      obtain ⟨o, rfl, hfit⟩ := trod_vo19 h2
      refine ⟨o, hfit, fun k u hu => ?_⟩
      obtain ⟨_, hl3, hc⟩ := World.cells?_some h1
      have hk : k < 2 := by
        have := (List.getElem?_eq_some_iff.1 hu).1
        rw [hl3] at this
        exact this
      have := hc k hk
      rw [hu] at this
      rw [← this, Deep.add_add]
    have _inh : Inhabited Pn.V := ⟨⟨0, 0⟩⟩
    obtain ⟨V, hV⟩ := Deep.choose_lt (α := Pn.V) (n := len) (p := fun i o => VoOk19 o ∧ ∀ (k : Nat) u, (vc o)[k]? = some u → W.cell? (a.add (i * 2 + k)) = some u) hall
    have hln : ((List.range len).map V).length = len := by simp
    refine ⟨(List.range len).map V, ⟨some a, len, m, rfl, hln.symm, fun e => (by cases e), fun j o ho => ?_⟩, by rw [hln]; omega, some a, len, m, rfl, by omega⟩
    · have hj : j < len := by
        have := (List.getElem?_eq_some_iff.1 ho).1
        rw [hln] at this
        exact this
      rw [List.getElem?_map, List.getElem?_range hj] at ho
      have ho : V j = o := Option.some.inj ho
      subst ho
      obtain ⟨b, off, spot⟩ := a
      have hspot : spot = none := by
        have h0 := (hV 0 (by omega)).2 0 _ rfl
        have := World.cell?_spot h0
        simpa [Addr.add] using this
      subst hspot
      refine ⟨b, off, rfl, fun k u hu => ?_⟩
      have := (hV j hj).2 k u hu
      rw [Addr.add_lit] at this
      exact this

set_option maxRecDepth 100000 in
theorem open_vo19 {H : Type} {enc : TypeId × Value → H} {W : World} {base : Nat} {v : Value} {d : DataW H} {p : List MemPlace} (hval : Value.okWide Tryz.prog W .any base 53 v) (h : DataW.Trod enc Tryz.prog W 0 (fun _ => true) true 53 v d p) :
    ∃ xs, KV.At W v xs ∧ xs.length ≤ maxLen ∧ ∃ a n m, v = .slice a n m ∧ n ≤ m := by
  obtain ⟨a0, len, cap, rfl⟩ := okWide_slice Tryz.underlying53 hval
  obtain ⟨fuel, hf⟩ := h
  exact trod_vos19 hf
end Go.Proofs.YtjimemnkmpapgaaGreatDoor
