/- Calls that stage 17's statements make, as they are handed in. -/
import Derived.Test.YtadgjinlblloiaaDoorSpecs17
namespace Go.Proofs.YtadgjinlblloiaaDoor.Lk
/-- A call that is asked for. -/
structure Ac where
  op : Int
  who : Int
  ps : List ByteArray
end Go.Proofs.YtadgjinlblloiaaDoor.Lk
namespace Go.Proofs.YtadgjinlblloiaaDoor
open Go.RowKit
/-- Texts as they are handed in: where they lie, and what a list without any looks like. -/
def Tx17 (W : World) (v : Value) (ps : List ByteArray) : Prop := Ss W v ps ∧ (v = .slice none 0 0 ∨ ∃ a c, v = .slice (some a) ps.length c)
/-- The three cells of a call that is asked for. -/
def aac17 (x : Lk.Ac) (u : Value) : List Value := [.int .i64 x.op, .int .i64 x.who, u]
structure AcOk17 (x : Lk.Ac) : Prop where
  who : I64 x.who
  len : x.ps.length ≤ maxLen
  ps : ∀ p ∈ x.ps, p.size ≤ maxLen
/-- Calls in a row. -/
def Acl17 (W : World) (v : Value) (xs : List Lk.Ac) : Prop := ∃ av k c, v = .slice av k c ∧ k = xs.length ∧ ∀ (j : Nat) x, xs[j]? = some x → ∃ g o nv, av = some ⟨g, o, none⟩ ∧ Tx17 W nv x.ps ∧ ∀ (i : Nat) u, (aac17 x nv)[i]? = some u → W.cell? ⟨g, o + j * 3 + i, none⟩ = some u
theorem Acl17.nil (w : World) : Acl17 w (.slice none 0 0) [] := ⟨_, _, _, rfl, rfl, fun j s hs => by simp at hs⟩
theorem Acl17.below {w w' : World} {v : Value} {xs : List Lk.Ac} (h : Acl17 w v xs) (hb : Below w.heap.size w w') : Acl17 w' v xs := by
  obtain ⟨av, k, c, hv, hk, hc⟩ := h
  refine ⟨av, k, c, hv, hk, fun j z hz => ?_⟩
  obtain ⟨g, o, nv, ha, hs, hcell⟩ := hc j z hz
  exact ⟨g, o, nv, ha, ⟨hs.1.below hb, hs.2⟩, fun i u hu => Below.kept hb (hcell i u hu)⟩
/-- What lies there lies in a block that is there. -/
theorem Ss.lt17 {W : World} {v : Value} {ps : List ByteArray} (h : Ss W v ps) : ∀ k, v.ownBlock = some k → ps ≠ [] → k < W.heap.size := by
  obtain ⟨b, L, cc, rfl, hL, hsc⟩ := h
  intro k hk hne
  have h0 : 0 < ps.length := by
    cases ps with
    | nil => exact absurd rfl hne
    | cons _ _ => simp
  obtain ⟨g2, o2, e, hcl⟩ := hsc 0 (ps[0]'h0) (List.getElem?_eq_getElem _)
  rw [e] at hk
  simp only [Value.ownBlock, Option.some.injEq] at hk
  rw [← hk]
  exact World.block_lt_of_cell? W _ hcl
theorem Ss.at17 {W : World} {a : Option Addr} {n c : Nat} {ps : List ByteArray} (h : Ss W (.slice a n c) ps) {j : Nat} {x : ByteArray} (hx : ps[j]? = some x) : ∃ g o, a = some ⟨g, o, none⟩ ∧ ∀ w, Below W.heap.size W w → w.cell? ⟨g, o + j, none⟩ = some (.string x) := by
  obtain ⟨av, k, c', hv, hk, hc⟩ := h
  simp only [Value.slice.injEq] at hv
  obtain ⟨rfl, rfl, rfl⟩ := hv
  obtain ⟨g, o, ha, hcell⟩ := hc j x hx
  exact ⟨g, o, ha, fun w hb => Below.kept hb hcell⟩
/-- One of them: its cells, in every later world. -/
theorem Acl17.at {W : World} {a : Option Addr} {n c : Nat} {xs : List Lk.Ac} (h : Acl17 W (.slice a n c) xs) {j : Nat} {x : Lk.Ac} (hx : xs[j]? = some x) : ∃ g o b L cc, a = some ⟨g, o, none⟩ ∧ L = x.ps.length ∧ Tx17 W (.slice b L cc) x.ps ∧ ∀ w, Below W.heap.size W w → w.cell? ⟨g, o + j * 3, none⟩ = some (.int .i64 x.op) ∧ w.cell? ⟨g, o + j * 3 + 1, none⟩ = some (.int .i64 x.who) ∧ w.cell? ⟨g, o + j * 3 + 2, none⟩ = some (.slice b L cc) := by
  obtain ⟨av, k, c', hv, hk, hc⟩ := h
  simp only [Value.slice.injEq] at hv
  obtain ⟨rfl, rfl, rfl⟩ := hv
  obtain ⟨g, o, nv, ha, hs, hcell⟩ := hc j x hx
  have hs2 := hs.1
  obtain ⟨b, L, cc, rfl, hL, hsc⟩ := hs2
  exact ⟨g, o, b, L, cc, ha, hL, hs, fun w hb => ⟨Below.kept hb (hcell 0 _ rfl), Below.kept hb (hcell 1 _ rfl), Below.kept hb (hcell 2 _ rfl)⟩⟩
end Go.Proofs.YtadgjinlblloiaaDoor
