/- The walk of the statement OpTops, over what op's calls answer: it answers true. -/
import Derived.Test.YtjimemnkmpapgaaGreatDoorSpecs5
import Derived.Test.YtjimemnkmpapgaaGreatDoorPlainT
namespace Go.Proofs.YtjimemnkmpapgaaGreatDoor
open Go.RowKit

/-- Tops: the first names, rising, each once. -/
def TopsPost (os : List O) (w : World) (e : Ending) (w' : World) : Prop :=
  ∃ v ts, e = .returned v ∧ Ss w' v ts ∧ Ts.Tops os (ts.map (·.data.toList)) ∧ Below w.heap.size w w'
def TopsSpec : Prop := ∀ (u : Value) (os : List O) (w : World), Pa.Std w → Ol w u os → os.length ≤ 1000 → (∀ o ∈ os, Fit o) → Calls Tryz.prog 27 #[u] w (TopsPost os w)

/-- Texts that are there lie at a plain address. -/
theorem Ss.at {w : World} {v : Value} {ss : List ByteArray} (h : Ss w v ss) (h0 : 0 < ss.length) : ∃ g o c, v = .slice (some ⟨g, o, none⟩) ss.length c ∧ ∀ (j : Nat) s, ss[j]? = some s → w.cell? ⟨g, o + j, none⟩ = some (.string s) := by
  obtain ⟨av, k, c, rfl, hk, hc⟩ := h
  obtain ⟨g, o, rfl, _⟩ := hc 0 ss[0] (List.getElem?_eq_getElem h0)
  refine ⟨g, o, c, by rw [hk], fun j s hs => ?_⟩
  obtain ⟨g', o', e, h1⟩ := hc j s hs
  simp only [Option.some.injEq, Addr.mk.injEq, and_true] at e
  obtain ⟨rfl, rfl⟩ := e
  exact h1

theorem great_small {os : List O} (h : greatB os = false) : os.length ≤ 20 := by
  unfold greatB at h
  simp only [Bool.or_eq_false_iff, decide_eq_false_iff_not] at h
  omega

theorem rises_at {l : List (List UInt8)} (h : Ts.Rises l) {i j : Nat} {x y : List UInt8} (hij : i < j) (hx : l[i]? = some x) (hy : l[j]? = some y) : Op.bytesLess x y = true := by
  obtain ⟨hi, rfl⟩ := List.getElem?_eq_some_iff.1 hx
  obtain ⟨hj, rfl⟩ := List.getElem?_eq_some_iff.1 hy
  exact List.pairwise_iff_getElem.1 h i j hi hj hij

theorem not_leq {x y : List UInt8} (h : Op.bytesLess y x = true) : (Op.bytesLess x y || x == y) = false := by
  cases h1 : Op.bytesLess x y with
  | true =>
    have := Ts.less_trans h h1
    rw [Ts.less_irrefl] at this
    cases this
  | false =>
    rw [Bool.false_or]
    apply beq_eq_false_iff_ne.2
    intro e
    rw [e, Ts.less_irrefl] at h
    cases h

end Go.Proofs.YtjimemnkmpapgaaGreatDoor
