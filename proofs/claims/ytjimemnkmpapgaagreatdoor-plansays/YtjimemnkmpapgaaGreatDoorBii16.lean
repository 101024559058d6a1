/- Rows of rows of numbers; each shard's places. -/
import Derived.Test.YtjimemnkmpapgaaGreatDoorPlainT16
import Derived.Test.YtjimemnkmpapgaaGreatDoorBs19
import Derived.Test.YtjimemnkmpapgaaGreatDoorOps
namespace Go.Proofs.YtjimemnkmpapgaaGreatDoor
open Go.RowKit

theorem Bi.keep {w w' : World} {v : Value} {zs : List Int} (h : Bi w v zs) (hk : ∀ k, v.ownBlock = some k → k < w.heap.size → w'.heap[k]? = w.heap[k]?) : Bi w' v zs := by
  obtain ⟨av, k, c, rfl, hj, hs⟩ := h
  refine ⟨av, k, c, rfl, hj, fun j z hz => ?_⟩
  obtain ⟨g, o, ha, hcell⟩ := hs j z hz
  have hb := hk g (by rw [ha]; rfl) (World.block_lt_of_cell? w _ hcell)
  exact ⟨g, o, ha, (World.cell?_of_block hb).trans hcell⟩
/-- A value is a slice of slices of these numbers. -/
def Bii (w : World) (u : Value) (ls : List (List Int)) : Prop := ∃ av k c, u = .slice av k c ∧ k = ls.length ∧ ∀ (j : Nat) l, ls[j]? = some l → ∃ g o v, av = some ⟨g, o, none⟩ ∧ w.cell? ⟨g, o + j, none⟩ = some v ∧ Bi w v l
theorem Bii.below {w w' : World} {v : Value} {ls : List (List Int)} (h : Bii w v ls) (hb : Below w.heap.size w w') : Bii w' v ls := by
  obtain ⟨av, k, c, hv, hk, hs⟩ := h
  refine ⟨av, k, c, hv, hk, fun j l hl => ?_⟩
  obtain ⟨g, o, u, ha, hc, hi⟩ := hs j l hl
  exact ⟨g, o, u, ha, Below.kept hb hc, hi.below hb⟩
/-- Each shard's places. -/
def Tb.split (s : Tb.St) (ps : List ByteArray) : List (List Int) := (List.range s.shards.toNat).map fun k : Nat => Tb.places (Tb.of s) ps (k : Int)
theorem Tb.split_len (s : Tb.St) (ps : List ByteArray) : (Tb.split s ps).length = s.shards.toNat := by unfold Tb.split; simp
theorem Tb.split_at {s : Tb.St} {ps : List ByteArray} {k : Nat} {l : List Int} (h : (Tb.split s ps)[k]? = some l) : (k : Int) < s.shards ∧ l = Tb.places (Tb.of s) ps (k : Int) := by
  have hk := (List.getElem?_eq_some_iff.1 h).1
  rw [Tb.split_len] at hk
  unfold Tb.split at h
  rw [List.getElem?_map, List.getElem?_range hk] at h
  exact ⟨by omega, (Option.some.inj h).symm⟩
/-- What is asked of the world, and the paths. -/
def Paths16 (os : List O) : Prop := ∀ o ∈ os, o.path.size ≤ maxLen

end Go.Proofs.YtjimemnkmpapgaaGreatDoor
