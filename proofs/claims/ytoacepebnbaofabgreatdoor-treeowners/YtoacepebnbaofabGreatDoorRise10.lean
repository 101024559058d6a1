/- What the reference's Rising answers. -/
import Derived.Test.YtoacepebnbaofabGreatDoorPln
import Derived.BigQuiet
import Derived.Deep.QuietTactic
namespace Go.Proofs.YtoacepebnbaofabGreatDoor.Kq
theorem rises_snoc {l : List ByteArray} {x y : ByteArray} (h : Rises l) (hy : l[l.length - 1]? = some y) (hlt : lt y x = true) : Rises (l ++ [x]) := by
  refine List.pairwise_append.2 ⟨h, List.pairwise_singleton _ _, fun a ha b hb => ?_⟩
  simp at hb
  subst hb
  obtain ⟨i, hi, rfl⟩ := List.getElem_of_mem ha
  obtain ⟨hj, hj2⟩ := List.getElem?_eq_some_iff.1 hy
  by_cases e : i = l.length - 1
  · subst e
    rw [hj2]
    exact hlt
  · have := List.pairwise_iff_getElem.1 h i (l.length - 1) hi hj (by omega)
    rw [hj2] at this
    exact lt_trans this hlt
theorem rises_take {l : List ByteArray} {k : Nat} {x y : ByteArray} (h : Rises (l.take k)) (h0 : 0 < k) (hx : l[k]? = some x) (hy : l[k - 1]? = some y) (hlt : lt y x = true) : Rises (l.take (k + 1)) := by
  rw [List.take_add_one, hx]
  have hk : k < l.length := (List.getElem?_eq_some_iff.1 hx).1
  refine rises_snoc h ?_ hlt
  rw [List.length_take, show min k l.length - 1 = k - 1 by omega, List.getElem?_take, if_pos (by omega)]
  exact hy
theorem rises_not {l : List ByteArray} {k : Nat} {x y : ByteArray} (h : Rises l) (h0 : 0 < k) (hx : l[k]? = some x) (hy : l[k - 1]? = some y) : lt y x = true := by
  obtain ⟨h1, h2⟩ := List.getElem?_eq_some_iff.1 hx
  obtain ⟨h3, h4⟩ := List.getElem?_eq_some_iff.1 hy
  have := List.pairwise_iff_getElem.1 h (k - 1) k h3 h1 (by omega)
  rw [h2, h4] at this
  exact this
end Go.Proofs.YtoacepebnbaofabGreatDoor.Kq
namespace Go.Proofs.YtoacepebnbaofabGreatDoor
open Go.RowKit

end Go.Proofs.YtoacepebnbaofabGreatDoor
