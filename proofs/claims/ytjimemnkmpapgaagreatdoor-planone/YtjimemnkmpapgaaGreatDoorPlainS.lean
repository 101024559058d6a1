/- Texts sorted, each once: what is left rises, and is what there was. Plain reckoning. -/
import Derived.Test.YtjimemnkmpapgaaGreatDoorPlainU
import Derived.Lib.SlicesCompact
import Derived.Sort.Walk0
namespace Go.Proofs.YtjimemnkmpapgaaGreatDoor.Ts

theorem le_less {x y : List UInt8} (h : x ≤ y) : Op.bytesLess y x = false := by
  rw [bytesLess_eq]
  exact decide_eq_false (List.not_lt.2 h)

/-- What is kept of texts that do not fall. -/
theorem compact_rises (d : Array (List UInt8)) (hs : ∀ i j, i < j → j < d.size → Op.bytesLess d[j]! d[i]! = false) : ∀ m, m ≤ d.size → Rises (Lib.compactUpTo d m) ∧ ∀ x, x ∈ Lib.compactUpTo d m ↔ ∃ j, j < m ∧ d[j]! = x
  | 0, _ => ⟨by unfold Rises Lib.compactUpTo; simp, fun x => ⟨fun h => by simp [Lib.compactUpTo] at h, fun ⟨j, hj, _⟩ => by omega⟩⟩
  | m + 1, hm => by
    obtain ⟨h1, h2⟩ := compact_rises d hs m (by omega)
    rw [Lib.compactUpTo_succ]
    cases hk : Lib.keeps d m with
    | true =>
      simp only [if_true]
      constructor
      · unfold Rises
        rw [List.pairwise_append]
        refine ⟨h1, by simp, fun x hx y hy => ?_⟩
        simp only [List.mem_singleton] at hy
        subst hy
        obtain ⟨j, hj, rfl⟩ := (h2 x).1 hx
        have hne : d[m]! ≠ d[m - 1]! := by
          unfold Lib.keeps at hk
          simp only [decide_eq_true_eq] at hk
          rcases hk with hk | hk
          · omega
          · exact hk
        have ha : Op.bytesLess d[m - 1]! d[m]! = true := less_total (hs (m - 1) m (by omega) (by omega)) hne
        by_cases hjm : j = m - 1
        · rw [hjm]
          exact ha
        · by_cases he : d[j]! = d[m - 1]!
          · rw [he]
            exact ha
          · exact less_trans (less_total (hs j (m - 1) (by omega) (by omega)) (fun e => he e.symm)) ha
      · intro x
        rw [List.mem_append, h2 x, List.mem_singleton]
        constructor
        · rintro (⟨j, hj, e⟩ | e)
          · exact ⟨j, by omega, e⟩
          · exact ⟨m, by omega, e.symm⟩
        · rintro ⟨j, hj, e⟩
          by_cases hjm : j = m
          · subst hjm
            exact Or.inr e.symm
          · exact Or.inl ⟨j, by omega, e⟩
    | false =>
      simp only [Bool.false_eq_true, if_false, List.append_nil]
      refine ⟨h1, fun x => ?_⟩
      rw [h2 x]
      have hm0 : 0 < m ∧ d[m]! = d[m - 1]! := by
        unfold Lib.keeps at hk
        simp only [decide_eq_false_iff_not, not_or, Decidable.not_not] at hk
        exact ⟨by omega, hk.2⟩
      constructor
      · rintro ⟨j, hj, e⟩
        exact ⟨j, by omega, e⟩
      · rintro ⟨j, hj, e⟩
        by_cases hjm : j = m
        · subst hjm
          exact ⟨j - 1, by omega, by rw [← hm0.2]; exact e⟩
        · exact ⟨j, by omega, e⟩

/-- The first names of Ops, as they stand, but none that is nothing. -/
def names (os : List O) : List (List UInt8) := (os.map fun o => Pl.top o.path.data.toList).filter fun x => !x.isEmpty

theorem names_snoc (os : List O) (o : O) : names (os ++ [o]) = names os ++ (if (Pl.top o.path.data.toList).isEmpty then [] else [Pl.top o.path.data.toList]) := by
  unfold names
  rw [List.map_append, List.filter_append]
  congr 1
  cases h : (Pl.top o.path.data.toList).isEmpty <;> simp [h]

theorem names_len (os : List O) : (names os).length ≤ os.length := by
  unfold names
  exact Nat.le_trans (List.length_filter_le _ _) (by simp)

theorem sorted_falls_not (l : List (List UInt8)) : ∀ i j, i < j → j < (l.mergeSort fun x y => decide (x ≤ y)).toArray.size → Op.bytesLess (l.mergeSort fun x y => decide (x ≤ y)).toArray[j]! (l.mergeSort fun x y => decide (x ≤ y)).toArray[i]! = false := by
  intro i j hij hj
  have hp : (l.mergeSort fun x y => decide (x ≤ y)).Pairwise fun a b => decide (a ≤ b) = true := List.pairwise_mergeSort (fun a b c hab hbc => by
    simp only [decide_eq_true_eq] at hab hbc ⊢
    exact List.le_trans hab hbc) (fun a b => by
    simp only [Bool.or_eq_true, decide_eq_true_eq]
    exact List.le_total a b) l
  generalize l.mergeSort (fun x y => decide (x ≤ y)) = s at *
  have hj' : j < s.length := by simpa using hj
  have h := List.pairwise_iff_getElem.1 hp i j (by omega) hj' hij
  rw [getElem!_pos s.toArray j hj, getElem!_pos s.toArray i (by omega)]
  exact le_less (by simpa using h)

theorem tops_sorted (os : List O) : Tops os (Lib.compact ((names os).mergeSort fun x y => decide (x ≤ y))) := by
  have h := compact_rises ((names os).mergeSort fun x y => decide (x ≤ y)).toArray (sorted_falls_not _) ((names os).mergeSort fun x y => decide (x ≤ y)).length (by simp)
  refine ⟨h.1, fun x => ?_⟩
  have h2 : x ∈ Lib.compact ((names os).mergeSort fun x y => decide (x ≤ y)) ↔ x ∈ (names os).mergeSort fun x y => decide (x ≤ y) := by
    unfold Lib.compact
    rw [h.2 x]
    constructor
    · rintro ⟨j, hj, rfl⟩
      rw [getElem!_pos _ j (by simpa using hj)]
      simp
    · intro hx
      obtain ⟨j, hj, rfl⟩ := List.getElem_of_mem hx
      exact ⟨j, hj, by rw [getElem!_pos _ j (by simpa using hj)]; simp⟩
  rw [h2, List.mem_mergeSort]
  unfold names
  rw [List.mem_filter, List.mem_map]
  constructor
  · rintro ⟨⟨o, ho, rfl⟩, h3⟩
    exact ⟨by simpa using h3, o, ho, rfl⟩
  · rintro ⟨h3, o, ho, rfl⟩
    exact ⟨⟨o, ho, rfl⟩, by simpa using h3⟩
end Go.Proofs.YtjimemnkmpapgaaGreatDoor.Ts
