/- A text put among texts that rise: plain reckoning. -/
import Derived.Test.YtjimemnkmpapgaaGreatDoorPlainT
namespace Go.Proofs.YtjimemnkmpapgaaGreatDoor.Ts

theorem less_total : ∀ {x y : List UInt8}, Op.bytesLess x y = false → x ≠ y → Op.bytesLess y x = true
  | [], [], _, h => absurd rfl h
  | [], _ :: _, h, _ => by simp [Op.bytesLess] at h
  | _ :: _, [], _, _ => rfl
  | a :: x, b :: y, h, hne => by
    simp only [Op.bytesLess, Bool.or_eq_false_iff, decide_eq_false_iff_not, Bool.and_eq_false_iff, beq_eq_false_iff_ne] at h
    simp only [Op.bytesLess, Bool.or_eq_true, decide_eq_true_eq, Bool.and_eq_true, beq_iff_eq]
    by_cases hab : a = b
    · subst hab
      refine Or.inr ⟨rfl, less_total ?_ (fun e => hne (by rw [e]))⟩
      rcases h.2 with h2 | h2
      · exact absurd rfl h2
      · exact h2
    · refine Or.inl ?_
      have h1 := h.1
      have h3 : a.toNat ≠ b.toNat := fun e => hab (UInt8.toNat_inj.1 e)
      rw [UInt8.lt_iff_toNat_lt] at h1 ⊢
      omega

/-- No new name. -/
theorem tops_same {a : List O} {o : O} {l : List (List UInt8)} (h : Tops a l) (hs : Pl.top o.path.data.toList = [] ∨ Pl.top o.path.data.toList ∈ l) : Tops (a ++ [o]) l := by
  refine ⟨h.1, fun x => ?_⟩
  rw [h.2 x]
  constructor
  · rintro ⟨h0, p, hp, rfl⟩
    exact ⟨h0, p, by simp [hp], rfl⟩
  · rintro ⟨h0, p, hp, rfl⟩
    rcases List.mem_append.1 hp with hp | hp
    · exact ⟨h0, p, hp, rfl⟩
    · simp only [List.mem_cons, List.not_mem_nil, or_false] at hp
      subst hp
      rcases hs with hs | hs
      · exact absurd hs h0
      · exact (h.2 _).1 hs

/-- A new name goes where it belongs. -/
theorem tops_new {a : List O} {o : O} {l : List (List UInt8)} {k : Nat} (h : Tops a l) (hk : k ≤ l.length) (hs : Pl.top o.path.data.toList ≠ []) (hlo : ∀ (j : Nat) x, j < k → l[j]? = some x → Op.bytesLess x (Pl.top o.path.data.toList) = true) (hhi : ∀ x, l[k]? = some x → Op.bytesLess x (Pl.top o.path.data.toList) = false ∧ x ≠ Pl.top o.path.data.toList) :
    Tops (a ++ [o]) (l.take k ++ [Pl.top o.path.data.toList] ++ l.drop k) := by
  generalize hS : Pl.top o.path.data.toList = S at *
  have hmem : ∀ x, x ∈ l.take k ++ [S] ++ l.drop k ↔ x = S ∨ x ∈ l := by
    intro x
    rw [List.mem_append, List.mem_append, List.mem_singleton]
    constructor
    · rintro ((h1 | h1) | h1)
      · exact Or.inr (List.mem_of_mem_take h1)
      · exact Or.inl h1
      · exact Or.inr (List.mem_of_mem_drop h1)
    · rintro (h1 | h1)
      · exact Or.inl (Or.inr h1)
      · rw [← List.take_append_drop k l] at h1
        rcases List.mem_append.1 h1 with h1 | h1
        · exact Or.inl (Or.inl h1)
        · exact Or.inr h1
  have hlo' : ∀ x ∈ l.take k, Op.bytesLess x S = true := by
    intro x hx
    obtain ⟨j, hj⟩ := List.getElem?_of_mem hx
    have hjk : j < (l.take k).length := (List.getElem?_eq_some_iff.1 hj).1
    rw [List.length_take] at hjk
    rw [List.getElem?_take_of_lt (by omega)] at hj
    exact hlo j x (by omega) hj
  have hP := h.1
  unfold Rises at hP
  rw [← List.take_append_drop k l] at hP
  obtain ⟨p1, p2, p3⟩ := List.pairwise_append.1 hP
  have hhi' : ∀ x ∈ l.drop k, Op.bytesLess S x = true := by
    intro x hx
    cases hd : l.drop k with
    | nil => rw [hd] at hx; cases hx
    | cons y r =>
      have hy : l[k]? = some y := by
        have := congrArg (fun z => z[0]?) hd
        simpa using this
      have h1 := hhi y hy
      have h2 := less_total h1.1 h1.2
      rw [hd] at hx p2
      rcases List.mem_cons.1 hx with rfl | hx
      · exact h2
      · exact less_trans h2 ((List.pairwise_cons.1 p2).1 x hx)
  refine ⟨?_, fun x => ?_⟩
  · unfold Rises
    rw [List.append_assoc]
    refine List.pairwise_append.2 ⟨p1, List.pairwise_append.2 ⟨List.pairwise_singleton _ _, p2, fun x hx y hy => ?_⟩, fun x hx y hy => ?_⟩
    · rw [List.mem_singleton.1 hx]
      exact hhi' y hy
    · rcases List.mem_append.1 hy with hy | hy
      · rw [List.mem_singleton.1 hy]
        exact hlo' x hx
      · exact less_trans (hlo' x hx) (hhi' y hy)
  · rw [hmem, h.2 x]
    constructor
    · rintro (rfl | ⟨h0, p, hp, rfl⟩)
      · exact ⟨hs, o, by simp, hS⟩
      · exact ⟨h0, p, by simp [hp], rfl⟩
    · rintro ⟨h0, p, hp, rfl⟩
      rcases List.mem_append.1 hp with hp | hp
      · exact Or.inr ⟨h0, p, hp, rfl⟩
      · simp only [List.mem_cons, List.not_mem_nil, or_false] at hp
        subst hp
        exact Or.inl hS
end Go.Proofs.YtjimemnkmpapgaaGreatDoor.Ts
