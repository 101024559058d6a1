/- What the first fault of all is: plain reckoning, no program. -/
import Derived.Test.YtjimemnkmpapgaaGreatDoorPlainL19
namespace Go.Proofs.YtjimemnkmpapgaaGreatDoor.Pn

def bd (bs : List Bool) (n : Nat) : Bool := bs[n]?.getD false
/-- The first fault among the first k; -1: none. -/
def fst (bs : List Bool) : Nat → Int
  | 0 => -1
  | k + 1 => if fst bs k < 0 ∧ bd bs k = true then (k : Int) else fst bs k
/-- A shard's vote behind its first k places. -/
def vt (bs : List Bool) (l : List Int) : Nat → V
  | 0 => ⟨0, -1⟩
  | k + 1 => if (vt bs l k).err = 0 ∧ bd bs (l.getD k 0).toNat = true then ⟨4 + (l.getD k 0) % 3, (k : Int)⟩ else vt bs l k
theorem fst_or (bs : List Bool) : ∀ k, (fst bs k = -1 ∧ ∀ j, j < k → bd bs j = false) ∨ ∃ j : Nat, fst bs k = (j : Int) ∧ j < k ∧ bd bs j = true ∧ ∀ i, i < j → bd bs i = false
  | 0 => Or.inl ⟨rfl, fun j hj => by omega⟩
  | k + 1 => by
    unfold fst
    rcases fst_or bs k with ⟨h1, h2⟩ | ⟨j, h1, h2, h3, h4⟩
    · cases e : bd bs k with
      | true =>
        rw [if_pos ⟨by omega, rfl⟩]
        exact Or.inr ⟨k, rfl, by omega, e, fun i hi => h2 i hi⟩
      | false =>
        rw [if_neg (fun h => by cases h.2)]
        refine Or.inl ⟨h1, fun j hj => ?_⟩
        by_cases hjk : j = k
        · rw [hjk]; exact e
        · exact h2 j (by omega)
    · rw [if_neg (fun h => by omega)]
      exact Or.inr ⟨j, h1, by omega, h3, h4⟩
theorem vt_or (bs : List Bool) (l : List Int) (h0 : ∀ z ∈ l, 0 ≤ z) : ∀ k, k ≤ l.length → (vt bs l k = ⟨0, -1⟩ ∧ ∀ (j : Nat) z, j < k → l[j]? = some z → bd bs z.toNat = false) ∨ ∃ (j : Nat) (z : Int), j < k ∧ l[j]? = some z ∧ bd bs z.toNat = true ∧ (∀ (i : Nat) y, i < j → l[i]? = some y → bd bs y.toNat = false) ∧ vt bs l k = ⟨4 + z % 3, (j : Int)⟩ ∧ (vt bs l k).err ≠ 0
  | 0, _ => Or.inl ⟨rfl, fun j z hj => by omega⟩
  | k + 1, hk => by
    obtain ⟨z, hz⟩ : ∃ z, l[k]? = some z := ⟨l[k]'(by omega), List.getElem?_eq_getElem _⟩
    have hzd : l.getD k 0 = z := by rw [List.getD_eq_getElem?_getD, hz]; rfl
    have hz0 := h0 z (List.mem_of_getElem? hz)
    unfold vt
    rw [hzd]
    rcases vt_or bs l h0 k (by omega) with ⟨h1, h2⟩ | ⟨j, y, h1, h2, h3, h4, h5, h6⟩
    · cases e : bd bs z.toNat with
      | true =>
        rw [if_pos ⟨by rw [h1], rfl⟩]
        exact Or.inr ⟨k, z, by omega, hz, e, fun i y hi hy => h2 i y hi hy, rfl, by show 4 + z % 3 ≠ 0; omega⟩
      | false =>
        rw [if_neg (fun h => by cases h.2)]
        refine Or.inl ⟨h1, fun j y hj hy => ?_⟩
        by_cases hjk : j = k
        · subst hjk
          rw [hz] at hy
          rw [← Option.some.inj hy]
          exact e
        · exact h2 j y (by omega) hy
    · rw [if_neg (fun h => h6 h.1)]
      exact Or.inr ⟨j, y, by omega, h2, h3, h4, h5, h6⟩
theorem against_mem (pl : List (List Int)) : ∀ (i : Nat) (vs : List V) (x : V), x ∈ against pl i vs ↔ ∃ (j : Nat) (v : V), vs[j]? = some v ∧ v.err ≠ 0 ∧ x = ⟨v.err, place pl (i + j) v.at_⟩
  | i, [], x => ⟨fun h => (by cases h), fun ⟨j, v, h, _⟩ => (by simp at h)⟩
  | i, v :: vs, x => by
    have ih := against_mem pl (i + 1) vs x
    have key : (∃ (j : Nat) (w : V), (v :: vs)[j]? = some w ∧ w.err ≠ 0 ∧ x = ⟨w.err, place pl (i + j) w.at_⟩) ↔ (v.err ≠ 0 ∧ x = ⟨v.err, place pl i v.at_⟩) ∨ ∃ (j : Nat) (w : V), vs[j]? = some w ∧ w.err ≠ 0 ∧ x = ⟨w.err, place pl (i + 1 + j) w.at_⟩ := by
      constructor
      · rintro ⟨j, w, h1, h2, h3⟩
        cases j with
        | zero =>
          obtain rfl := Option.some.inj h1
          exact Or.inl ⟨h2, h3⟩
        | succ j => exact Or.inr ⟨j, w, by simpa using h1, h2, by rw [h3, show i + (j + 1) = i + 1 + j by omega]⟩
      · rintro (⟨h2, h3⟩ | ⟨j, w, h1, h2, h3⟩)
        · exact ⟨0, v, rfl, h2, h3⟩
        · exact ⟨j + 1, w, by simpa using h1, h2, by rw [h3, show i + (j + 1) = i + 1 + j by omega]⟩
    rw [key, ← ih, show against pl i (v :: vs) = if v.err = 0 then against pl (i + 1) vs else ⟨v.err, place pl i v.at_⟩ :: against pl (i + 1) vs from rfl]
    by_cases h : v.err = 0
    · rw [if_pos h]
      exact ⟨Or.inr, fun k => k.elim (fun e => absurd h e.1) id⟩
    · rw [if_neg h, List.mem_cons]
      exact ⟨fun k => k.elim (fun e => Or.inl ⟨h, e⟩) Or.inr, fun k => k.elim (fun e => Or.inl e.2) Or.inr⟩
theorem least_mem : ∀ (l : List V) (m : V), least m l ∈ m :: l
  | [], m => List.mem_cons_self
  | x :: l, m => by
    have h := least_mem l (if less x m then x else m)
    show least (if less x m then x else m) l ∈ m :: x :: l
    rcases List.mem_cons.1 h with e | h
    · rw [e]
      split
      · exact List.mem_cons_of_mem _ List.mem_cons_self
      · exact List.mem_cons_self
    · exact List.mem_cons_of_mem _ (List.mem_cons_of_mem _ h)
theorem least_le : ∀ (l : List V) (m : V), (∀ x ∈ m :: l, x.err ≠ 12) → ∀ x ∈ m :: l, (least m l).at_ ≤ x.at_
  | [], m, _, x, hx => by
    rcases List.mem_cons.1 hx with rfl | hx
    · exact Int.le_refl _
    · cases hx
  | y :: l, m, h, x, hx => by
    have hm := h m List.mem_cons_self
    have hy := h y (List.mem_cons_of_mem _ List.mem_cons_self)
    have hl : less y m = decide (y.at_ < m.at_) := by unfold less; rw [decide_eq_false hm, decide_eq_false hy]; rfl
    have hq : ∀ q ∈ (if less y m then y else m) :: l, q.err ≠ 12 := fun q hq => by
      rcases List.mem_cons.1 hq with rfl | hq
      · split
        · exact hy
        · exact hm
      · exact h q (List.mem_cons_of_mem _ (List.mem_cons_of_mem _ hq))
    have ih := least_le l (if less y m then y else m) hq
    show (least (if less y m then y else m) l).at_ ≤ x.at_
    have h0 := ih _ List.mem_cons_self
    have hmin : (if less y m then y else m).at_ ≤ m.at_ ∧ (if less y m then y else m).at_ ≤ y.at_ := by
      rw [hl]
      by_cases e : y.at_ < m.at_
      · rw [decide_eq_true e]
        exact ⟨by show y.at_ ≤ m.at_; omega, Int.le_refl _⟩
      · rw [decide_eq_false e]
        exact ⟨Int.le_refl _, by show m.at_ ≤ y.at_; omega⟩
    rcases List.mem_cons.1 hx with rfl | hx
    · omega
    · rcases List.mem_cons.1 hx with rfl | hx
      · omega
      · exact ih x (List.mem_cons_of_mem _ hx)
/-- The verdict of shards that each tell their own first fault. -/
theorem model {t : Tb.St} {m : Int} (ht : Tb.Fine m t) (s n : Int) {os : List O} (h16 : os.length ≤ 16) (hg : ∀ o ∈ os, Pl.goodB o.path.data.toList = true) (bs : List Bool) :
    verdict (of t s n os) ((of t s n os).pl.map fun l => vt bs l l.length) = if fst bs os.length < 0 then (0, -1) else (4 + fst bs os.length % 3, fst bs os.length) := by
  have ok := Ok.of ht s n h16
  have hr : ∀ l ∈ (of t s n os).pl, ∀ z ∈ l, 0 ≤ z ∧ z < (os.length : Int) := ok.rng
  obtain ⟨P, hP⟩ : ∃ P, P = of t s n os := ⟨_, rfl⟩
  have hmem : ∀ x, x ∈ against P.pl 0 (P.pl.map fun l => vt bs l l.length) ↔ ∃ (i : Nat) (l : List Int) (j : Nat) (z : Int), P.pl[i]? = some l ∧ l[j]? = some z ∧ bd bs z.toNat = true ∧ (∀ (i : Nat) y, i < j → l[i]? = some y → bd bs y.toNat = false) ∧ x = ⟨4 + z % 3, z⟩ := fun x => by
    rw [against_mem]
    constructor
    · rintro ⟨i, v, h1, h2, h3⟩
      rw [List.getElem?_map] at h1
      obtain ⟨l, hl, rfl⟩ := Option.map_eq_some_iff.1 h1
      have hl0 := hr l (by rw [← hP]; exact List.mem_of_getElem? hl)
      rcases vt_or bs l (fun z hz => (hl0 z hz).1) l.length (Nat.le_refl _) with ⟨e, _⟩ | ⟨j, z, _, a2, a3, a4, a5, _⟩
      · rw [e] at h2
        exact absurd rfl h2
      · refine ⟨i, l, j, z, hl, a2, a3, a4, ?_⟩
        rw [h3, a5]
        unfold place
        rw [if_pos (by show (0 : Int) ≤ (j : Int); omega), Nat.zero_add, hl]
        show V.mk (4 + z % 3) ((l[((j : Int)).toNat]?).getD (-1)) = _
        rw [show ((j : Int)).toNat = j by omega, a2]
        rfl
    · rintro ⟨i, l, j, z, hl, a2, a3, a4, rfl⟩
      have hl0 := hr l (by rw [← hP]; exact List.mem_of_getElem? hl)
      have hj := (List.getElem?_eq_some_iff.1 a2).1
      refine ⟨i, vt bs l l.length, by rw [List.getElem?_map, hl, Option.map_some], ?_⟩
      rcases vt_or bs l (fun z hz => (hl0 z hz).1) l.length (Nat.le_refl _) with ⟨_, e⟩ | ⟨j', z', _, b2, b3, b4, b5, b6⟩
      · rw [e j z hj a2] at a3
        cases a3
      · have hjj : j' = j := by
          rcases Nat.lt_trichotomy j' j with h | h | h
          · rw [a4 j' z' h b2] at b3; cases b3
          · exact h
          · rw [b4 j z h a2] at a3; cases a3
        subst hjj
        rw [a2] at b2
        obtain rfl := Option.some.inj b2
        refine ⟨b6, ?_⟩
        rw [b5]
        unfold place
        rw [if_pos (by show (0 : Int) ≤ (j' : Int); omega), Nat.zero_add, hl]
        show _ = V.mk (4 + z % 3) ((l[((j' : Int)).toNat]?).getD (-1))
        rw [show ((j' : Int)).toNat = j' by omega, a2]
        rfl
  have hver : verdict P (P.pl.map fun l => vt bs l l.length) = told (against P.pl 0 (P.pl.map fun l => vt bs l l.length)) := by
    unfold verdict
    rw [if_pos (by rw [List.length_map, hP]; exact ok.len.symm)]
  rw [← hP, hver]
  rcases fst_or bs os.length with ⟨f1, f2⟩ | ⟨F, f1, f2, f3, f4⟩
  · rw [f1, if_pos (by omega)]
    cases e : against P.pl 0 (P.pl.map fun l => vt bs l l.length) with
    | nil => rfl
    | cons x r =>
      have hx : x ∈ against P.pl 0 (P.pl.map fun l => vt bs l l.length) := by rw [e]; exact List.mem_cons_self
      obtain ⟨i, l, j, z, h1, h2, h3, _, _⟩ := (hmem x).1 hx
      have hz := hr l (by rw [← hP]; exact List.mem_of_getElem? h1) z (List.mem_of_getElem? h2)
      rw [f2 z.toNat (by omega)] at h3
      cases h3
  · rw [f1, if_neg (by omega)]
    have ho : os[F]? = some os[F] := List.getElem?_eq_getElem f2
    obtain ⟨i, l, _, a2, a3⟩ := of_has ht s n ho (hg _ (List.getElem_mem f2))
    rw [← hP] at a2
    obtain ⟨j, hj⟩ := List.mem_iff_getElem?.1 a3
    have hlr := hr l (by rw [← hP]; exact List.mem_of_getElem? a2)
    have hpr := ok.pr l (by rw [← hP]; exact List.mem_of_getElem? a2)
    have hF : (⟨4 + (F : Int) % 3, (F : Int)⟩ : V) ∈ against P.pl 0 (P.pl.map fun l => vt bs l l.length) := by
      refine (hmem _).2 ⟨i, l, j, (F : Int), a2, hj, by rw [show ((F : Int)).toNat = F by omega]; exact f3, fun k y hk hy => ?_, rfl⟩
      have h1 := List.getElem?_eq_some_iff.1 hy
      have h2 := List.getElem?_eq_some_iff.1 hj
      obtain ⟨h1a, h1b⟩ := h1
      obtain ⟨h2a, h2b⟩ := h2
      have h3 := List.pairwise_iff_getElem.1 hpr k j h1a h2a hk
      have h4 := hlr y (List.mem_of_getElem? hy)
      exact f4 y.toNat (by omega)
    cases e : against P.pl 0 (P.pl.map fun l => vt bs l l.length) with
    | nil => rw [e] at hF; cases hF
    | cons x r =>
      have hall : ∀ y ∈ x :: r, ∃ z : Int, 0 ≤ z ∧ bd bs z.toNat = true ∧ y = ⟨4 + z % 3, z⟩ := fun y hy => by
        rw [← e] at hy
        obtain ⟨i, l, j, z, h1, h2, h3, _, h5⟩ := (hmem y).1 hy
        exact ⟨z, (hr l (by rw [← hP]; exact List.mem_of_getElem? h1) z (List.mem_of_getElem? h2)).1, h3, h5⟩
      have hle := least_le r x (fun y hy => by
        obtain ⟨z, h0, _, rfl⟩ := hall y hy
        show 4 + z % 3 ≠ 12
        omega) _ (by rw [← e]; exact hF)
      obtain ⟨z, h0, h1, h2⟩ := hall _ (least_mem r x)
      have h3 : z ≤ (F : Int) := by rw [h2] at hle; exact hle
      have h4 : z = (F : Int) := by
        apply Classical.byContradiction
        intro hne
        rw [f4 z.toNat (by omega)] at h1
        cases h1
      show ((least x r).err, (least x r).at_) = _
      rw [h2, h4]
end Go.Proofs.YtjimemnkmpapgaaGreatDoor.Pn
