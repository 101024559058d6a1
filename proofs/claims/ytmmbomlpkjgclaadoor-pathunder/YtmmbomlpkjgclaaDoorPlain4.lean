/- What is of no program: a path's ancestors. -/
import Derived.Test.YtmmbomlpkjgclaaDoorPlain2
namespace Go.Proofs.YtmmbomlpkjgclaaDoor.Pl

/-- The ancestor of the first j names. -/
def anc (p : List UInt8) (j : Nat) : List UInt8 := of ((parts p).take j)

theorem anc_good {p : List UInt8} (hp : goodB p = true) {j : Nat} (h1 : 1 ≤ j) (h2 : j ≤ (parts p).length) : goodB (anc p j) = true ∧ parts (anc p j) = (parts p).take j := by
  obtain ⟨e, hn, hl⟩ := good_parts hp
  rw [e] at hl
  obtain ⟨a, b⟩ := good_pre hn hl (List.take_prefix j _) (by rw [List.length_take]; omega)
  exact ⟨(good_iff _).2 ⟨_, a, rfl, b⟩, parts_of a b⟩

theorem anc_len {p : List UInt8} (hp : goodB p = true) {j : Nat} (h1 : 1 ≤ j) (h2 : j ≤ (parts p).length) : (parts (anc p j)).length = j := by
  rw [(anc_good hp h1 h2).2, List.length_take]; omega

theorem anc_parent {p : List UInt8} (hp : goodB p = true) {j : Nat} (h1 : 2 ≤ j) (h2 : j ≤ (parts p).length) : parent (anc p j) = anc p (j - 1) := by
  rw [parent, (anc_good hp (by omega) h2).2, anc, List.dropLast_eq_take, List.length_take, List.take_take]
  congr 2
  omega

theorem anc_first {p : List UInt8} (h : 2 ≤ (parts p).length) : parent p = anc p ((parts p).length - 1) := by
  have _ := h
  rw [parent, anc, List.dropLast_eq_take]

theorem anc_in {p : List UInt8} (hp : goodB p = true) {j : Nat} (h1 : 1 ≤ j) (h2 : j ≤ (parts p).length) : withinB p (anc p j) = true := by
  obtain ⟨a, b⟩ := anc_good hp h1 h2
  rw [within_iff hp a, b]; exact List.take_prefix _ _

theorem anc_out {p : List UInt8} (hp : goodB p = true) {j : Nat} (h1 : 1 ≤ j) (h2 : j < (parts p).length) : withinB (anc p j) p = false := by
  obtain ⟨a, b⟩ := anc_good hp h1 (by omega)
  cases h : withinB (anc p j) p with
  | false => rfl
  | true =>
    rw [within_iff a hp, b] at h
    have := h.length_le
    rw [List.length_take] at this
    omega

theorem anc_top {p : List UInt8} (hp : goodB p = true) {j : Nat} (h1 : 1 ≤ j) (h2 : j ≤ (parts p).length) : top (anc p j) = top p := by
  obtain ⟨a, b⟩ := anc_good hp h1 h2
  exact (top_within hp a (anc_in hp h1 h2)).symm

theorem both_within {p q : List UInt8} (hp : goodB p = true) (hq : goodB q = true) : (withinB p q && withinB q p) = (p == q) := by
  rw [Bool.eq_iff_iff, Bool.and_eq_true, beq_iff_eq]
  constructor
  · rintro ⟨h1, h2⟩
    rw [within_iff hp hq] at h1
    rw [within_iff hq hp] at h2
    exact good_inj hp hq (h2.eq_of_length_le h1.length_le)
  · rintro rfl
    have : withinB p p = true := (within_iff hp hp).2 (List.prefix_refl _)
    exact ⟨this, this⟩

theorem top_of {p : List UInt8} (hp : goodB p = true) : 47 :: top p = anc p 1 := by
  obtain ⟨e, hn, hl⟩ := good_parts hp
  have h1 := namesB_len hn
  rw [top, anc]
  match h : parts p, h1 with
  | a :: t, _ => simp [of]
end Go.Proofs.YtmmbomlpkjgclaaDoor.Pl
