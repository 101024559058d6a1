/- What is of no program: a path with more behind it; two paths of unlike first names. -/
import Derived.Test.YtmmbomlpkjgclaaDoorPlain
namespace Go.Proofs.YtmmbomlpkjgclaaDoor.Pl

theorem deeper_parts {p s : List UInt8} (hp : goodB p = true) (hq : goodB (p ++ 47 :: s) = true) : parts (p ++ 47 :: s) = parts p ++ spl s := by
  have h1 : parts (p ++ 47 :: s) = spl ((p ++ 47 :: s).drop 1) := by unfold parts; rw [hq]; rfl
  have h2 : parts p = spl (p.drop 1) := by unfold parts; rw [hp]; rfl
  have e := (good_parts hp).1
  obtain ⟨x, ex, _⟩ := spl_drop_of (good_parts hp).2.1
  rw [ex] at e
  rw [h1, h2, e]
  exact spl_two x s

theorem spl_one {s : List UInt8} (h : (spl s).length = 1) : spl s = [s] := by
  obtain ⟨a, t, e⟩ := spl_form s
  rw [e] at h
  have ht : t = [] := List.length_eq_zero_iff.1 (by simpa using h)
  subst ht
  have := of_spl s
  rw [e, of, of, List.append_nil] at this
  have := (List.cons.inj this).2
  rw [e, this]

theorem deeper_len {p s : List UInt8} (hp : goodB p = true) (hq : goodB (p ++ 47 :: s) = true) : (parts p).length + 1 ≤ (parts (p ++ 47 :: s)).length := by
  rw [deeper_parts hp hq, List.length_append, spl_length]; omega

theorem deeper_in {p s : List UInt8} (hp : goodB p = true) (hq : goodB (p ++ 47 :: s) = true) : withinB (p ++ 47 :: s) p = true := by
  rw [within_iff hq hp, deeper_parts hp hq]; exact List.prefix_append _ _

theorem deeper_out {p s : List UInt8} (hp : goodB p = true) (hq : goodB (p ++ 47 :: s) = true) : withinB p (p ++ 47 :: s) = false := by
  cases h : withinB p (p ++ 47 :: s) with
  | false => rfl
  | true =>
    rw [within_iff hp hq] at h
    have := h.length_le
    have := deeper_len hp hq
    omega

theorem deeper_one {p s : List UInt8} (hp : goodB p = true) (hq : goodB (p ++ 47 :: s) = true) (h : (parts (p ++ 47 :: s)).length = (parts p).length + 1) : parent (p ++ 47 :: s) = p ∧ name (p ++ 47 :: s) = s := by
  have hs : spl s = [s] := spl_one (by rw [deeper_parts hp hq, List.length_append] at h; omega)
  have e := deeper_parts hp hq
  rw [hs] at e
  refine ⟨?_, ?_⟩
  · rw [parent, e, List.dropLast_concat]; exact (good_parts hp).1.symm
  · rw [name, e]; simp

theorem top_parent {p : List UInt8} (hp : goodB p = true) (h2 : 2 ≤ (parts p).length) : top (parent p) = top p := by
  rw [top, (good_parent hp h2).2, top]
  match h : parts p, h2 with
  | a :: b :: t, _ => rfl

theorem top_within {p q : List UInt8} (hp : goodB p = true) (hq : goodB q = true) (h : withinB p q = true) : top p = top q := by
  rw [within_iff hp hq] at h
  obtain ⟨t, e⟩ := h
  have h1 := namesB_len (good_parts hq).2.1
  rw [top, top, ← e]
  match parts q, h1 with
  | a :: b, _ => rfl

theorem apart_within {p q : List UInt8} (hp : goodB p = true) (hq : goodB q = true) (h : top p ≠ top q) : withinB p q = false := by
  cases hw : withinB p q with
  | false => rfl
  | true => exact absurd (top_within hp hq hw) h

theorem apart_parent {p q : List UInt8} (hp : goodB p = true) (h2 : 2 ≤ (parts p).length) (h : top p ≠ top q) : parent p ≠ q := by
  intro e
  exact h (by rw [← e, top_parent hp h2])
end Go.Proofs.YtmmbomlpkjgclaaDoor.Pl
