/- What is of no program: a cut text, one byte more. -/
import Derived.Test.YtmmbomlpkjgclaaDoorPlain2
namespace Go.Proofs.YtmmbomlpkjgclaaDoor.Pl

theorem spl_snoc_slash (a : List UInt8) : spl (a ++ [47]) = spl a ++ [[]] := spl_two a []

theorem spl_snoc_other {c : UInt8} (hc : c ≠ 47) : ∀ (a : List UInt8) (ys : List (List UInt8)) (y : List UInt8), spl a = ys ++ [y] → spl (a ++ [c]) = ys ++ [y ++ [c]]
  | [], ys, y, h => by
    have e : ([[]] : List (List UInt8)) = ys ++ [y] := h
    match ys, e with
    | [], e =>
      have hy : y = [] := by simpa using e.symm
      subst hy
      exact spl_other hc (l := []) (h := []) (t := []) rfl
    | _ :: t, e => simp at e
  | d :: a, ys, y, h => by
    obtain ⟨n, t, e⟩ := spl_form a
    by_cases hd : d = 47
    · subst hd
      rw [spl_slash] at h
      match ys, h with
      | [], h => have := congrArg List.length h; rw [e] at this; simp at this
      | z :: zs, h =>
        have h1 := List.cons.inj h
        rw [List.cons_append, spl_slash, spl_snoc_other hc a zs y h1.2, ← h1.1]; rfl
    · rw [spl_other hd e] at h
      match ys, h with
      | [], h =>
        have h1 := List.cons.inj h
        have ih := spl_snoc_other hc a [] n (by rw [e, h1.2]; rfl)
        rw [List.cons_append, spl_other hd ih, ← h1.1]; rfl
      | z :: zs, h =>
        have h1 := List.cons.inj h
        have ih := spl_snoc_other hc a (n :: zs) y (by rw [e, h1.2]; rfl)
        rw [List.cons_append, spl_other hd ih, ← h1.1]; rfl
end Go.Proofs.YtmmbomlpkjgclaaDoor.Pl
