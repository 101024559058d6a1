/- Several Ops at once, plainly: no program. -/
import Derived.Test.YtfcbdjjbchcpjaaGreatDoorPln
import Derived.Test.YtfcbdjjbchcpjaaGreatDoorBox12
namespace Go.Proofs.YtfcbdjjbchcpjaaGreatDoor.Tq
open Kq

/-- What Ops leave, one behind the other; what each is answered. -/
def after (t : Tr) (s z : Int) (os : List O) : Tr := os.foldl (fun t o => (doo t o s z).2) t
def says (t : Tr) (s z : Int) : List O → List X
  | [] => []
  | o :: os => (doo t o s z).1 :: says (doo t o s z).2 s z os
/-- The first that fails: its place, its error. -/
def bad (t : Tr) (s z : Int) : List O → Option (Nat × Int)
  | [] => none
  | o :: os => if (doo t o s z).1.err ≠ 0 then some (0, (doo t o s z).1.err) else (bad (doo t o s z).2 s z os).map fun k => (k.1 + 1, k.2)
/-- One behind the other, up to one that fails. -/
def turn (t : Tr) (s z : Int) (os : List O) : (Rp × Bool) × Tr :=
  match bad t s z os with
  | some k => ((Rq.fail 0 k.2 (k.1 : Int) (os.length : Int), false), after t s z (os.take k.1))
  | none => ((⟨0, z, 0, -1, says t s z os⟩, true), after t s z os)
/-- Do: all or none. -/
def many (t : Tr) (s z : Int) (os : List O) : (Rp × Bool) × Tr :=
  if 16 < os.length then ((Rq.fail 0 2 (-1) 0, false), t)
  else if os.length = 0 then ((Rq.fail 0 1 (-1) 0, false), t)
  else ((turn t s z os).1, if (turn t s z os).1.2 then (turn t s z os).2 else t)

section
variable {t : Tr} {s z : Int} {o : O} {os l : List O} {k : Nat × Int}
theorem after_snoc : after t s z (l ++ [o]) = (doo (after t s z l) o s z).2 := by unfold after; simp
theorem says_snoc : ∀ {l : List O} {t : Tr}, says t s z (l ++ [o]) = says t s z l ++ [(doo (after t s z l) o s z).1]
  | [], t => rfl
  | a :: l, t => by
    show (doo t a s z).1 :: says (doo t a s z).2 s z (l ++ [o]) = (doo t a s z).1 :: says (doo t a s z).2 s z l ++ [(doo (after (doo t a s z).2 s z l) o s z).1]
    rw [says_snoc (l := l) (t := (doo t a s z).2)]
    rfl
theorem says_len : ∀ {l : List O} {t : Tr}, (says t s z l).length = l.length
  | [], _ => rfl
  | a :: l, t => by
    show (says (doo t a s z).2 s z l).length + 1 = l.length + 1
    rw [says_len (l := l)]
theorem bad_none : ∀ {l : List O} {t : Tr}, bad t s z l = none → (doo (after t s z l) o s z).1.err = 0 → bad t s z (l ++ [o]) = none
  | [], t, _, h => by
    show (if (doo t o s z).1.err ≠ 0 then some (0, (doo t o s z).1.err) else (none : Option (Nat × Int)).map fun k => (k.1 + 1, k.2)) = none
    have h2 : (doo t o s z).1.err = 0 := h
    rw [if_neg (by simp [h2])]
    rfl
  | a :: l, t, h, h2 => by
    have e1 : bad t s z (a :: l) = if (doo t a s z).1.err ≠ 0 then some (0, (doo t a s z).1.err) else (bad (doo t a s z).2 s z l).map fun k => (k.1 + 1, k.2) := rfl
    have e2 : bad t s z (a :: l ++ [o]) = if (doo t a s z).1.err ≠ 0 then some (0, (doo t a s z).1.err) else (bad (doo t a s z).2 s z (l ++ [o])).map fun k => (k.1 + 1, k.2) := rfl
    rw [e1] at h
    rw [e2]
    by_cases he : (doo t a s z).1.err ≠ 0
    · rw [if_pos he] at h
      cases h
    · rw [if_neg he] at h ⊢
      rw [Option.map_eq_none_iff] at h
      rw [bad_none h h2]
      rfl
theorem bad_some : ∀ {l : List O} {t : Tr}, bad t s z l = none → (doo (after t s z l) o s z).1.err ≠ 0 → ∀ r, bad t s z (l ++ o :: r) = some (l.length, (doo (after t s z l) o s z).1.err)
  | [], t, _, h, r => by
    show (if (doo t o s z).1.err ≠ 0 then some (0, (doo t o s z).1.err) else _) = _
    have h2 : (doo t o s z).1.err ≠ 0 := h
    rw [if_pos h2]
    rfl
  | a :: l, t, h, h2, r => by
    have e1 : bad t s z (a :: l) = if (doo t a s z).1.err ≠ 0 then some (0, (doo t a s z).1.err) else (bad (doo t a s z).2 s z l).map fun k => (k.1 + 1, k.2) := rfl
    have e2 : bad t s z (a :: l ++ o :: r) = if (doo t a s z).1.err ≠ 0 then some (0, (doo t a s z).1.err) else (bad (doo t a s z).2 s z (l ++ o :: r)).map fun k => (k.1 + 1, k.2) := rfl
    rw [e1] at h
    rw [e2]
    by_cases he : (doo t a s z).1.err ≠ 0
    · rw [if_pos he] at h
      cases h
    · rw [if_neg he] at h ⊢
      rw [Option.map_eq_none_iff] at h
      rw [bad_some h h2 r]
      rfl
theorem few_after : ∀ {l : List O} {t : Tr} {n : Nat}, Few t n → Few (after t s z l) (n + l.length)
  | [], _, _, h => h
  | a :: l, t, n, h => by
    have := few_after (l := l) (few_doo (o := a) (s := s) (z := z) h)
    rw [show n + (a :: l).length = n + 1 + l.length by simp; omega]
    exact this
theorem fine_after : ∀ {l : List O} {t : Tr} {n : Nat}, Fine11 t → Few t n → n + l.length ≤ 899 → Fine11 (after t s z l)
  | [], _, _, h, _, _ => h
  | a :: l, t, n, h, hk, hn => by
    simp only [List.length_cons] at hn
    exact fine_after (l := l) (fine_doo h (hk.more (by omega))) (few_doo hk) (by omega)
theorem turn_some (h : bad t s z os = some k) : turn t s z os = ((Rq.fail 0 k.2 (k.1 : Int) (os.length : Int), false), after t s z (os.take k.1)) := by unfold turn; rw [h]
theorem turn_none (h : bad t s z os = none) : turn t s z os = ((⟨0, z, 0, -1, says t s z os⟩, true), after t s z os) := by unfold turn; rw [h]
theorem bad_lt : ∀ {l : List O} {t : Tr} {k : Nat × Int}, bad t s z l = some k → k.1 < l.length ∧ k.2 ≠ 0
  | [], _, _, h => by cases h
  | a :: l, t, k, h => by
    have e1 : bad t s z (a :: l) = if (doo t a s z).1.err ≠ 0 then some (0, (doo t a s z).1.err) else (bad (doo t a s z).2 s z l).map fun k => (k.1 + 1, k.2) := rfl
    rw [e1] at h
    split at h
    · rename_i he
      rw [← Option.some.inj h]
      exact ⟨by simp, he⟩
    · obtain ⟨j, hj, rfl⟩ := Option.map_eq_some_iff.1 h
      have := bad_lt hj
      exact ⟨by simp only [List.length_cons]; omega, this.2⟩
theorem many_fine {n : Nat} (h : Fine11 t) (hk : Few t n) (hn : n + os.length ≤ 899) : Fine11 (many t s z os).2 := by
  unfold many
  split
  · exact h
  split
  · exact h
  simp only []
  split
  · unfold turn
    split
    · rename_i k _
      have h1 : (os.take k.1).length ≤ os.length := by rw [List.length_take]; omega
      exact fine_after h hk (by omega)
    · exact fine_after h hk hn
  · exact h
theorem many_few {n : Nat} (hk : Few t n) : Few (many t s z os).2 (n + os.length) := by
  unfold many
  split
  · exact hk.more (by omega)
  split
  · exact hk.more (by omega)
  simp only []
  split
  · unfold turn
    split
    · rename_i k _
      have h1 : (os.take k.1).length ≤ os.length := by rw [List.length_take]; omega
      exact (few_after hk).more (by omega)
    · exact few_after hk
  · exact hk.more (by omega)
end
end Go.Proofs.YtfcbdjjbchcpjaaGreatDoor.Tq
