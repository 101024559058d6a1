/- What may be asked: plain reckoning, no program. -/
import Derived.Test.YtjimemnkmpapgaaGreatDoorOps
import Derived.Test.YtjimemnkmpapgaaGreatDoorLibP
import Derived.Test.YtjimemnkmpapgaaGreatDoorPl19
namespace Go.Proofs.YtjimemnkmpapgaaGreatDoor.Oq

/-- What is refused first. -/
def headB (o : O) : Bool := decide (o.kind < 1) || decide (7 < o.kind) || !Pl.goodB o.path.data.toList || decide (o.ver < -1) || decide (o.flags < 0) || decide (3 < o.flags)
/-- It has what its kind has not. -/
def hasB (o : O) : Bool := (decide (o.data.size ≠ 0) && decide (o.kind ≠ 1) && decide (o.kind ≠ 3)) || (decide (o.ver ≠ 0) && decide (o.kind ≠ 2) && decide (o.kind ≠ 3) && decide (o.kind ≠ 4)) || (decide (o.flags ≠ 0) && decide (o.kind ≠ 1))
/-- A sequential Create that may not be. -/
def seqB (o : O) : Bool := decide (o.kind = 1) && decide (2 ≤ o.flags) && (decide ((Pl.parts o.path.data.toList).length = 1) || !Pl.goodB (o.path.data.toList ++ Pl.dig10 0))
/-- Good: its error. -/
def good (o : O) : Int := if headB o then 1 else if 1000 < o.data.size then 2 else if hasB o then 1 else if seqB o then 1 else 0

/-- The first error. -/
def firstBad : List O → Int
  | [] => 0
  | o :: os => if good o = 0 then firstBad os else good o
/-- May: its error. -/
def may (s n : Int) (os : List O) : Int :=
  if s < 1 ∨ n < 1 ∨ os.length = 0 then 1 else if 16 < os.length then 2 else if firstBad os ≠ 0 then firstBad os else if 1 < os.length ∧ os.any (fun o => decide (5 ≤ o.kind)) = true then 1 else 0
/-- One Op's bytes. -/
def obytes (o : O) : List UInt8 := Pk.be8 o.kind ++ Pk.txt o.path.data.toList ++ Pk.txt o.data.data.toList ++ Pk.be8 o.ver ++ Pk.be8 o.flags
def bytes (s n : Int) (os : List O) : List UInt8 := Pk.be8 s ++ Pk.be8 n ++ Pk.be8 (os.length : Int) ++ os.flatMap obytes
/-- Put. -/
def put (s n : Int) (os : List O) : List UInt8 := if may s n os = 0 then bytes s n os else []
def writes (os : List O) : Bool := os.any fun o => decide (o.kind = 1) || decide (o.kind = 2) || decide (o.kind = 3)

theorem firstBad_app (a b : List O) (h : firstBad a = 0) : firstBad (a ++ b) = firstBad b := by
  induction a with
  | nil => rfl
  | cons o a ih =>
    simp only [firstBad, List.cons_append] at h ⊢
    split at h
    · rename_i h0
      rw [if_pos h0]
      exact ih h
    · rename_i h0
      exact absurd h h0

theorem firstBad_take {os : List O} {k : Nat} {o : O} (h : os[k]? = some o) (h0 : firstBad (os.take k) = 0) : (good o ≠ 0 → firstBad os = good o) ∧ (good o = 0 → firstBad (os.take (k + 1)) = 0) := by
  have hk : k < os.length := (List.getElem?_eq_some_iff.1 h).1
  constructor
  · intro hg
    have e : os = os.take k ++ o :: os.drop (k + 1) := by
      have h1 := List.take_append_drop k os
      rw [List.drop_eq_getElem_cons hk, (List.getElem?_eq_some_iff.1 h).2] at h1
      exact h1.symm
    rw [e, firstBad_app _ _ h0, firstBad, if_neg hg]
  · intro hg
    rw [List.take_add_one, h, firstBad_app _ _ h0]
    simp [firstBad, hg]

theorem good_head {o : O} (h : headB o = true) : good o = 1 := by unfold good; rw [if_pos h]
theorem good_long {o : O} (h : headB o = false) (hd : 1000 < o.data.size) : good o = 2 := by unfold good; rw [h, if_pos hd]; rfl
theorem good_has {o : O} (h : headB o = false) (hd : ¬ 1000 < o.data.size) (h2 : hasB o = true) : good o = 1 := by unfold good; rw [h, if_neg hd, h2]; rfl
theorem good_seq {o : O} (h : headB o = false) (hd : ¬ 1000 < o.data.size) (h2 : hasB o = false) : good o = if seqB o then 1 else 0 := by unfold good; rw [h, if_neg hd, h2]; rfl

theorem head_no {o : O} (h : headB o = false) : 1 ≤ o.kind ∧ o.kind ≤ 7 ∧ Pl.goodB o.path.data.toList = true ∧ -1 ≤ o.ver ∧ 0 ≤ o.flags ∧ o.flags ≤ 3 := by
  unfold headB at h
  simp only [Bool.or_eq_false_iff, decide_eq_false_iff_not, Bool.not_eq_false'] at h
  exact ⟨by omega, by omega, h.1.1.1.2, by omega, by omega, by omega⟩

/-- 'o.Flags & 2'. -/
theorem and2 (f : Int) (h0 : 0 ≤ f) (h3 : f ≤ 3) : bits .and .i64 f 2 = if 2 ≤ f then 2 else 0 := by
  have h : f = 0 ∨ f = 1 ∨ f = 2 ∨ f = 3 := by omega
  rcases h with rfl | rfl | rfl | rfl <;> decide
end Go.Proofs.YtjimemnkmpapgaaGreatDoor.Oq
