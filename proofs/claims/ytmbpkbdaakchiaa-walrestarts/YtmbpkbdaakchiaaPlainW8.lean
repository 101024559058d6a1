/- A log of records on a disk: plain reckoning, no program. -/
import Derived.Test.YtmbpkbdaakchiaaPlainD7
import Derived.Test.YtmbpkbdaakchiaaPlainG
namespace Go.Proofs.Ytmbpkbdaakchiaa.Wq

def logN : ByteArray := ⟨#[108, 111, 103]⟩
def baseN : ByteArray := ⟨#[98, 97, 115, 101]⟩
def newN : ByteArray := ⟨#[98, 97, 115, 101, 46, 110, 101, 119]⟩

/-- A log: its first record's number, its records; how often its disk had come on when it was opened; is it done? -/
structure Lg where
  first : Int
  recs : List (List UInt8)
  lives : Nat
  done : Bool

/-- Does it answer no more? -/
def off (g : Lg) (st : Dq.St) : Bool := g.done || st.off || decide (st.lives ≠ g.lives)

/-- The number that the base tells; none: it has no form. -/
def base (st : Dq.St) : Option Int :=
  if (Dq.read st baseN).2 = 0 then
    (if (Fr.scan (Dq.read st baseN).1).2.2 = 0 then
      match (Fr.scan (Dq.read st baseN).1).1 with
      | [r] => if r.length = 8 ∧ 1 ≤ (Pk.rI r false).1 ∧ (Pk.rI r false).1 ≤ 1099511627776 then some (Pk.rI r false).1 else none
      | _ => none
    else none)
  else some 1

def opn (st : Dq.St) : Int × Option Lg × Dq.St :=
  if st.off then (10, none, st) else
  match base st with
  | none => (3, none, st)
  | some n =>
    if (Dq.read st logN).2 ≠ 0 then (0, some ⟨n, [], st.lives, false⟩, st)
    else if (Fr.scan (Dq.read st logN).1).2.2 = 2 then (3, none, st)
    else (0, some ⟨n, (Fr.scan (Dq.read st logN).1).1, st.lives, false⟩, if (Fr.scan (Dq.read st logN).1).2.2 = 1 then (Dq.cut st logN (Fr.scan (Dq.read st logN).1).2.1).2 else st)

def add (g : Lg) (st : Dq.St) (r : List UInt8) : Int × Lg × Dq.St :=
  if off g st then (10, { g with done := true }, st)
  else if 20000 < r.length then (2, g, st)
  else if (Dq.append st logN (Fr.frame r)).1 = 0 then (0, { g with recs := g.recs ++ [r] }, (Dq.append st logN (Fr.frame r)).2)
  else ((Dq.append st logN (Fr.frame r)).1, { g with done := true }, (Dq.append st logN (Fr.frame r)).2)

def sync (g : Lg) (st : Dq.St) : Int × Lg × Dq.St :=
  if off g st then (10, { g with done := true }, st) else (0, g, (Dq.sync st logN).2)

def next (g : Lg) : Int := g.first + g.recs.length

def at_ (g : Lg) (st : Dq.St) (n : Int) : List UInt8 × Int × Lg :=
  if off g st then ([], 10, { g with done := true })
  else if n < g.first ∨ (g.recs.length : Int) ≤ n - g.first then ([], 4, g)
  else ((g.recs[(n - g.first).toNat]?).getD [], 0, g)

def cutTo (g : Lg) (st : Dq.St) (n : Int) : Int × Lg × Dq.St :=
  if off g st then (10, { g with done := true }, st)
  else if n < g.first ∨ (g.recs.length : Int) < n - g.first then (1, g, st)
  else if n = next g then (0, g, st)
  else if (Dq.cut st logN ((Fr.frames (g.recs.take (n - g.first).toNat)).length : Int)).1 = 0 then
    (0, { g with recs := g.recs.take (n - g.first).toNat }, (Dq.cut st logN ((Fr.frames (g.recs.take (n - g.first).toNat)).length : Int)).2)
  else ((Dq.cut st logN ((Fr.frames (g.recs.take (n - g.first).toNat)).length : Int)).1, { g with done := true }, (Dq.cut st logN ((Fr.frames (g.recs.take (n - g.first).toNat)).length : Int)).2)

/-- What Restart does to the disk ahead of the base's writing. -/
def wiped (st : Dq.St) : Dq.St := (Dq.drop (Dq.cut st logN 0).2 newN).2
def based (st : Dq.St) (n : Int) : Int × Dq.St := Dq.append (wiped st) newN (Fr.frame (Pk.be8 n))

def restart (g : Lg) (st : Dq.St) (n : Int) : Int × Lg × Dq.St :=
  if off g st then (10, { g with done := true }, st)
  else if n < 1 ∨ 1099511627776 < n then (1, g, st)
  else if (based st n).1 = 0 then (0, { g with first := n, recs := [] }, (Dq.rename (Dq.sync (based st n).2 newN).2 newN baseN).2)
  else ((based st n).1, { g with done := true }, (based st n).2)

/-- Two logs that answer alike over a disk. -/
structure Like (a b : Lg) (st : Dq.St) : Prop where
  first : a.first = b.first
  recs : a.recs = b.recs
  lives : a.lives = b.lives
  off : off a st = off b st

theorem Like.refl (a : Lg) (st : Dq.St) : Like a a st := ⟨rfl, rfl, rfl, rfl⟩
theorem off_done {g : Lg} {st : Dq.St} (h : off g st = false) : g.done = false := by
  unfold off at h
  cases hd : g.done with
  | false => rfl
  | true => rw [hd] at h; simp at h
/-- A log that answers is the very one. -/
theorem Like.eq {a b : Lg} {st : Dq.St} (h : Like a b st) (ho : Wq.off b st = false) : a = b := by
  have h1 := off_done ho
  have h2 := off_done (h.off.trans ho)
  cases a
  cases b
  simp only [Lg.mk.injEq]
  exact ⟨h.first, h.recs, h.lives, h2.trans h1.symm⟩
theorem Like.trans {a b c : Lg} {st : Dq.St} (h : Like a b st) (k : Like b c st) : Like a c st := ⟨h.first.trans k.first, h.recs.trans k.recs, h.lives.trans k.lives, h.off.trans k.off⟩
theorem off_true (g : Lg) (st : Dq.St) : off { g with done := true } st = true := by unfold off; simp
theorem off_iff {g : Lg} {st : Dq.St} : off g st = false ↔ g.done = false ∧ st.off = false ∧ st.lives = g.lives := by
  unfold off
  cases g.done <;> cases st.off <;> simp

theorem Like.add {a b : Lg} {st : Dq.St} (h : Like a b st) (r : List UInt8) : (add a st r).1 = (add b st r).1 ∧ (add a st r).2.2 = (add b st r).2.2 ∧ Like (add a st r).2.1 (add b st r).2.1 (add b st r).2.2 := by
  cases ho : Wq.off b st with
  | false =>
    rw [h.eq ho]
    exact ⟨rfl, rfl, Like.refl _ _⟩
  | true =>
    have ha := h.off.trans ho
    unfold Wq.add
    rw [if_pos ho, if_pos ha]
    exact ⟨rfl, rfl, h.first, h.recs, h.lives, by simp [Wq.off]⟩
theorem Like.sync {a b : Lg} {st : Dq.St} (h : Like a b st) : (sync a st).1 = (sync b st).1 ∧ (sync a st).2.2 = (sync b st).2.2 ∧ Like (sync a st).2.1 (sync b st).2.1 (sync b st).2.2 := by
  cases ho : Wq.off b st with
  | false =>
    rw [h.eq ho]
    exact ⟨rfl, rfl, Like.refl _ _⟩
  | true =>
    have ha := h.off.trans ho
    unfold Wq.sync
    rw [if_pos ho, if_pos ha]
    exact ⟨rfl, rfl, h.first, h.recs, h.lives, by simp [Wq.off]⟩
theorem Like.at_ {a b : Lg} {st : Dq.St} (h : Like a b st) (n : Int) : (at_ a st n).1 = (at_ b st n).1 ∧ (at_ a st n).2.1 = (at_ b st n).2.1 ∧ Like (at_ a st n).2.2 (at_ b st n).2.2 st := by
  cases ho : Wq.off b st with
  | false =>
    rw [h.eq ho]
    exact ⟨rfl, rfl, Like.refl _ _⟩
  | true =>
    have ha := h.off.trans ho
    unfold Wq.at_
    rw [if_pos ho, if_pos ha]
    exact ⟨rfl, rfl, h.first, h.recs, h.lives, by simp [Wq.off]⟩
theorem Like.cutTo {a b : Lg} {st : Dq.St} (h : Like a b st) (n : Int) : (cutTo a st n).1 = (cutTo b st n).1 ∧ (cutTo a st n).2.2 = (cutTo b st n).2.2 ∧ Like (cutTo a st n).2.1 (cutTo b st n).2.1 (cutTo b st n).2.2 := by
  cases ho : Wq.off b st with
  | false =>
    rw [h.eq ho]
    exact ⟨rfl, rfl, Like.refl _ _⟩
  | true =>
    have ha := h.off.trans ho
    unfold Wq.cutTo
    rw [if_pos ho, if_pos ha]
    exact ⟨rfl, rfl, h.first, h.recs, h.lives, by simp [Wq.off]⟩
theorem Like.restart {a b : Lg} {st : Dq.St} (h : Like a b st) (n : Int) : (restart a st n).1 = (restart b st n).1 ∧ (restart a st n).2.2 = (restart b st n).2.2 ∧ Like (restart a st n).2.1 (restart b st n).2.1 (restart b st n).2.2 := by
  cases ho : Wq.off b st with
  | false =>
    rw [h.eq ho]
    exact ⟨rfl, rfl, Like.refl _ _⟩
  | true =>
    have ha := h.off.trans ho
    unfold Wq.restart
    rw [if_pos ho, if_pos ha]
    exact ⟨rfl, rfl, h.first, h.recs, h.lives, by simp [Wq.off]⟩
/-- The disk's power goes and comes: a log that was opened before answers no more. -/
theorem Like.crash {a b : Lg} {st : Dq.St} (h : Like a b st) (k : Int) : Like a b (Dq.crash st k) := ⟨h.first, h.recs, h.lives, by simp [Wq.off, Dq.crash]⟩
end Go.Proofs.Ytmbpkbdaakchiaa.Wq
