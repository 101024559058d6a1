/- A network that loses: plain reckoning, no program. -/
import Derived.Test.YtkldecdjokfajaaBase
namespace Go.Proofs.Ytkldecdjokfajaa.Nq

/-- A message. -/
structure Ms where
  fr : Int
  to : Int
  kind : Int
  ns : List Int
  bs : List (List UInt8)
def Ms.zero : Ms := ⟨0, 0, 0, [], []⟩

/-- A network: how many nodes, how many may wait, what waits, which ways are cut. -/
structure Nt where
  nodes : Nat
  room : Nat
  l : List Ms
  cut : Nat → Nat → Bool

def node (n : Nt) (k : Int) : Bool := decide (0 ≤ k) && decide (k < n.nodes)
def may (n : Nt) (m : Ms) : Bool := node n m.fr && node n m.to && !n.cut m.fr.toNat m.to.toNat && decide (n.l.length < n.room)
def put (n : Nt) (m : Ms) : Nt := if may n m then { n with l := n.l ++ [m] } else n
def sent : Nt → List Ms → Nat
  | _, [] => 0
  | n, m :: ms => (if may n m then 1 else 0) + sent (put n m) ms
def puts (n : Nt) (ms : List Ms) : Nt := ms.foldl put n
def has (n : Nt) (k : Int) : Bool := decide (0 ≤ k) && decide (k < n.l.length)
def at_ (n : Nt) (k : Int) : Ms := if has n k then (n.l[k.toNat]?).getD Ms.zero else Ms.zero
def lose (n : Nt) (k : Int) : Nt := if has n k then { n with l := n.l.eraseIdx k.toNat } else n
def mayCopy (n : Nt) (k : Int) : Bool := has n k && decide (n.l.length < n.room)
def copy (n : Nt) (k : Int) : Nt := if mayCopy n k then { n with l := n.l ++ [at_ n k] } else n
def cutW (n : Nt) (a b : Int) (lost : Bool) : Nt := if node n a && node n b then { n with cut := fun x y => if (x = a.toNat ∧ y = b.toNat) ∨ (x = b.toNat ∧ y = a.toNat) then lost else n.cut x y } else n
def heal (n : Nt) : Nt := { n with cut := fun _ _ => false }
/-- What New makes. -/
def made (nodes room : Nat) : Nt := ⟨nodes, room, [], fun _ _ => false⟩

theorem node_iff {n : Nt} {k : Int} : node n k = true ↔ 0 ≤ k ∧ k < n.nodes := by unfold node; simp
theorem has_iff {n : Nt} {k : Int} : has n k = true ↔ 0 ≤ k ∧ k < n.l.length := by unfold has; simp
theorem may_iff {n : Nt} {m : Ms} : may n m = true ↔ node n m.fr = true ∧ node n m.to = true ∧ n.cut m.fr.toNat m.to.toNat = false ∧ n.l.length < n.room := by
  unfold may
  simp only [Bool.and_eq_true, Bool.not_eq_true', decide_eq_true_eq, and_assoc]
theorem put_yes {n : Nt} {m : Ms} (h : may n m = true) : put n m = { n with l := n.l ++ [m] } := by unfold put; rw [if_pos h]
theorem put_no {n : Nt} {m : Ms} (h : may n m = false) : put n m = n := by unfold put; rw [h]; rfl
theorem put_len (n : Nt) (m : Ms) : n.l.length ≤ (put n m).l.length ∧ (put n m).l.length ≤ n.l.length + 1 := by
  unfold put
  split
  · simp
  · simp
theorem put_room (n : Nt) (m : Ms) : (put n m).room = n.room ∧ (put n m).nodes = n.nodes := by
  unfold put
  split <;> exact ⟨rfl, rfl⟩
theorem put_fits {n : Nt} (m : Ms) (h : n.l.length ≤ n.room) : (put n m).l.length ≤ n.room := by
  unfold put
  split
  · rename_i hm
    have := (may_iff.1 hm).2.2.2
    simp
    omega
  · exact h
theorem sent_le : ∀ (n : Nt) (ms : List Ms), sent n ms ≤ ms.length
  | _, [] => Nat.le_refl _
  | n, m :: ms => by
    have := sent_le (put n m) ms
    unfold sent
    split <;> simp <;> omega
theorem puts_snoc (n : Nt) (ms : List Ms) (m : Ms) : puts n (ms ++ [m]) = put (puts n ms) m := by unfold puts; rw [List.foldl_append]; rfl
theorem sent_snoc : ∀ (n : Nt) (ms : List Ms) (m : Ms), sent n (ms ++ [m]) = sent n ms + (if may (puts n ms) m then 1 else 0)
  | n, [], m => by
    show (if may n m then 1 else 0) + 0 = 0 + (if may n m then 1 else 0)
    omega
  | n, x :: ms, m => by
    have h := sent_snoc (put n x) ms m
    rw [List.cons_append]
    unfold sent
    rw [h]
    show _ = _ + (if may (puts (put n x) ms) m then 1 else 0)
    omega
theorem puts_fits : ∀ (n : Nt) (ms : List Ms), n.l.length ≤ n.room → (puts n ms).l.length ≤ n.room ∧ (puts n ms).room = n.room ∧ (puts n ms).nodes = n.nodes
  | n, [], h => ⟨h, rfl, rfl⟩
  | n, m :: ms, h => by
    have h1 := put_room n m
    have h2 := puts_fits (put n m) ms (by rw [h1.1]; exact put_fits m h)
    rw [h1.1, h1.2] at h2
    exact h2
theorem at_has {n : Nt} {j : Nat} {m : Ms} (h : n.l[j]? = some m) : has n (j : Int) = true ∧ at_ n (j : Int) = m := by
  have hlt := (List.getElem?_eq_some_iff.1 h).1
  have h1 : has n (j : Int) = true := has_iff.2 ⟨by omega, by omega⟩
  refine ⟨h1, ?_⟩
  unfold at_
  rw [if_pos h1, Int.toNat_natCast, h]
  rfl
theorem at_not {n : Nt} {k : Int} (h : has n k = false) : at_ n k = Ms.zero := by unfold at_; rw [h]; rfl
theorem lose_not {n : Nt} {k : Int} (h : has n k = false) : lose n k = n := by unfold lose; rw [h]; rfl
theorem copy_not {n : Nt} {k : Int} (h : mayCopy n k = false) : copy n k = n := by unfold copy; rw [h]; rfl
end Go.Proofs.Ytkldecdjokfajaa.Nq
