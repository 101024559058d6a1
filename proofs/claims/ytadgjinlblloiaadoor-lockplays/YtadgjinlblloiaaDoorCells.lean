/- A block of cells, whole. -/
import Derived.Test.YtadgjinlblloiaaDoorBase
import Derived.Test.YtadgjinlblloiaaDoorMoved
namespace Go.Proofs.YtadgjinlblloiaaDoor
open Go.RowKit

def Cb (w : World) (k : Nat) (cs : List Value) (t : TypeId) : Prop := w.heap[k]? = some (.cells cs.toArray t (0, 0))
section
variable {w w' : World} {k : Nat} {cs : List Value} {t : TypeId}
theorem Cb.cell (h : Cb w k cs t) (i : Nat) : w.cell? ⟨k, i, none⟩ = cs[i]? := by
  unfold Cb at h
  simp [World.cell?, h]
theorem Cb.free (h : Cb w k cs t) (i : Nat) : w.frozen? ⟨k, i, none⟩ = false := by
  unfold Cb at h
  simp only [World.frozen?, h]
  rfl
theorem Cb.lt (h : Cb w k cs t) : k < w.heap.size := (Array.getElem?_eq_some_iff.1 h).1
theorem Cb.set (h : Cb w k cs t) (i : Nat) (u : Value) : Cb (w.setCell ⟨k, i, none⟩ u) k (cs.set i u) t := by
  unfold Cb at h ⊢
  simp [World.setCell, Array.getElem?_modify, h]
theorem Cb.keep (h : Cb w k cs t) (hk : w'.heap[k]? = w.heap[k]?) : Cb w' k cs t := hk.trans h
theorem Cb.below (h : Cb w k cs t) (hb : Below w.heap.size w w') : Cb w' k cs t := h.keep (hb.block k h.lt)
theorem Cb.made (w : World) (cs : List Value) (t : TypeId) : Cb (w.alloc (.cells cs.toArray t)) w.heap.size cs t := heap_alloc_new w _
theorem row_in {B n s j : Nat} {v : Value} {us : List Value} (h : w.ownsRow B t s v n us) (hk : v.ownBlock = some j) : ∃ cur, w.heap[j]? = some (.cells cur t (0, 0)) := by
  rcases h.2 with ⟨rfl, _⟩ | ⟨g, cap, cur, rfl, _, hg, _⟩
  · cases hk
  · simp only [Value.ownBlock, Option.some.injEq] at hk
    subst hk
    exact ⟨cur, hg⟩
/-- A row lies elsewhere than a block of another kind. -/
theorem Cb.apart {t' : TypeId} (hp : Cb w k cs t) {B n s : Nat} {u : Value} {xs : List Value} (hu : w.ownsRow B t' s u n xs) (ht : t' ≠ t) : u.ownBlock ≠ some k := fun e => by
  obtain ⟨cur, hc⟩ := row_in hu e
  unfold Cb at hp
  rw [hp] at hc
  simp only [Option.some.injEq, Obj.cells.injEq] at hc
  exact ht hc.2.1.symm
theorem row_stays {B n s : Nat} {v : Value} {us : List Value} (h : w.ownsRow B t s v n us) (hk : ∀ k, v.ownBlock = some k → w'.heap[k]? = w.heap[k]?) : w'.ownsRow B t s v n us := by
  refine ⟨h.1, ?_⟩
  rcases h.2 with h1 | ⟨g, cap, cur, e, h1, h2, h3⟩
  · exact Or.inl h1
  · exact Or.inr ⟨g, cap, cur, e, h1, by rw [hk g (by rw [e]; rfl)]; exact h2, h3⟩
theorem row_form {B n s : Nat} {v : Value} {us : List Value} (h : w.ownsRow B t s v n us) : ∃ a c, v = .slice a n c ∧ n ≤ c ∧ (0 < n → ∃ g, a = some ⟨g, 0, none⟩) := by
  rcases h.2 with ⟨rfl, rfl⟩ | ⟨g, cap, cur, rfl, _, _, hn, _⟩
  · exact ⟨_, _, rfl, Nat.le_refl _, fun h => absurd h (by decide)⟩
  · exact ⟨_, _, rfl, hn, fun _ => ⟨g, rfl⟩⟩
end
end Go.Proofs.YtadgjinlblloiaaDoor
