/- What a call changes, told by blocks. -/
import Derived.Test.YtadgjinlblloiaaDoorBase
namespace Go.Proofs.YtadgjinlblloiaaDoor
open Go.RowKit

/-- What is changed lies in the blocks F, or is new; what F has become. -/
structure Moved (w w' : World) (F F' : Nat → Prop) : Prop where
  os : w'.os = w.os
  tape : w'.tape = w.tape
  output : w'.output = w.output
  size : w.heap.size ≤ w'.heap.size
  block : ∀ k, k < w.heap.size → ¬ F k → w'.heap[k]? = w.heap[k]?
  sub : ∀ k, F' k → F k ∨ w.heap.size ≤ k

theorem Moved.refl (w : World) (F : Nat → Prop) : Moved w w F F := ⟨rfl, rfl, rfl, Nat.le_refl _, fun _ _ _ => rfl, fun _ h => Or.inl h⟩
theorem Moved.of_below {w w' : World} (F : Nat → Prop) (h : Below w.heap.size w w') : Moved w w' F F := ⟨h.os, h.tape, h.output, h.size, fun k hk _ => h.block k hk, fun _ h => Or.inl h⟩
theorem Moved.below {w w' : World} {F F' : Nat → Prop} {B : Nat} (h : Moved w w' F F') (hB : B ≤ w.heap.size) (hF : ∀ k, F k → B ≤ k) : Below B w w' :=
  ⟨h.os, h.tape, h.output, h.size, fun k hk => h.block k (by omega) (fun e => by have := hF k e; omega)⟩

theorem Moved.trans {w w1 w2 : World} {F F1 F2 : Nat → Prop} (h : Moved w w1 F F1) (k : Moved w1 w2 F1 F2) : Moved w w2 F F2 := by
  have hs := h.size
  refine ⟨k.os.trans h.os, k.tape.trans h.tape, k.output.trans h.output, Nat.le_trans h.size k.size, fun j hj hF => ?_, fun j hj => ?_⟩
  · refine (k.block j (by omega) (fun e => ?_)).trans (h.block j hj hF)
    rcases h.sub j e with h1 | h1
    · exact hF h1
    · omega
  · rcases k.sub j hj with h1 | h1
    · exact h.sub j h1
    · exact Or.inr (by omega)

/-- Bytes that lie elsewhere. -/
theorem Bs.moved {w w' : World} {F F' : Nat → Prop} {v : Value} {xs : List UInt8} (h : Bs w v xs) (hm : Moved w w' F F') (ha : 0 < xs.length → ∀ k, v.ownBlock = some k → ¬ F k) : Bs w' v xs := by
  obtain ⟨ao, n, c, rfl, hn, hs⟩ := h
  refine ⟨ao, n, c, rfl, hn, hs.cap, hs.nil, fun ad had j u hu => ?_⟩
  have hc := hs.cells ad had j u hu
  have h0 : 0 < xs.length := by
    have := (List.getElem?_eq_some_iff.1 hu).1
    rw [bc_len] at this
    omega
  have hb : (ad.add j).block = ad.block := by simp only [Addr.add]; split <;> rfl
  have hlt := World.block_lt_of_cell? w _ hc
  refine (World.cell?_of_block (hm.block _ hlt (ha h0 _ ?_))).trans hc
  rw [hb, had]
  rfl

/-- A pointer to a block. -/
abbrev dptr (q : Nat) : Value := .pointer (some ⟨q, 0, none⟩)

/-- Bytes that lie apart from blocks. -/
def Apart (F : Nat → Prop) (v : Value) (xs : List UInt8) : Prop := 0 < xs.length → ∀ k, v.ownBlock = some k → ¬ F k
end Go.Proofs.YtadgjinlblloiaaDoor
