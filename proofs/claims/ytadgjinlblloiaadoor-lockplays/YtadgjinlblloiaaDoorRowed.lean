/- A block that is written as a whole. -/
import Derived.Test.YtadgjinlblloiaaDoorCells
import Derived.Laws.Tables
import Derived.Laws.Rows
namespace Go.Proofs.YtadgjinlblloiaaDoor
open Go.RowKit
section
variable {w w' : World} {k : Nat} {cs : List Value} {t : TypeId}
theorem Cb.rowed (h : Cb w k cs t) (ds : List Value) : Cb (w.setRow k ds.toArray) k ds t := setRow_heap w k cs.toArray ds.toArray t (0, 0) h
theorem Cb.rowed_other {j : Nat} (h : Cb w k cs t) (hne : k ≠ j) (ds : Array Value) : Cb (w.setRow j ds) k cs t := h.keep (setRow_other w j k ds hne)
theorem rowed_grown (w : World) (g : Nat) (cs : Array Value) : w.grownBy (w.setRow g cs) (some g) := ⟨rfl, rfl, rfl, by simp [World.setRow], fun k _ hne => setRow_other w g k cs (fun e => hne (by rw [e]))⟩
theorem rowed_below {B : Nat} (hb : Below B w w') (hB : B ≤ w.heap.size) (hk : B ≤ k) (ds : Array Value) : Below B w (w'.setRow k ds) := hb.grown (rowed_grown w' k ds) (Nat.le_trans hB hb.size) (fun j hj => by simp at hj; omega)
end
end Go.Proofs.YtadgjinlblloiaaDoor
