/- What the landed network's small calls answer. -/
import Derived.Test.YtkldecdjokfajaaNt9
import Derived.BigQuiet
import Derived.Deep.QuietTactic
import Derived.BigRegion
import Derived.Laws.ResultCell
namespace Go.Proofs.Ytkldecdjokfajaa
open Go.RowKit

theorem results_one9 {fn : Func} {p : Tmp} {ty : TypeId} (h : fn.results = #[.cell p ty]) (tmps : Array Value) (P : Program) (w : World) :
    (results fn tmps).run P w = ((asAddr (tmps.getD p undef)).run P w).andThen fun a w₁ => (loadVar ty a).run P w₁ := by
  simp only [results, h]
  simp [Sem.run_bind, Result.andThen]

set_option maxRecDepth 20000 in
set_option maxHeartbeats 1000000 in
theorem isNode_any9 {w : World} {q : Nat} {nodes : Nat} {cs : List Value} (k : Int) (h : Nk w q (.int .i64 (nodes : Int) :: cs) 61) :
    Calls Try.prog 32 #[dptr q, .int .i64 k] w fun e w' => e = .returned (.bool (decide (0 ≤ k) && decide (k < (nodes : Int)))) ∧ w' = w := by
  have l0 : w.cell? ⟨q, 0, none⟩ = some (.int .i64 (nodes : Int)) := h.cell 0
  clear h
  by_cases h1 : 0 ≤ k
  · have b1 : decide (0 ≤ k) = true := decide_eq_true h1
    by_cases h2 : k < (nodes : Int)
    · rw [b1, decide_eq_true h2]
      go_enter Try.func32, Try.ntmps32
      go_wp2
      go_ret
      exact ⟨rfl, rfl⟩
    · rw [b1, decide_eq_false h2]
      go_enter Try.func32, Try.ntmps32
      go_wp2
      go_ret
      exact ⟨rfl, rfl⟩
  · have b1 : decide (0 ≤ k) = false := decide_eq_false h1
    rw [b1]
    go_enter Try.func32, Try.ntmps32
    go_wp2
    go_ret
    exact ⟨rfl, rfl⟩

set_option maxRecDepth 20000 in
set_option maxHeartbeats 1000000 in
theorem has_any9 {w : World} {q m c : Nat} {x y z : Value} {a : Option Addr} (k : Int) (h : Nk w q [x, y, .slice a m c, z] 61) :
    Calls Try.prog 28 #[dptr q, .int .i64 k] w fun e w' => e = .returned (.bool (decide (0 ≤ k) && decide (k < (m : Int)))) ∧ w' = w := by
  have l0 : w.cell? ⟨q, 2, none⟩ = some (.slice a m c) := h.cell 2
  clear h
  by_cases h1 : 0 ≤ k
  · have b1 : decide (0 ≤ k) = true := decide_eq_true h1
    by_cases h2 : k < (m : Int)
    · rw [b1, decide_eq_true h2]
      go_enter Try.func28, Try.ntmps28
      go_wp2
      go_ret
      exact ⟨rfl, rfl⟩
    · rw [b1, decide_eq_false h2]
      go_enter Try.func28, Try.ntmps28
      go_wp2
      go_ret
      exact ⟨rfl, rfl⟩
  · have b1 : decide (0 ≤ k) = false := decide_eq_false h1
    rw [b1]
    go_enter Try.func28, Try.ntmps28
    go_wp2
    go_ret
    exact ⟨rfl, rfl⟩

set_option maxRecDepth 20000 in
set_option maxHeartbeats 1000000 in
theorem hasRoom_any9 {w : World} {q m c room : Nat} {x z : Value} {a : Option Addr} (h : Nk w q [x, .int .i64 (room : Int), .slice a m c, z] 61) :
    Calls Try.prog 26 #[dptr q] w fun e w' => e = .returned (.bool (decide (m < room))) ∧ Below w.heap.size w w' := by
  have l0 : w.cell? ⟨q, 2, none⟩ = some (.slice a m c) := h.cell 2
  have l1 : w.cell? ⟨q, 1, none⟩ = some (.int .i64 (room : Int)) := h.cell 1
  clear h
  go_enter Try.func26, Try.ntmps26
  go_wp2_with fail
  go_quiet (fail)
  clear l0 l1
  go_wp2
  go_ret
  exact ⟨rfl, below_drewN (Below.refl _ w) _⟩

set_option maxRecDepth 20000 in
set_option maxHeartbeats 1000000 in
theorem len_any9 {w : World} {q m c : Nat} {x y z : Value} {a : Option Addr} (h : Nk w q [x, y, .slice a m c, z] 61) :
    Calls Try.prog 14 #[dptr q] w fun e w' => e = .returned (.int .i64 (m : Int)) ∧ Below w.heap.size w w' := by
  have l0 : w.cell? ⟨q, 2, none⟩ = some (.slice a m c) := h.cell 2
  clear h
  go_enter Try.func14, Try.ntmps14
  go_wp2
  go_ret
  exact ⟨rfl, Below.refl _ _⟩

set_option maxRecDepth 20000 in
set_option maxHeartbeats 1000000 in
theorem between_any9 (a b : Int) (w : World) :
    Calls Try.prog 33 #[.int .i64 a, .int .i64 b] w fun e w' => e = .returned (wv (min a b) (max a b)) ∧ Below w.heap.size w w' := by
  go_enter Try.func33, Try.ntmps33
  go_wp2
  · have e : wv (min a b) (max a b) = .agg #[.int .i64 b, .int .i64 a] := by unfold wv; rw [show min a b = b by omega, show max a b = a by omega]
    rw [e]
    refine bodyPost_ret (v := .agg #[.int .i64 b, .int .i64 a]) ?_ rfl ⟨rfl, (Below.refl _ w).alloc (Nat.le_refl _) _⟩
    rw [results_one9 rfl]
    go_simp
  · have e : wv (min a b) (max a b) = .agg #[.int .i64 a, .int .i64 b] := by unfold wv; rw [show min a b = a by omega, show max a b = b by omega]
    rw [e]
    refine bodyPost_ret (v := .agg #[.int .i64 a, .int .i64 b]) ?_ rfl ⟨rfl, (Below.refl _ w).alloc (Nat.le_refl _) _⟩
    rw [results_one9 rfl]
    go_simp
  · have e : wv (min a b) (max a b) = .agg #[.int .i64 a, .int .i64 a] := by unfold wv; rw [show min a b = a by omega, show max a b = a by omega]
    rw [e]
    refine bodyPost_ret (v := .agg #[.int .i64 a, .int .i64 a]) ?_ rfl ⟨rfl, (Below.refl _ w).alloc (Nat.le_refl _) _⟩
    rw [results_one9 rfl]
    go_simp
end Go.Proofs.Ytkldecdjokfajaa
