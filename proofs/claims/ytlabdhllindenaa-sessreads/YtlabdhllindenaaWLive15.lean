/- find and Live. -/
import Derived.Test.YtlabdhllindenaaWFind15
namespace Go.Proofs.Ytlabdhllindenaa
open Go.RowKit

set_option maxRecDepth 20000 in
set_option maxHeartbeats 4000000 in
theorem find_any15 (q : Nat) (s : Sq.St) (v : Value) (m id : Int) (w : World) (h : Ls15 w q s v) (hf : Sq.Fine m s) :
    Calls Try.prog 30 #[dptr q, .int .i64 id] w fun e w' => e = .returned (.tuple #[.int .i64 (Sq.pos s.l id : Int), .bool (Sq.has s.l id)]) ∧ Below w.heap.size w w' := by
  obtain ⟨N, hN⟩ : ∃ N, N = s.l.length := ⟨_, rfl⟩
  have hr := h.row
  rw [← hN] at hr
  have HS : Hid (Calls Try.prog 43 #[v, .int .i64 id, (Value.func (.func 44) #[] #[])] w fun e w' => e = .returned (.tuple #[.int .i64 (Sq.pos s.l id : Int), .bool (Sq.has s.l id)]) ∧ Below w.heap.size w w') := by
    rcases hr.2 with ⟨rfl, h0⟩ | ⟨g, c, cur, rfl, _⟩
    · have e : s.l = [] := List.length_eq_zero_iff.1 (by omega)
      have e1 : (Sq.pos s.l id : Int) = 0 := by rw [e]; rfl
      have e2 : Sq.has s.l id = false := by rw [e]; rfl
      rw [e1, e2]
      exact search_none15 id w
    · exact search_any15 g N c s.l id w hr hN (by rw [hN]; exact hf.len64) hf.rises
  have c3 : w.cell? ⟨q, 3, none⟩ = some v := h.blk.cell 3
  obtain ⟨a, c, rfl, _, _⟩ := row_form hr
  clear h hr hN
  unfold dptr
  go_enter Try.func30, Try.ntmps30
  go_wp2_with fail
  refine HS.out.mono ?_
  rintro e w' ⟨rfl, hb⟩
  have HB : Hid (Below w.heap.size w w') := hb
  clear hb c3
  go_wp2
  go_ret2
  exact ⟨rfl, HB.out⟩
set_option maxRecDepth 20000 in
set_option maxHeartbeats 4000000 in
theorem live_any15 (q : Nat) (s : Sq.St) (F : Nat → Prop) (m id : Int) (w : World) (hL : LSe w q s F) (hf : Sq.Fine m s) :
    Calls Try.prog 15 #[dptr q, .int .i64 id] w fun e w' => e = .returned (.bool (Sq.has s.l id)) ∧ Below w.heap.size w w' := by
  obtain ⟨v, h, rfl⟩ := hL
  have HS : Hid (Calls Try.prog 30 #[dptr q, .int .i64 id] w fun e w' => e = .returned (.tuple #[.int .i64 (Sq.pos s.l id : Int), .bool (Sq.has s.l id)]) ∧ Below w.heap.size w w') := find_any15 q s v m id w h hf
  clear h hf
  unfold dptr at *
  go_enter Try.func15, Try.ntmps15
  go_wp2_with fail
  refine HS.out.mono ?_
  rintro e w' ⟨rfl, hb⟩
  have HB : Hid (Below w.heap.size w w') := hb
  clear hb
  go_wp2
  go_ret
  exact ⟨rfl, HB.out⟩
end Go.Proofs.Ytlabdhllindenaa
