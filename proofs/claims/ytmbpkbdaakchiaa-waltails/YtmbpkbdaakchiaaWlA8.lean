/- What the landed log's small calls answer: isDone, fail, ifThere, First, Next. -/
import Derived.Test.YtmbpkbdaakchiaaWl8
namespace Go.Proofs.Ytmbpkbdaakchiaa
open Go.RowKit

theorem log_size : Wq.logN.size ≤ 9223372036854775807 := by decide

set_option maxRecDepth 20000 in
set_option maxHeartbeats 1000000 in
theorem lives_same (q n : Nat) (w : World) (c4 : w.cell? ⟨q, 4, none⟩ = some (.int .i64 (n : Int))) :
    Calls Try.prog 26 #[dptr q] w fun e w' => e = .returned (.int .i64 (n : Int)) ∧ w' = w := by
  go_enter Try.func26, Try.ntmps26
  go_wp2
  go_ret
  exact ⟨rfl, rfl⟩

/-- Is it done, by what it knows? -/
def dn (g : Wq.Lg) (st : Dq.St) : Bool := g.done || decide (st.lives ≠ g.lives)
theorem dn_on {g : Wq.Lg} {st : Dq.St} (h : st.off = false) : dn g st = Wq.off g st := by unfold dn Wq.off; rw [h, Bool.or_false]
theorem dn_off {g : Wq.Lg} {st : Dq.St} (h : dn g st = true) : Wq.off g st = true := by
  unfold dn at h
  unfold Wq.off
  cases h1 : g.done <;> cases h2 : st.off <;> simp_all

set_option maxRecDepth 20000 in
set_option maxHeartbeats 2000000 in
theorem isDone_any (ql qd : Nat) (g : Wq.Lg) (st : Dq.St) (F G : Nat → Prop) (v : Value) (us : List Value) (sz : Int) (w : World) (hd : DkD w qd st F) (hg : WlU w ql qd g G v us sz) :
    Calls Try.prog 27 #[dptr ql] w fun e w' => e = .returned (.bool (dn g st)) ∧ ∃ n, w' = w.drewN n := by
  have l0 : w.cell? ⟨ql, 0, none⟩ = some (dptr qd) := hg.blk.cell 0
  have l1 : w.cell? ⟨ql, 1, none⟩ = some (.int .i64 (g.lives : Int)) := hg.blk.cell 1
  have l2 : w.cell? ⟨ql, 2, none⟩ = some (.bool g.done) := hg.blk.cell 2
  have HD : Hid (DkD w qd st F) := hd
  have HC : ∀ n, Hid ((w.drewN n).cell? ⟨qd, 4, none⟩ = some (.int .i64 (st.lives : Int))) := fun n => by
    obtain ⟨m, D, P, V, h⟩ := HD.out.below (below_drewN (Below.refl _ w) n)
    have h4 : (w.drewN n).cell? ⟨qd, 4, none⟩ = some (.int .i64 (st.lives : Int)) := h.blk.cell 4
    exact h4
  obtain ⟨R, hR⟩ : ∃ R, R = dn g st := ⟨_, rfl⟩
  rw [← hR]
  unfold dn at hR
  clear hd hg
  cases e1 : g.done with
  | true =>
    have HR : Hid (R = true) := by
      have h : R = true := by rw [hR, e1]; rfl
      exact h
    rw [e1] at l2
    clear hR e1
    go_enter Try.func27, Try.ntmps27
    go_wp2
    go_quiet (fail)
    go_wp2
    go_ret
    rw [HR.out]
    exact ⟨rfl, _, rfl⟩
  | false =>
    rw [e1] at l2 hR
    by_cases e3 : st.lives = g.lives
    · have HR : Hid (R = false) := by
        have h : R = false := by rw [hR, e3]; simp
        exact h
      rw [e3] at HC
      clear hR e1 e3
      go_enter Try.func27, Try.ntmps27
      go_wp2
      go_quiet (first
        | (go_at_call 26; exact Calls.quiet_of_same (lives_same qd g.lives _ (HC _).out)))
      go_wp2
      go_ret
      rw [HR.out]
      exact ⟨rfl, _, rfl⟩
    · have HR : Hid (R = true) := by
        have h : R = true := by rw [hR]; simp [e3]
        exact h
      have e4 : (((st.lives : Nat) : Int) == ((g.lives : Nat) : Int)) = false := by
        simp only [beq_eq_false_iff_ne]
        omega
      have e5 : (((st.lives : Nat) : Int) != ((g.lives : Nat) : Int)) = true := by rw [bne, e4]; rfl
      have E5 : Hid ((((st.lives : Nat) : Int) != ((g.lives : Nat) : Int)) = true) := e5
      clear hR e1 e3 e4 e5
      go_enter Try.func27, Try.ntmps27
      go_wp2
      go_quiet (first
        | (go_at_call 26; exact Calls.quiet_of_same (lives_same qd st.lives _ (HC _).out)))
      go_wp2
      go_ret
      rw [HR.out]
      exact ⟨ret_bool E5.out, _, rfl⟩

set_option maxRecDepth 20000 in
set_option maxHeartbeats 1000000 in
theorem fail_any8 (ql qd : Nat) (g : Wq.Lg) (G : Nat → Prop) (v : Value) (us : List Value) (sz z : Int) (w : World) (hg : WlU w ql qd g G v us sz) :
    Calls Try.prog 29 #[dptr ql, .int .i64 z] w fun e w' => e = .returned (.int .i64 z) ∧ w' = w.setCell ⟨ql, 2, none⟩ (.bool true) := by
  have l2 : w.cell? ⟨ql, 2, none⟩ = some (.bool g.done) := hg.blk.cell 2
  have z2 := hg.blk.free 2
  clear hg
  go_enter Try.func29, Try.ntmps29
  go_wp2
  go_ret
  exact ⟨rfl, rfl⟩

set_option maxRecDepth 20000 in
set_option maxHeartbeats 1000000 in
theorem ifThere_any (z : Int) (w : World) :
    Calls Try.prog 23 #[.int .i64 z] w fun e w' => e = .returned (.int .i64 (if z = 4 then 0 else z)) ∧ w' = w := by
  by_cases hz : z = 4
  · subst hz
    go_enter Try.func23, Try.ntmps23
    go_wp2
    go_ret
    exact ⟨rfl, rfl⟩
  · rw [if_neg hz]
    go_enter Try.func23, Try.ntmps23
    go_wp2
    go_ret
    exact ⟨rfl, rfl⟩

set_option maxRecDepth 20000 in
set_option maxHeartbeats 1000000 in
theorem first_any8 (ql qd : Nat) (g : Wq.Lg) (G : Nat → Prop) (v : Value) (us : List Value) (sz : Int) (w : World) (hg : WlU w ql qd g G v us sz) :
    Calls Try.prog 19 #[dptr ql] w fun e w' => e = .returned (.int .i64 g.first) ∧ w' = w := by
  have l3 : w.cell? ⟨ql, 3, none⟩ = some (.int .i64 g.first) := hg.blk.cell 3
  clear hg
  go_enter Try.func19, Try.ntmps19
  go_wp2
  go_ret
  exact ⟨rfl, rfl⟩

set_option maxRecDepth 20000 in
set_option maxHeartbeats 1000000 in
theorem next_any8 (ql qd : Nat) (g : Wq.Lg) (G : Nat → Prop) (v : Value) (us : List Value) (sz : Int) (w : World) (hg : WlU w ql qd g G v us sz) :
    Calls Try.prog 15 #[dptr ql] w fun e w' => e = .returned (.int .i64 (Wq.next g)) ∧ ∃ n, w' = w.drewN n := by
  have l3 : w.cell? ⟨ql, 3, none⟩ = some (.int .i64 g.first) := hg.blk.cell 3
  have l4 : w.cell? ⟨ql, 4, none⟩ = some v := hg.blk.cell 4
  obtain ⟨av, cv, rfl, _⟩ := row_slice hg.own
  obtain ⟨m, hm⟩ : ∃ m, m = g.recs.length := ⟨_, rfl⟩
  have hlo := hg.fine.lo
  have hhi := hg.fine.hi
  have hl := hg.fine.len
  have HE : Hid (Wq.next g = g.first + (m : Int)) := by
    have h : Wq.next g = g.first + (m : Int) := by rw [hm]; rfl
    exact h
  rw [HE.out]
  rw [← hm] at l4 hl
  obtain ⟨f, hf⟩ : ∃ f, f = g.first := ⟨_, rfl⟩
  rw [← hf] at l3 hlo hhi ⊢
  have hw : IntKind.wrap .i64 (f + (m : Int)) = f + (m : Int) := by rw [IntKind.wrap_i64]; omega
  clear hg hm hf
  go_enter Try.func15, Try.ntmps15
  go_wp2
  go_quiet (fail)
  go_wp2
  go_ret
  exact ⟨rfl, _, rfl⟩
end Go.Proofs.Ytmbpkbdaakchiaa
