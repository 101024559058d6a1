/- What Close does. -/
import Derived.Test.YtlabdhllindenaaWDel15
import Derived.Test.YtlabdhllindenaaWTouch15
namespace Go.Proofs.Ytlabdhllindenaa
open Go.RowKit

set_option maxRecDepth 20000 in
set_option maxHeartbeats 4000000 in
theorem close_no15 (q : Nat) (s : Sq.St) (F : Nat → Prop) (m id : Int) (w : World) (hL : LSe w q s F) (hf : Sq.Fine m s) (hno : Sq.has s.l id = false) :
    Calls Try.prog 16 #[dptr q, .int .i64 id] w fun e w' => ∃ F', e = .returned (.int .i64 (Sq.close s id).1) ∧ LSe w' q (Sq.close s id).2 F' ∧ Moved w w' F F' := by
  rw [Sq.close_no hno]
  have HE : Hid (∀ w', Below w.heap.size w w' → LSe w' q s F ∧ Moved w w' F F) := fun w' hb => ⟨LSe.keep hL fun k hk => hb.block k (LSe.lt hL hk), Moved.of_below _ hb⟩
  obtain ⟨v, h, rfl⟩ := hL
  have HS : Hid (Calls Try.prog 30 #[dptr q, .int .i64 id] w fun e w' => e = .returned (.tuple #[.int .i64 (Sq.pos s.l id : Int), .bool false]) ∧ Below w.heap.size w w') := by
    have := find_any15 q s v m id w h hf
    rw [hno] at this
    exact this
  clear h hf hno
  unfold dptr at *
  go_enter Try.func16, Try.ntmps16
  go_wp2_with fail
  refine HS.out.mono ?_
  rintro e w' ⟨rfl, hb⟩
  have HB : Hid (Below w.heap.size w w') := hb
  clear hb
  go_wp2
  go_ret
  have := HE.out _ HB.out
  first | exact ⟨_, rfl, this.1, this.2⟩ | exact ⟨rfl, _, this.1, this.2⟩
set_option maxRecDepth 20000 in
set_option maxHeartbeats 4000000 in
theorem close_yes15 (q : Nat) (s : Sq.St) (F : Nat → Prop) (m id : Int) (w : World) (hL : LSe w q s F) (hf : Sq.Fine m s) (hyes : Sq.has s.l id = true) :
    Calls Try.prog 16 #[dptr q, .int .i64 id] w fun e w' => ∃ F', e = .returned (.int .i64 (Sq.close s id).1) ∧ LSe w' q (Sq.close s id).2 F' ∧ Moved w w' F F' := by
  obtain ⟨x, hx, hid⟩ := (Sq.pos_has hf.rises).1 hyes
  obtain ⟨p, hp⟩ : ∃ p, p = Sq.pos s.l id := ⟨_, rfl⟩
  rw [← hp] at hx
  have HT : Hid (Sq.close s id = (0, ⟨s.room, s.now, s.next, s.l.take p ++ s.l.drop (p + 1)⟩)) := by
    have := Sq.close_at hf.rises hx
    rw [hid] at this
    exact this
  obtain ⟨v, h, rfl⟩ := hL
  have HS : Hid (Calls Try.prog 30 #[dptr q, .int .i64 id] w fun e w' => e = .returned (.tuple #[.int .i64 (p : Int), .bool true]) ∧ Below w.heap.size w w') := by
    have := find_any15 q s v m id w h hf
    rw [hyes, ← hp] at this
    exact this
  have hpl := (List.getElem?_eq_some_iff.1 hx).1
  obtain ⟨N, hN⟩ : ∃ N, N = s.l.length := ⟨_, rfl⟩
  have hr := h.row
  rw [← hN] at hr hpl
  obtain ⟨a, c, rfl, _, ha⟩ := row_form hr
  obtain ⟨g, rfl⟩ := ha (by omega)
  have hN64 : N ≤ 64 := by rw [hN]; exact hf.len64
  have hw2 : IntKind.wrap .i64 ((p : Int) + 1) = (p : Int) + 1 := by rw [IntKind.wrap_i64]; omega
  have H0 : Hid (Ls15 w q s (.slice (some ⟨g, 0, none⟩) N c) ∧ N = s.l.length ∧ p < N ∧ N ≤ 64) := ⟨h, hN, hpl, hN64⟩
  clear h hf hyes hx hid hp hr hN ha
  unfold dptr at *
  go_enter Try.func16, Try.ntmps16
  go_wp2_with fail
  refine HS.out.mono ?_
  rintro e w1 ⟨rfl, hb⟩
  have H1 : Hid (Ls15 w1 q s (.slice (some ⟨g, 0, none⟩) N c) ∧ Below w.heap.size w w1) := ⟨H0.out.1.later hb, hb⟩
  clear hb
  have c3 : w1.cell? ⟨q, 3, none⟩ = some (.slice (some ⟨g, 0, none⟩) N c) := H1.out.1.blk.cell 3
  have HD : Hid (Calls Try.prog 31 #[.slice (some ⟨g, 0, none⟩) N c, .int .i64 (p : Int), .int .i64 ((p : Int) + 1)] w1 fun e w' => e = .returned (.slice (some ⟨g, 0, none⟩) (N - 1) c) ∧ w'.ownsRow 0 58 3 (.slice (some ⟨g, 0, none⟩) (N - 1) c) (N - 1) (ocs (s.l.take p ++ s.l.drop (p + 1))) ∧ w1.grownBy w' (some g)) := by
    have hr := H1.out.1.row
    rw [← H0.out.2.1] at hr
    exact delete_any15 g N c p s.l w1 hr H0.out.2.1 H0.out.2.2.2 H0.out.2.2.1
  go_wp2_with fail
  refine HD.out.mono ?_
  rintro e w2 ⟨rfl, hr2, hg2⟩
  have hq2 : Cb w2 q [.int .i64 s.room, .int .i64 s.now, .int .i64 s.next, .slice (some ⟨g, 0, none⟩) N c] 56 := H1.out.1.blk.keep (hg2.block q H1.out.1.blk.lt (fun e => H1.out.1.blk.apart H1.out.1.row (by decide) e.symm))
  have d3 : w2.cell? ⟨q, 3, none⟩ = some (.slice (some ⟨g, 0, none⟩) N c) := hq2.cell 3
  have f3 := hq2.free 3
  have HE : Hid (LSe (w2.setCell ⟨q, 3, none⟩ (.slice (some ⟨g, 0, none⟩) (N - 1) c)) q (Sq.close s id).2 (Fs15 (.slice (some ⟨g, 0, none⟩) N c) q) ∧ Moved w (w2.setCell ⟨q, 3, none⟩ (.slice (some ⟨g, 0, none⟩) (N - 1) c)) (Fs15 (.slice (some ⟨g, 0, none⟩) N c) q) (Fs15 (.slice (some ⟨g, 0, none⟩) N c) q)) := by
    have hs := grownBy_setCell w2 ⟨q, 3, none⟩ (.slice (some ⟨g, 0, none⟩) (N - 1) c)
    have hb := H1.out.2
    have hap := hq2.apart hr2 (by decide)
    rw [HT.out]
    refine ⟨⟨_, ⟨hq2.set 3 _, ?_⟩, rfl⟩, hs.os.trans (hg2.os.trans hb.os), hs.tape.trans (hg2.tape.trans hb.tape), hs.output.trans (hg2.output.trans hb.output), Nat.le_trans hb.size (Nat.le_trans hg2.size hs.size), fun k hk hF => ?_, fun k hk => Or.inl hk⟩
    · have e1 : (s.l.take p ++ s.l.drop (p + 1)).length = N - 1 := by
        have := H0.out.2.1
        have := H0.out.2.2.1
        rw [List.length_append, List.length_take, List.length_drop, Nat.min_eq_left (by omega)]
        omega
      simp only []
      rw [e1]
      exact row_stays hr2 fun k hk => hs.block k (hr2.lt k hk).2 (fun e => hap (by rw [hk]; simpa using e))
    · have e1 := hb.size
      have e2 := hg2.size
      rw [hs.block k (by omega) (fun e => hF (Or.inr (by simpa using e))), hg2.block k (by omega) (fun e => hF (Or.inl e.symm)), hb.block k hk]
  clear hr2 hg2 hq2 c3
  go_wp2
  go_ret
  have e1 : (Sq.close s id).1 = 0 := by rw [HT.out]
  rw [e1]
  first | exact ⟨_, rfl, HE.out.1, HE.out.2⟩ | exact ⟨rfl, _, HE.out.1, HE.out.2⟩
theorem close_any15 (q : Nat) (s : Sq.St) (F : Nat → Prop) (m id : Int) (w : World) (hL : LSe w q s F) (hf : Sq.Fine m s) :
    Calls Try.prog 16 #[dptr q, .int .i64 id] w fun e w' => ∃ F', e = .returned (.int .i64 (Sq.close s id).1) ∧ LSe w' q (Sq.close s id).2 F' ∧ Moved w w' F F' := by
  cases h : Sq.has s.l id with
  | true => exact close_yes15 q s F m id w hL hf h
  | false => exact close_no15 q s F m id w hL hf h
end Go.Proofs.Ytlabdhllindenaa
