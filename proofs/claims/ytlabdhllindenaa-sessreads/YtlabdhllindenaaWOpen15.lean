/- What Open does. -/
import Derived.Test.YtlabdhllindenaaApp15
namespace Go.Proofs.Ytlabdhllindenaa
open Go.RowKit

set_option maxRecDepth 20000 in
set_option maxHeartbeats 4000000 in
theorem open_no15 (q : Nat) (s : Sq.St) (F : Nat → Prop) (span : Int) (w : World) (hL : LSe w q s F) (h : span < 1 ∨ 10000 < span) :
    Calls Try.prog 12 #[dptr q, .int .i64 span] w fun e w' => ∃ F', e = .returned (.tuple #[.int .i64 (Sq.op s span).1, .int .i64 (Sq.op s span).2.1]) ∧ LSe w' q (Sq.op s span).2.2 F' ∧ Moved w w' F F' := by
  have HE : Hid (∃ F', Ending.returned (.tuple #[.int .i64 0, .int .i64 1]) = .returned (.tuple #[.int .i64 (Sq.op s span).1, .int .i64 (Sq.op s span).2.1]) ∧ LSe w q (Sq.op s span).2.2 F' ∧ Moved w w F F') := by
    have e : Sq.op s span = (0, 1, s) := by unfold Sq.op; rw [if_pos h]
    rw [e]
    exact ⟨F, rfl, hL, Moved.refl _ _⟩
  clear hL
  unfold dptr
  go_enter Try.func12, Try.ntmps12
  by_cases h1 : span < 1
  · clear h
    go_wp2
    go_ret2
    obtain ⟨F', z1, z2, z3⟩ := HE.out
    first | exact ⟨F', z1, z2, z3⟩ | exact ⟨z1, F', z2, z3⟩
  · have h2 : 10000 < span := h.resolve_left h1
    clear h
    go_wp2
    go_ret2
    obtain ⟨F', z1, z2, z3⟩ := HE.out
    first | exact ⟨F', z1, z2, z3⟩ | exact ⟨z1, F', z2, z3⟩
set_option maxRecDepth 20000 in
set_option maxHeartbeats 4000000 in
theorem open_full15 (q : Nat) (s : Sq.St) (F : Nat → Prop) (m span : Int) (w : World) (hL : LSe w q s F) (hf : Sq.Fine m s) (h1 : ¬ span < 1) (h2 : ¬ 10000 < span) (h3 : s.room ≤ (s.l.length : Int)) :
    Calls Try.prog 12 #[dptr q, .int .i64 span] w fun e w' => ∃ F', e = .returned (.tuple #[.int .i64 (Sq.op s span).1, .int .i64 (Sq.op s span).2.1]) ∧ LSe w' q (Sq.op s span).2.2 F' ∧ Moved w w' F F' := by
  have HE : Hid (∃ F', Ending.returned (.tuple #[.int .i64 0, .int .i64 9]) = .returned (.tuple #[.int .i64 (Sq.op s span).1, .int .i64 (Sq.op s span).2.1]) ∧ LSe w q (Sq.op s span).2.2 F' ∧ Moved w w F F') := by
    have e : Sq.op s span = (0, 9, s) := by unfold Sq.op; rw [if_neg (by omega), if_pos h3]
    rw [e]
    exact ⟨F, rfl, hL, Moved.refl _ _⟩
  obtain ⟨v, h, rfl⟩ := hL
  obtain ⟨N, hN⟩ : ∃ N, N = s.l.length := ⟨_, rfl⟩
  have hr := h.row
  rw [← hN] at hr h3
  have hNl : N ≤ 64 := by rw [hN]; exact hf.len64
  obtain ⟨a, c, rfl, _, _⟩ := row_form hr
  have c0 : w.cell? ⟨q, 0, none⟩ = some (.int .i64 s.room) := h.blk.cell 0
  have c3 : w.cell? ⟨q, 3, none⟩ = some (.slice a N c) := h.blk.cell 3
  clear h hf hr hN
  unfold dptr
  go_enter Try.func12, Try.ntmps12
  go_upto_region 3 with fail
  go_quiet (fail)
  have HE2 : Hid (∃ F', Ending.returned (.tuple #[.int .i64 0, .int .i64 9]) = .returned (.tuple #[.int .i64 (Sq.op s span).1, .int .i64 (Sq.op s span).2.1]) ∧ LSe (w.drewN nq) q (Sq.op s span).2.2 F' ∧ Moved w (w.drewN nq) (Fs15 (.slice a N c) q) F') := by
    obtain ⟨F', z1, z2, z3⟩ := HE.out
    exact ⟨F', z1, LSe.keep z2 fun _ _ => rfl, z3.os, z3.tape, z3.output, z3.size, z3.block, z3.sub⟩
  go_wp2
  go_ret2
  obtain ⟨F', z1, z2, z3⟩ := HE2.out
  first | exact ⟨F', z1, z2, z3⟩ | exact ⟨z1, F', z2, z3⟩
set_option maxRecDepth 20000 in
set_option maxHeartbeats 4000000 in
theorem open_yes15 (q : Nat) (s : Sq.St) (F : Nat → Prop) (m span : Int) (w : World) (hL : LSe w q s F) (hf : Sq.Fine m s) (hm : m ≤ 2199023255552) (h1 : ¬ span < 1) (h2 : ¬ 10000 < span) (h3 : ¬ s.room ≤ (s.l.length : Int)) :
    Calls Try.prog 12 #[dptr q, .int .i64 span] w fun e w' => ∃ F', e = .returned (.tuple #[.int .i64 (Sq.op s span).1, .int .i64 (Sq.op s span).2.1]) ∧ LSe w' q (Sq.op s span).2.2 F' ∧ Moved w w' F F' := by
  have HO : Hid (Sq.op s span = (s.next, 0, ⟨s.room, s.now, s.next + 1, s.l ++ [⟨s.next, span, s.now + span⟩]⟩)) := (show _ = _ by unfold Sq.op; rw [if_neg (by omega), if_neg h3])
  obtain ⟨v, h, rfl⟩ := hL
  obtain ⟨N, hN⟩ : ∃ N, N = s.l.length := ⟨_, rfl⟩
  have hr := h.row
  rw [← hN] at hr h3
  have hNl : N ≤ 64 := by rw [hN]; exact hf.len64
  obtain ⟨a, c, rfl, _, _⟩ := row_form hr
  have H0 : Hid (Ls15 w q s (.slice a N c) ∧ N = s.l.length) := ⟨h, hN⟩
  have c0 : w.cell? ⟨q, 0, none⟩ = some (.int .i64 s.room) := h.blk.cell 0
  have c1 : w.cell? ⟨q, 1, none⟩ = some (.int .i64 s.now) := h.blk.cell 1
  have c2 : w.cell? ⟨q, 2, none⟩ = some (.int .i64 s.next) := h.blk.cell 2
  have c3 : w.cell? ⟨q, 3, none⟩ = some (.slice a N c) := h.blk.cell 3
  have f2 : w.frozen? ⟨q, 2, none⟩ = false := h.blk.free 2
  have hw1 : IntKind.wrap .i64 (s.next + 1) = s.next + 1 := by have := hf.nextm; have := hf.next1; rw [IntKind.wrap_i64]; omega
  have hw2 : IntKind.wrap .i64 (s.now + span) = s.now + span := by have := hf.nowm; have := hf.now0; rw [IntKind.wrap_i64]; omega
  clear h hf hr hN
  unfold dptr
  go_enter Try.func12, Try.ntmps12
  go_upto_region 3 with fail
  go_quiet (fail)
  have H1 : Hid (Ls15 (w.drewN nq) q s (.slice a N c) ∧ Below w.heap.size w (w.drewN nq)) := ⟨H0.out.1.later (below_drewN (Below.refl _ _) _), below_drewN (Below.refl _ _) _⟩
  clear c0 c1 c2 c3 f2
  generalize w.drewN nq = w1 at *
  have c1 : w1.cell? ⟨q, 1, none⟩ = some (.int .i64 s.now) := H1.out.1.blk.cell 1
  have c2 : w1.cell? ⟨q, 2, none⟩ = some (.int .i64 s.next) := H1.out.1.blk.cell 2
  have c3 : w1.cell? ⟨q, 3, none⟩ = some (.slice a N c) := H1.out.1.blk.cell 3
  have f2 : w1.frozen? ⟨q, 2, none⟩ = false := H1.out.1.blk.free 2
  go_wp2_with fail
  have H2 : Hid (Ls15 (w1.setCell ⟨q, 2, none⟩ (.int .i64 (s.next + 1))) q ⟨s.room, s.now, s.next + 1, s.l⟩ (.slice a N c) ∧ Moved w (w1.setCell ⟨q, 2, none⟩ (.int .i64 (s.next + 1))) (Fs15 (.slice a N c) q) (Fs15 (.slice a N c) q)) := by
    have hg := grownBy_setCell w1 ⟨q, 2, none⟩ (.int .i64 (s.next + 1))
    have hap := H1.out.1.blk.apart H1.out.1.row (by decide)
    have hb := H1.out.2
    refine ⟨⟨H1.out.1.blk.set 2 _, row_stays H1.out.1.row fun k hk => hg.block k (H1.out.1.row.lt k hk).2 (fun e => hap (by rw [hk]; simpa using e))⟩, hg.os.trans hb.os, hg.tape.trans hb.tape, hg.output.trans hb.output, Nat.le_trans hb.size hg.size, fun k hk hF => ?_, fun k hk => Or.inl hk⟩
    have e3 := hb.size
    rw [hg.block k (by omega) (fun e => hF (Or.inr (by simpa using e))), hb.block k hk]
  clear c1 c2 c3 f2 H1
  generalize w1.setCell ⟨q, 2, none⟩ (.int .i64 (s.next + 1)) = w2 at *
  refine wp_region_T (fun w' => w'.cell? ⟨q, 1, none⟩ = some (.int .i64 s.now) ∧ w'.cell? ⟨q, 3, none⟩ = some (.slice a N c)) 18 (by kernel_rfl) ?_
  have H3 : Hid (Ls15 w2.drew q ⟨s.room, s.now, s.next + 1, s.l⟩ (.slice a N c) ∧ Moved w w2.drew (Fs15 (.slice a N c) q) (Fs15 (.slice a N c) q)) := ⟨H2.out.1.later (Below.refl _ _).drew, H2.out.2.trans (Moved.of_below _ (Below.refl _ _).drew)⟩
  clear H2
  generalize w2.drew = w3 at *
  have HSX : Hid (w3.cell? ⟨q, 1, none⟩ = some (.int .i64 s.now) ∧ w3.cell? ⟨q, 3, none⟩ = some (.slice a N c)) := ⟨H3.out.1.blk.cell 1, H3.out.1.blk.cell 3⟩
  refine' take_T (i := 0) (d := 34) (v := _) rfl rfl (by kernel_rfl) (by kernel_rfl) (by kernel_rfl) (by kernel_rfl) (by kernel_rfl) (fun _ _ _ h => h) (Or.inl ⟨by rfl, ?h0⟩) (HSX.out) ?_
  case h0 =>
    intro w hSw
    obtain ⟨t1, t3⟩ := hSw
    go_simp
    with_reducible rfl
  simp only [List.setIfInBounds_toArray, List.set_cons_zero, List.set_cons_succ]
  refine' take_T (i := 1) (d := 35) (v := _) rfl rfl (by kernel_rfl) (by kernel_rfl) (by kernel_rfl) (by kernel_rfl) (by kernel_rfl) (fun _ _ _ h => h) (Or.inl ⟨by rfl, ?h1⟩) (HSX.out) ?_
  case h1 =>
    intro w hSw
    obtain ⟨t1, t3⟩ := hSw
    go_simp
    with_reducible rfl
  simp only [List.setIfInBounds_toArray, List.set_cons_zero, List.set_cons_succ]
  refine' take_T (i := 2) (d := 36) (v := _) rfl rfl (by kernel_rfl) (by kernel_rfl) (by kernel_rfl) (by kernel_rfl) (by kernel_rfl) (fun _ _ _ h => h) (Or.inl ⟨by rfl, ?h2⟩) (HSX.out) ?_
  case h2 =>
    intro w hSw
    obtain ⟨t1, t3⟩ := hSw
    go_simp
    with_reducible rfl
  simp only [List.setIfInBounds_toArray, List.set_cons_zero, List.set_cons_succ]
  refine' take_T (i := 3) (d := 37) (v := _) rfl rfl (by kernel_rfl) (by kernel_rfl) (by kernel_rfl) (by kernel_rfl) (by kernel_rfl) (fun _ _ _ h => h) (Or.inl ⟨by rfl, ?h3⟩) (HSX.out) ?_
  case h3 =>
    intro w hSw
    obtain ⟨t1, t3⟩ := hSw
    go_simp
    with_reducible rfl
  simp only [List.setIfInBounds_toArray, List.set_cons_zero, List.set_cons_succ]
  refine' take_T (i := 4) (d := 38) (v := _) rfl rfl (by kernel_rfl) (by kernel_rfl) (by kernel_rfl) (by kernel_rfl) (by kernel_rfl) (fun _ _ _ h => h) (Or.inl ⟨by rfl, ?h4⟩) (HSX.out) ?_
  case h4 =>
    intro w hSw
    obtain ⟨t1, t3⟩ := hSw
    go_simp
    with_reducible rfl
  simp only [List.setIfInBounds_toArray, List.set_cons_zero, List.set_cons_succ]
  refine' take_T (i := 5) (d := 39) (v := _) rfl rfl (by kernel_rfl) (by kernel_rfl) (by kernel_rfl) (by kernel_rfl) (by kernel_rfl) (fun _ _ _ h => h) (Or.inl ⟨by rfl, ?h5⟩) (HSX.out) ?_
  case h5 =>
    intro w hSw
    obtain ⟨t1, t3⟩ := hSw
    go_simp
    with_reducible rfl
  simp only [List.setIfInBounds_toArray, List.set_cons_zero, List.set_cons_succ]
  refine' take_T (i := 6) (d := 40) (v := _) rfl rfl (by kernel_rfl) (by kernel_rfl) (by kernel_rfl) (by kernel_rfl) (by kernel_rfl) (fun _ _ _ h => h) (Or.inl ⟨by rfl, ?h6⟩) (HSX.out) ?_
  case h6 =>
    intro w hSw
    obtain ⟨t1, t3⟩ := hSw
    go_simp
    with_reducible rfl
  simp only [List.setIfInBounds_toArray, List.set_cons_zero, List.set_cons_succ]
  refine' take_T (i := 7) (d := 41) (v := _) rfl rfl (by kernel_rfl) (by kernel_rfl) (by kernel_rfl) (by kernel_rfl) (by kernel_rfl) (fun _ _ _ h => h) (Or.inl ⟨by rfl, ?h7⟩) (HSX.out) ?_
  case h7 =>
    intro w hSw
    obtain ⟨t1, t3⟩ := hSw
    go_simp
    with_reducible rfl
  simp only [List.setIfInBounds_toArray, List.set_cons_zero, List.set_cons_succ]
  refine' take_T (i := 8) (d := 42) (v := _) rfl rfl (by kernel_rfl) (by kernel_rfl) (by kernel_rfl) (by kernel_rfl) (by kernel_rfl) (fun _ _ _ h => h) (Or.inl ⟨by rfl, ?h8⟩) (HSX.out) ?_
  case h8 =>
    intro w hSw
    obtain ⟨t1, t3⟩ := hSw
    go_simp
    with_reducible rfl
  simp only [List.setIfInBounds_toArray, List.set_cons_zero, List.set_cons_succ]
  refine' take_T (i := 9) (d := 43) (v := _) rfl rfl (by kernel_rfl) (by kernel_rfl) (by kernel_rfl) (by kernel_rfl) (by kernel_rfl) (fun _ _ _ h => h) (Or.inl ⟨by rfl, ?h9⟩) (HSX.out) ?_
  case h9 =>
    intro w hSw
    obtain ⟨t1, t3⟩ := hSw
    go_simp
    with_reducible rfl
  simp only [List.setIfInBounds_toArray, List.set_cons_zero, List.set_cons_succ]
  refine' take_T (i := 10) (d := 44) (v := _) rfl rfl (by kernel_rfl) (by kernel_rfl) (by kernel_rfl) (by kernel_rfl) (by kernel_rfl) (fun _ _ _ h => h) (Or.inl ⟨by rfl, ?h10⟩) (HSX.out) ?_
  case h10 =>
    intro w hSw
    obtain ⟨t1, t3⟩ := hSw
    go_simp
    with_reducible rfl
  simp only [List.setIfInBounds_toArray, List.set_cons_zero, List.set_cons_succ]
  refine' take_T (i := 11) (d := 45) (v := _) rfl rfl (by kernel_rfl) (by kernel_rfl) (by kernel_rfl) (by kernel_rfl) (by kernel_rfl) (fun _ _ _ h => h) (Or.inl ⟨by rfl, ?h11⟩) (HSX.out) ?_
  case h11 =>
    intro w hSw
    obtain ⟨t1, t3⟩ := hSw
    go_simp
    with_reducible rfl
  simp only [List.setIfInBounds_toArray, List.set_cons_zero, List.set_cons_succ]
  refine' take_T (i := 12) (d := 46) (v := _) rfl rfl (by kernel_rfl) (by kernel_rfl) (by kernel_rfl) (by kernel_rfl) (by kernel_rfl) (fun _ _ _ h => h) (Or.inl ⟨by rfl, ?h12⟩) (HSX.out) ?_
  case h12 =>
    intro w hSw
    obtain ⟨t1, t3⟩ := hSw
    go_simp
    with_reducible rfl
  simp only [List.setIfInBounds_toArray, List.set_cons_zero, List.set_cons_succ]
  refine' take_T (i := 13) (d := 47) (v := _) rfl rfl (by kernel_rfl) (by kernel_rfl) (by kernel_rfl) (by kernel_rfl) (by kernel_rfl) (fun _ _ _ h => h) (Or.inl ⟨by rfl, ?h13⟩) (HSX.out) ?_
  case h13 =>
    intro w hSw
    obtain ⟨t1, t3⟩ := hSw
    go_simp
    with_reducible rfl
  simp only [List.setIfInBounds_toArray, List.set_cons_zero, List.set_cons_succ]
  refine wpAnyT_ready (rs := [14]) (by kernel_rfl) (by simp) ?_
  refine AllReadyT.cons (o := _) rfl (fun KQ hKQ => ?_) AllReadyT.nil
  go_simp
  obtain ⟨sb, hsb⟩ : ∃ z, z = w3.heap.size := ⟨_, rfl⟩
  rw [← hsb]
  have H4 : Hid (Ls15 (w3.alloc (.cells #[.int .i64 s.next, .int .i64 span, .int .i64 (s.now + span)] 58)) q ⟨s.room, s.now, s.next + 1, s.l⟩ (.slice a N c) ∧ Moved w (w3.alloc (.cells #[.int .i64 s.next, .int .i64 span, .int .i64 (s.now + span)] 58)) (Fs15 (.slice a N c) q) (Fs15 (.slice a N c) q) ∧ Cb (w3.alloc (.cells #[.int .i64 s.next, .int .i64 span, .int .i64 (s.now + span)] 58)) sb (oc ⟨s.next, span, s.now + span⟩) 58) := by
    have hb := (Below.refl _ w3).alloc (Nat.le_refl _) (.cells #[.int .i64 s.next, .int .i64 span, .int .i64 (s.now + span)] 58)
    rw [hsb]
    exact ⟨H3.out.1.later hb, H3.out.2.trans (Moved.of_below _ hb), Cb.made w3 (oc ⟨s.next, span, s.now + span⟩) _⟩
  clear HSX H3 hsb
  generalize (w3.alloc (.cells #[.int .i64 s.next, .int .i64 span, .int .i64 (s.now + span)] 58)) = w4 at *
  refine hKQ.out _ _ (fun _ => ⟨H4.out.1.blk.cell 1, H4.out.1.blk.cell 3⟩) ?_
  clear hKQ KQ
  refine wpAnyT_ready (rs := [15]) (by kernel_rfl) (by simp) ?_
  refine AllReadyT.cons (o := _) rfl (fun KQ hKQ => ?_) AllReadyT.nil
  refine wp_oc15 infoSe Try.underlying54 _ _ rfl 0 (.slice a N c) (.slice (some ⟨sb, 0, none⟩) 1 1) s.l [⟨s.next, span, s.now + span⟩] w4 rfl rfl H4.out.1.row (Nat.zero_le _) (Soc.one H4.out.2.2) (by have := H0.out.2; simp only [List.length_singleton]; omega) ?_
  intro v5 w5 hr5 hb5 hg5 hv5
  have H5 : Hid (Cb w5 q [.int .i64 s.room, .int .i64 s.now, .int .i64 (s.next + 1), .slice a N c] 56 ∧ LSe (w5.setCell ⟨q, 3, none⟩ v5) q ⟨s.room, s.now, s.next + 1, s.l ++ [⟨s.next, span, s.now + span⟩]⟩ (Fs15 v5 q) ∧ Moved w (w5.setCell ⟨q, 3, none⟩ v5) (Fs15 (.slice a N c) q) (Fs15 v5 q)) := by
    have hap := H4.out.1.blk.apart H4.out.1.row (by decide)
    have hq : Cb w5 q [.int .i64 s.room, .int .i64 s.now, .int .i64 (s.next + 1), .slice a N c] 56 := H4.out.1.blk.keep (hg5.block q H4.out.1.blk.lt (fun e => hap e.symm))
    have hg := grownBy_setCell w5 ⟨q, 3, none⟩ v5
    have hap5 : v5.ownBlock ≠ some q := hq.apart hr5 (by decide)
    have hm := H4.out.2.1
    refine ⟨hq, ⟨v5, ⟨hq.set 3 _, row_stays hr5 fun k hk => hg.block k (hr5.lt k hk).2 (fun e => hap5 (by rw [hk]; simpa using e))⟩, rfl⟩, hg.os.trans (hg5.os.trans hm.os), hg.tape.trans (hg5.tape.trans hm.tape), hg.output.trans (hg5.output.trans hm.output), Nat.le_trans hm.size (Nat.le_trans hg5.size hg.size), fun k hk hF => ?_, fun k hk => ?_⟩
    · have e1 := hm.size
      have e2 := hg5.size
      rw [hg.block k (by omega) (fun e => hF (Or.inr (by simpa using e))), hg5.block k (by omega) (fun e => hF (Or.inl e.symm)), hm.block k hk hF]
    · rcases hk with hk | rfl
      · rcases hv5 with e | e
        · exact Or.inl (Or.inl (by rw [← e]; exact hk))
        · right
          rw [e] at hk
          have := hm.size
          simp only [Option.some.injEq] at hk
          omega
      · exact Or.inl (Or.inr rfl)
  obtain ⟨a5, c5, e5, j1, j2⟩ := row_form hr5
  obtain ⟨N5, hN5⟩ : ∃ z, z = (s.l ++ [(⟨s.next, span, s.now + span⟩ : Sq.One)]).length := ⟨_, rfl⟩
  rw [← hN5] at e5
  subst e5
  clear hr5 hb5 hg5 hv5 j1 j2 hN5 H4
  refine hKQ.out _ _ (fun _ => ⟨H5.out.1.cell 1, H5.out.1.cell 3⟩) ?_
  clear hKQ KQ
  refine' take_T (i := 16) (d := 50) (v := _) rfl rfl (by kernel_rfl) (by kernel_rfl) (by kernel_rfl) (by kernel_rfl) (by kernel_rfl) (fun _ _ _ h => h) (Or.inl ⟨by rfl, ?h16⟩) (⟨H5.out.1.cell 1, H5.out.1.cell 3⟩) ?_
  case h16 =>
    intro w hSw
    go_simp
    with_reducible rfl
  simp only [List.setIfInBounds_toArray, List.set_cons_zero, List.set_cons_succ]
  refine' take_T (i := 17) (d := 51) (v := _) rfl rfl (by kernel_rfl) (by kernel_rfl) (by kernel_rfl) (by kernel_rfl) (by kernel_rfl) (fun _ _ _ h => h) (Or.inl ⟨by rfl, ?h17⟩) (⟨H5.out.1.cell 1, H5.out.1.cell 3⟩) ?_
  case h17 =>
    intro w hSw
    go_simp
    with_reducible rfl
  simp only [List.setIfInBounds_toArray, List.set_cons_zero, List.set_cons_succ]
  refine wpAnyT_ready (rs := [18]) (by kernel_rfl) (by simp) ?_
  refine AllReadyT.cons (o := _) rfl (fun KQ hKQ => ?_) AllReadyT.nil
  have d1 : w5.cell? ⟨q, 3, none⟩ = some (.slice a N c) := H5.out.1.cell 3
  have f1 := H5.out.1.free 3
  go_simp
  clear d1 f1
  have H6 : Hid (LSe (w5.setCell ⟨q, 3, none⟩ (.slice a5 N5 c5)) q ⟨s.room, s.now, s.next + 1, s.l ++ [⟨s.next, span, s.now + span⟩]⟩ (Fs15 (.slice a5 N5 c5) q) ∧ Moved w (w5.setCell ⟨q, 3, none⟩ (.slice a5 N5 c5)) (Fs15 (.slice a N c) q) (Fs15 (.slice a5 N5 c5) q)) := H5.out.2
  clear H5
  generalize w5.setCell ⟨q, 3, none⟩ (.slice a5 N5 c5) = w6 at *
  refine hKQ.out _ _ (fun h => absurd rfl h) ?_
  clear hKQ KQ
  refine wpAnyT_done (by kernel_rfl) ?_ _
  go_wp2
  go_ret2
  have HEN : ∃ F', Ending.returned (.tuple #[.int .i64 s.next, .int .i64 0]) = .returned (.tuple #[.int .i64 (Sq.op s span).1, .int .i64 (Sq.op s span).2.1]) ∧ LSe w6 q (Sq.op s span).2.2 F' ∧ Moved w w6 (Fs15 (.slice a N c) q) F' := by
    rw [HO.out]
    exact ⟨_, rfl, H6.out.1, H6.out.2⟩
  obtain ⟨F', z1, z2, z3⟩ := HEN
  first | exact ⟨F', z1, z2, z3⟩ | exact ⟨z1, F', z2, z3⟩
theorem open_any15 (q : Nat) (s : Sq.St) (F : Nat → Prop) (m span : Int) (w : World) (hL : LSe w q s F) (hf : Sq.Fine m s) (hm : m ≤ 2199023255552) :
    Calls Try.prog 12 #[dptr q, .int .i64 span] w fun e w' => ∃ F', e = .returned (.tuple #[.int .i64 (Sq.op s span).1, .int .i64 (Sq.op s span).2.1]) ∧ LSe w' q (Sq.op s span).2.2 F' ∧ Moved w w' F F' := by
  by_cases h1 : span < 1 ∨ 10000 < span
  · exact open_no15 q s F span w hL h1
  · by_cases h3 : s.room ≤ (s.l.length : Int)
    · exact open_full15 q s F m span w hL hf (fun e => h1 (Or.inl e)) (fun e => h1 (Or.inr e)) h3
    · exact open_yes15 q s F m span w hL hf hm (fun e => h1 (Or.inl e)) (fun e => h1 (Or.inr e)) h3
end Go.Proofs.Ytlabdhllindenaa
