/- The reference's Open whole, Tick. -/
import Derived.Test.YtlabdhllindenaaRefC15
namespace Go.Proofs.Ytlabdhllindenaa
open Go.RowKit

set_option maxRecDepth 20000 in
set_option maxHeartbeats 4000000 in
theorem refOpen_no15 (q : Nat) (s : Sq.St) (F : Nat → Prop) (span : Int) (w : World) (hL : LRe w q s F) (h : span < 1 ∨ 10000 < span) :
    Calls Try.prog 18 #[dptr q, .int .i64 span] w fun e w' => ∃ F', e = .returned (.tuple #[.int .i64 (Sq.op s span).1, .int .i64 (Sq.op s span).2.1]) ∧ LRe w' q (Sq.op s span).2.2 F' ∧ Moved w w' F F' := by
  have HE : Hid (∃ F', Ending.returned (.tuple #[.int .i64 0, .int .i64 1]) = .returned (.tuple #[.int .i64 (Sq.op s span).1, .int .i64 (Sq.op s span).2.1]) ∧ LRe w q (Sq.op s span).2.2 F' ∧ Moved w w F F') := by
    have e : Sq.op s span = (0, 1, s) := by unfold Sq.op; rw [if_pos h]
    rw [e]
    exact ⟨F, rfl, hL, Moved.refl _ _⟩
  clear hL
  unfold dptr
  go_enter Try.func18, Try.ntmps18
  by_cases h1 : span < 1
  · clear h
    go_wp2
    go_ret2
    obtain ⟨F', z1, z2, z3⟩ := HE.out
    first | exact ⟨F', z1, z2, z3⟩ | exact ⟨z1, F', z2, z3⟩
  · have h2 : 10000 < span := h.resolve_left h1
    clear h
    go_wp2
    go_ret2
    obtain ⟨F', z1, z2, z3⟩ := HE.out
    first | exact ⟨F', z1, z2, z3⟩ | exact ⟨z1, F', z2, z3⟩
set_option maxRecDepth 20000 in
set_option maxHeartbeats 4000000 in
theorem refOpen_full15 (q : Nat) (s : Sq.St) (F : Nat → Prop) (m span : Int) (w : World) (hL : LRe w q s F) (hf : Sq.Fine m s) (h1 : ¬ span < 1) (h2 : ¬ 10000 < span) (h3 : s.room ≤ (s.l.length : Int)) :
    Calls Try.prog 18 #[dptr q, .int .i64 span] w fun e w' => ∃ F', e = .returned (.tuple #[.int .i64 (Sq.op s span).1, .int .i64 (Sq.op s span).2.1]) ∧ LRe w' q (Sq.op s span).2.2 F' ∧ Moved w w' F F' := by
  have HE : Hid (∃ F', Ending.returned (.tuple #[.int .i64 0, .int .i64 9]) = .returned (.tuple #[.int .i64 (Sq.op s span).1, .int .i64 (Sq.op s span).2.1]) ∧ LRe w q (Sq.op s span).2.2 F' ∧ Moved w w F F') := by
    have e : Sq.op s span = (0, 9, s) := by unfold Sq.op; rw [if_neg (by omega), if_pos h3]
    rw [e]
    exact ⟨F, rfl, hL, Moved.refl _ _⟩
  obtain ⟨v, h, rfl⟩ := hL
  obtain ⟨N, hN⟩ : ∃ N, N = s.l.length := ⟨_, rfl⟩
  have hr := h.row
  rw [← hN] at hr h3
  have hNl : N ≤ 64 := by rw [hN]; exact hf.len64
  obtain ⟨a, c, rfl, _, _⟩ := row_form hr
  have c0 : w.cell? ⟨q, 0, none⟩ = some (.int .i64 s.room) := h.blk.cell 0
  have c3 : w.cell? ⟨q, 3, none⟩ = some (.slice a N c) := h.blk.cell 3
  clear h hf hr hN
  unfold dptr
  go_enter Try.func18, Try.ntmps18
  go_upto_region 3 with fail
  go_quiet (fail)
  have HE2 : Hid (∃ F', Ending.returned (.tuple #[.int .i64 0, .int .i64 9]) = .returned (.tuple #[.int .i64 (Sq.op s span).1, .int .i64 (Sq.op s span).2.1]) ∧ LRe (w.drewN nq) q (Sq.op s span).2.2 F' ∧ Moved w (w.drewN nq) (Fs15 (.slice a N c) q) F') := by
    obtain ⟨F', z1, z2, z3⟩ := HE.out
    exact ⟨F', z1, LRe.keep z2 fun _ _ => rfl, z3.os, z3.tape, z3.output, z3.size, z3.block, z3.sub⟩
  go_wp2
  go_ret2
  obtain ⟨F', z1, z2, z3⟩ := HE2.out
  first | exact ⟨F', z1, z2, z3⟩ | exact ⟨z1, F', z2, z3⟩
theorem refOpen_any15 (q : Nat) (s : Sq.St) (F : Nat → Prop) (m span : Int) (w : World) (hL : LRe w q s F) (hf : Sq.Fine m s) (hm : m ≤ 2199023255552) :
    Calls Try.prog 18 #[dptr q, .int .i64 span] w fun e w' => ∃ F', e = .returned (.tuple #[.int .i64 (Sq.op s span).1, .int .i64 (Sq.op s span).2.1]) ∧ LRe w' q (Sq.op s span).2.2 F' ∧ Moved w w' F F' := by
  by_cases h1 : span < 1 ∨ 10000 < span
  · exact refOpen_no15 q s F span w hL h1
  · by_cases h3 : s.room ≤ (s.l.length : Int)
    · exact refOpen_full15 q s F m span w hL hf (fun e => h1 (Or.inl e)) (fun e => h1 (Or.inr e)) h3
    · exact refOpen_yes15 q s F m span w hL hf hm (fun e => h1 (Or.inl e)) (fun e => h1 (Or.inr e)) h3

set_option maxRecDepth 20000 in
set_option maxHeartbeats 8000000 in
theorem refTick_any15 (q : Nat) (s : Sq.St) (F : Nat → Prop) (m0 : Int) (w : World) (hL : LRe w q s F) (hf : Sq.Fine m0 s) (hm0 : m0 ≤ 2199023255552) :
    Calls Try.prog 22 #[dptr q] w fun e w' => ∃ F' v, e = .returned v ∧ Bi w' v (Sq.over s) ∧ (∀ k, v.ownBlock = some k → w.heap.size ≤ k ∧ ¬ F' k) ∧ LRe w' q (Sq.tick s) F' ∧ Moved w w' F F' := by
  obtain ⟨v, h, rfl⟩ := hL
  obtain ⟨N, hN⟩ : ∃ N, N = s.l.length := ⟨_, rfl⟩
  have hr := h.row
  rw [← hN] at hr
  obtain ⟨a, c, rfl, _, ha⟩ := row_form hr
  have hN64 : N ≤ 64 := by rw [hN]; exact hf.len64
  obtain ⟨z, hz⟩ : ∃ z, z = s.now + 1 := ⟨_, rfl⟩
  have hwz : IntKind.wrap .i64 (s.now + 1) = z := by have := hf.nowm; have := hf.now0; rw [hz, IntKind.wrap_i64]; omega
  have HZ : Hid (z = s.now + 1) := hz
  have hst := h.set (s' := ⟨s.room, z, s.next, s.l⟩) 1 (.int .i64 z) (h.blk.set 1 _) rfl
  have c1 : w.cell? ⟨q, 1, none⟩ = some (.int .i64 s.now) := h.blk.cell 1
  have f1 := h.blk.free 1
  have H0 : Hid (Rs15 (w.setCell ⟨q, 1, none⟩ (.int .i64 z)) q ⟨s.room, z, s.next, s.l⟩ (.slice a N c) ∧ N = s.l.length ∧ (0 < N → ∃ g, a = some ⟨g, 0, none⟩) ∧ Moved w (w.setCell ⟨q, 1, none⟩ (.int .i64 z)) (Fs15 (.slice a N c) q) (Fs15 (.slice a N c) q) ∧ (w.setCell ⟨q, 1, none⟩ (.int .i64 z)).heap.size = w.heap.size) := ⟨hst.1, hN, ha, hst.2, by simp [World.setCell]⟩
  clear h hf hr hN ha hz hst hm0
  unfold dptr
  go_enter Try.func22, Try.ntmps22
  go_upto_region 4 with fail
  clear c1 f1
  generalize (w.setCell ⟨q, 1, none⟩ (.int .i64 z)) = w1 at *
  go_wp2
  go_loopw [3, 4, 5] (fun u r i wx => ∃ k : Nat, k ≤ N ∧ i = .int .i64 (k : Int) ∧ Below w1.heap.size w1 wx ∧ wx.ownsRow w1.heap.size 2 1 u (((s.l.take k).filter (Sq.ends z)).map Sq.One.id).length (ic (((s.l.take k).filter (Sq.ends z)).map Sq.One.id)) ∧ wx.ownsRow w1.heap.size 67 3 r ((s.l.take k).filter (fun x : Sq.One => !Sq.ends z x)).length (ocs ((s.l.take k).filter (fun x : Sq.One => !Sq.ends z x)))) (fun _ _ i _ => N - (intOf i).toNat)
  case atStart => exact ⟨0, Nat.zero_le _, rfl, Below.refl _ _, World.ownsRow_nil _ _ _ _, World.ownsRow_nil _ _ _ _⟩
  case round =>
    obtain ⟨k, hk, rfl, hb, hu, hr⟩ := hrel
    obtain ⟨ua, uc, eu, j1, j2⟩ := row_form hu
    obtain ⟨ra, rc, er, j3, j4⟩ := row_form hr
    obtain ⟨E, hE⟩ : ∃ E, E = (((s.l.take k).filter (Sq.ends z)).map Sq.One.id).length := ⟨_, rfl⟩
    obtain ⟨R, hR⟩ : ∃ R, R = ((s.l.take k).filter (fun x : Sq.One => !Sq.ends z x)).length := ⟨_, rfl⟩
    rw [← hE] at eu
    rw [← hR] at er
    subst eu er
    have HW : Hid (Below w1.heap.size w1 wr ∧ wr.ownsRow w1.heap.size 2 1 (.slice ua E uc) (((s.l.take k).filter (Sq.ends z)).map Sq.One.id).length (ic (((s.l.take k).filter (Sq.ends z)).map Sq.One.id)) ∧ wr.ownsRow w1.heap.size 67 3 (.slice ra R rc) ((s.l.take k).filter (fun x : Sq.One => !Sq.ends z x)).length (ocs ((s.l.take k).filter (fun x : Sq.One => !Sq.ends z x)))) := ⟨hb, hu, hr⟩
    have HLN : Hid ((((s.l.take k).filter (Sq.ends z)).map Sq.One.id).length ≤ 64 ∧ ((s.l.take k).filter (fun x : Sq.One => !Sq.ends z x)).length ≤ 64) := by
      have e1 := List.length_filter_le (Sq.ends z) (s.l.take k)
      have e2 := List.length_filter_le (fun x : Sq.One => !Sq.ends z x) (s.l.take k)
      rw [List.length_take] at e1 e2
      exact ⟨by rw [List.length_map]; omega, by omega⟩
    clear hb hu hr hE hR j1 j2 j3 j4
    have c1 : wr.cell? ⟨q, 1, none⟩ = some (.int .i64 z) := (H0.out.1.later HW.out.1).blk.cell 1
    have c3 : wr.cell? ⟨q, 3, none⟩ = some (.slice a N c) := (H0.out.1.later HW.out.1).blk.cell 3
    by_cases hlt : k < N
    · have hlt' : (k : Int) < (N : Int) := by omega
      have hk0 : (0 : Int) ≤ (k : Int) := by omega
      have hwk : IntKind.wrap .i64 ((k : Int) + 1) = (k : Int) + 1 := by rw [IntKind.wrap_i64]; omega
      obtain ⟨g, hg⟩ := H0.out.2.2.1 (by omega)
      subst hg
      obtain ⟨x, hx⟩ : ∃ x, s.l[k]? = some x := ⟨s.l[k]'(by rw [← H0.out.2.1]; exact hlt), List.getElem?_eq_getElem _⟩
      have HX : Hid (s.l[k]? = some x) := hx
      have hr := (H0.out.1.later HW.out.1).row
      simp only [] at hr
      rw [← H0.out.2.1] at hr
      obtain ⟨r0, r1, r2⟩ := row_at15 hr hx
      clear hx hr
      go_upto_region 7 with fail
      go_quiet (fail)
      have HW2 : Hid (Below w1.heap.size w1 (wr.drewN nq) ∧ (wr.drewN nq).ownsRow w1.heap.size 2 1 (.slice ua E uc) (((s.l.take k).filter (Sq.ends z)).map Sq.One.id).length (ic (((s.l.take k).filter (Sq.ends z)).map Sq.One.id)) ∧ (wr.drewN nq).ownsRow w1.heap.size 67 3 (.slice ra R rc) ((s.l.take k).filter (fun x : Sq.One => !Sq.ends z x)).length (ocs ((s.l.take k).filter (fun x : Sq.One => !Sq.ends z x)))) := ⟨below_drewN HW.out.1 _, row_stays HW.out.2.1 fun _ _ => rfl, row_stays HW.out.2.2 fun _ _ => rfl⟩
      have d0 : (wr.drewN nq).cell? ⟨g, k * 3, none⟩ = some (.int .i64 x.id) := r0
      have d1 : (wr.drewN nq).cell? ⟨g, k * 3 + 1, none⟩ = some (.int .i64 x.span) := r1
      have d2 : (wr.drewN nq).cell? ⟨g, k * 3 + 2, none⟩ = some (.int .i64 x.till) := r2
      have d3 : (wr.drewN nq).cell? ⟨q, 3, none⟩ = some (.slice (some ⟨g, 0, none⟩) N c) := c3
      clear r0 r1 r2 c1 c3 HW
      generalize wr.drewN nq = w2 at *
      by_cases hT : x.till ≤ z
      · have HK : Hid (Sq.ends z x = true) := (show Sq.ends z x = true by unfold Sq.ends; exact decide_eq_true hT)
        obtain ⟨sb, hsb⟩ : ∃ z, z = w2.heap.size := ⟨_, rfl⟩
        have H6 : Hid (Below w1.heap.size w1 (w2.alloc (.cells #[.int .i64 x.id] 2)) ∧ (w2.alloc (.cells #[.int .i64 x.id] 2)).ownsRow w1.heap.size 2 1 (.slice ua E uc) (((s.l.take k).filter (Sq.ends z)).map Sq.One.id).length (ic (((s.l.take k).filter (Sq.ends z)).map Sq.One.id)) ∧ Cb (w2.alloc (.cells #[.int .i64 x.id] 2)) sb (ic [x.id]) 2 ∧ (w2.alloc (.cells #[.int .i64 x.id] 2)).ownsRow w1.heap.size 67 3 (.slice ra R rc) ((s.l.take k).filter (fun x : Sq.One => !Sq.ends z x)).length (ocs ((s.l.take k).filter (fun x : Sq.One => !Sq.ends z x)))) := by
          rw [hsb]
          exact ⟨HW2.out.1.alloc HW2.out.1.size _, HW2.out.2.1.alloc _, Cb.made w2 (ic [x.id]) _, HW2.out.2.2.alloc _⟩
        go_wp2_with (at_builtin; rw [← hsb]; refine wpList_ic15 rfl _ _ rfl w1.heap.size (.slice ua E uc) (((s.l.take k).filter (Sq.ends z)).map Sq.One.id) [x.id] sb 1 2 (w2.alloc (.cells #[.int .i64 x.id] 2)) rfl rfl H6.out.2.1 H6.out.1.size H6.out.2.2.1 (by have := HLN.out; simp only [List.length_singleton]; omega) ?_)
        clear hsb d0 d1 d2 d3 HW2
        generalize (w2.alloc (.cells #[.int .i64 x.id] 2)) = w5 at *
        intro v6 w6 hr6 hb6 hg6 hv6
        have H7 : Hid (Below w1.heap.size w1 w6 ∧ w6.ownsRow w1.heap.size 2 1 v6 (((s.l.take (k + 1)).filter (Sq.ends z)).map Sq.One.id).length (ic (((s.l.take (k + 1)).filter (Sq.ends z)).map Sq.One.id)) ∧ w6.ownsRow w1.heap.size 67 3 (.slice ra R rc) ((s.l.take (k + 1)).filter (fun x : Sq.One => !Sq.ends z x)).length (ocs ((s.l.take (k + 1)).filter (fun x : Sq.One => !Sq.ends z x)))) := by
          have e1 := filter_snoc15 (f := (fun x : Sq.One => !Sq.ends z x)) HX.out
          have e2 := filter_snoc15 (f := Sq.ends z) HX.out
          simp only [HK.out, Bool.not_true, Bool.false_eq_true, if_false, if_true, List.append_nil] at e1 e2
          refine ⟨H6.out.1.trans (hb6.mono (Nat.le_refl _)), ?_, ?_⟩
          · rw [e2, List.map_append]
            simpa using hr6
          · rw [e1]
            refine row_stays H6.out.2.2.2 fun j hj => hg6.block j (H6.out.2.2.2.lt j hj).2 (fun e => ?_)
            obtain ⟨c7, hc7⟩ := row_in H6.out.2.2.2 hj
            obtain ⟨c8, hc8⟩ := row_in H6.out.2.1 e.symm
            rw [hc7] at hc8
            simp at hc8
        obtain ⟨a6, c6, e6, j1, j2⟩ := row_form H7.out.2.1
        subst e6
        clear hr6 hb6 hg6 hv6 j1 j2 H6
        go_wp2
        go_roundw
        case rel => exact ⟨k + 1, by omega, by go_num, H7.out.1, H7.out.2.1, H7.out.2.2⟩
        case measure => simp [intOf]; omega
      · have HK : Hid (Sq.ends z x = false) := (show Sq.ends z x = false by unfold Sq.ends; exact decide_eq_false hT)
        obtain ⟨sb, hsb⟩ : ∃ z, z = w2.heap.size := ⟨_, rfl⟩
        have H6 : Hid (Below w1.heap.size w1 (w2.alloc (.cells #[.int .i64 x.id, .int .i64 x.span, .int .i64 x.till] 67)) ∧ (w2.alloc (.cells #[.int .i64 x.id, .int .i64 x.span, .int .i64 x.till] 67)).ownsRow w1.heap.size 2 1 (.slice ua E uc) (((s.l.take k).filter (Sq.ends z)).map Sq.One.id).length (ic (((s.l.take k).filter (Sq.ends z)).map Sq.One.id)) ∧ Cb (w2.alloc (.cells #[.int .i64 x.id, .int .i64 x.span, .int .i64 x.till] 67)) sb (oc x) 67 ∧ (w2.alloc (.cells #[.int .i64 x.id, .int .i64 x.span, .int .i64 x.till] 67)).ownsRow w1.heap.size 67 3 (.slice ra R rc) ((s.l.take k).filter (fun x : Sq.One => !Sq.ends z x)).length (ocs ((s.l.take k).filter (fun x : Sq.One => !Sq.ends z x)))) := by
          rw [hsb]
          exact ⟨HW2.out.1.alloc HW2.out.1.size _, HW2.out.2.1.alloc _, Cb.made w2 (oc x) _, HW2.out.2.2.alloc _⟩
        go_wp2_with (at_builtin; rw [← hsb]; refine wpList_oc15 infoOn Try.underlying36 rfl _ _ rfl w1.heap.size (.slice ra R rc) (.slice (some ⟨sb, 0, none⟩) 1 1) ((s.l.take k).filter (fun x : Sq.One => !Sq.ends z x)) [x] (w2.alloc (.cells #[.int .i64 x.id, .int .i64 x.span, .int .i64 x.till] 67)) rfl rfl H6.out.2.2.2 H6.out.1.size (Soc.one H6.out.2.2.1) (by have := HLN.out; simp only [List.length_singleton]; omega) ?_)
        clear hsb d0 d1 d2 d3 HW2
        generalize (w2.alloc (.cells #[.int .i64 x.id, .int .i64 x.span, .int .i64 x.till] 67)) = w5 at *
        intro v6 w6 hr6 hb6 hg6 hv6
        have H7 : Hid (Below w1.heap.size w1 w6 ∧ w6.ownsRow w1.heap.size 2 1 (.slice ua E uc) (((s.l.take (k + 1)).filter (Sq.ends z)).map Sq.One.id).length (ic (((s.l.take (k + 1)).filter (Sq.ends z)).map Sq.One.id)) ∧ w6.ownsRow w1.heap.size 67 3 v6 ((s.l.take (k + 1)).filter (fun x : Sq.One => !Sq.ends z x)).length (ocs ((s.l.take (k + 1)).filter (fun x : Sq.One => !Sq.ends z x)))) := by
          have e1 := filter_snoc15 (f := (fun x : Sq.One => !Sq.ends z x)) HX.out
          have e2 := filter_snoc15 (f := Sq.ends z) HX.out
          simp only [HK.out, Bool.not_false, Bool.false_eq_true, if_false, if_true, List.append_nil] at e1 e2
          refine ⟨H6.out.1.trans (hb6.mono (Nat.le_refl _)), ?_, ?_⟩
          · rw [e2]
            refine row_stays H6.out.2.1 fun j hj => hg6.block j (H6.out.2.1.lt j hj).2 (fun e => ?_)
            obtain ⟨c7, hc7⟩ := row_in H6.out.2.1 hj
            obtain ⟨c8, hc8⟩ := row_in H6.out.2.2.2 e.symm
            rw [hc7] at hc8
            simp at hc8
          · rw [e1]
            simpa using hr6
        obtain ⟨a6, c6, e6, j1, j2⟩ := row_form H7.out.2.2
        subst e6
        clear hr6 hb6 hg6 hv6 j1 j2 H6
        go_wp2
        go_roundw
        case rel => exact ⟨k + 1, by omega, by go_num, H7.out.1, H7.out.2.1, H7.out.2.2⟩
        case measure => simp [intOf]; omega
    · have hlt' : ¬ (k : Int) < (N : Int) := by omega
      obtain rfl : k = N := by omega
      have HT : Hid (s.l.take k = s.l) := List.take_of_length_le (by rw [← H0.out.2.1]; exact Nat.le_refl _)
      have f3 : wr.frozen? ⟨q, 3, none⟩ = false := (H0.out.1.later HW.out.1).blk.free 3
      have HE : Hid (∃ F', Bi (wr.setCell ⟨q, 3, none⟩ (.slice ra R rc)) (.slice ua E uc) (Sq.over s) ∧ (∀ j, (Value.slice ua E uc).ownBlock = some j → w.heap.size ≤ j ∧ ¬ F' j) ∧ LRe (wr.setCell ⟨q, 3, none⟩ (.slice ra R rc)) q (Sq.tick s) F' ∧ Moved w (wr.setCell ⟨q, 3, none⟩ (.slice ra R rc)) (Fs15 (.slice a k c) q) F') := by
        have h1 := HW.out.2.1
        have h2 := HW.out.2.2
        rw [HT.out] at h1 h2
        have hp := H0.out.1.put HW.out.1 h2
        have hs := grownBy_setCell wr ⟨q, 3, none⟩ (.slice ra R rc)
        have hqw := H0.out.1.blk.lt
        have e1 : Sq.over s = (s.l.filter (Sq.ends z)).map Sq.One.id := by unfold Sq.over; rw [HZ.out]
        have e2 : Sq.tick s = ⟨s.room, z, s.next, s.l.filter (fun x : Sq.One => !Sq.ends z x)⟩ := by unfold Sq.tick; rw [HZ.out]
        rw [e1, e2]
        refine ⟨_, ?_, fun j hj => ⟨?_, fun e => ?_⟩, hp.1, H0.out.2.2.2.1.trans hp.2⟩
        · refine (Bi.own h1).keep fun j hj hl => hs.block j hl (fun e => ?_)
          have := (h1.lt j hj).1
          simp only [Option.some.injEq] at e
          omega
        · rw [← H0.out.2.2.2.2]
          exact (h1.lt j hj).1
        · rcases e with e | e
          · obtain ⟨c7, hc7⟩ := row_in h1 hj
            obtain ⟨c8, hc8⟩ := row_in h2 e
            rw [hc7] at hc8
            simp at hc8
          · have := (h1.lt j hj).1
            omega
      go_wp2
      go_ret
      obtain ⟨F', z1, z2, z3, z4⟩ := HE.out
      first | exact ⟨F', _, rfl, z1, z2, z3, z4⟩ | exact ⟨_, rfl, F', z1, z2, z3, z4⟩
end Go.Proofs.Ytlabdhllindenaa
