/- The reference's All, Touch, Close, Tick. -/
import Derived.Test.YtlabdhllindenaaRefS15
namespace Go.Proofs.Ytlabdhllindenaa
open Go.RowKit

set_option maxRecDepth 20000 in
set_option maxHeartbeats 4000000 in
theorem refAll_any15 (q : Nat) (s : Sq.St) (F : Nat → Prop) (m : Int) (w : World) (hL : LRe w q s F) (hf : Sq.Fine m s) :
    Calls Try.prog 25 #[dptr q] w fun e w' => ∃ v, e = .returned v ∧ Bi w' v (Sq.all s) ∧ (∀ k, v.ownBlock = some k → w.heap.size ≤ k) ∧ Below w.heap.size w w' := by
  obtain ⟨v, h, rfl⟩ := hL
  obtain ⟨N, hN⟩ : ∃ N, N = s.l.length := ⟨_, rfl⟩
  have hr := h.row
  rw [← hN] at hr
  obtain ⟨a, c, rfl, _, ha⟩ := row_form hr
  have hN64 : N ≤ 64 := by rw [hN]; exact hf.len64
  have H0 : Hid (Rs15 w q s (.slice a N c) ∧ N = s.l.length ∧ (0 < N → ∃ g, a = some ⟨g, 0, none⟩)) := ⟨h, hN, ha⟩
  clear h hf hr hN ha
  unfold dptr
  go_enter Try.func25, Try.ntmps25
  go_wp2
  go_loopw [3, 4] (fun u i wx => ∃ k : Nat, k ≤ N ∧ i = .int .i64 (k : Int) ∧ Below w.heap.size w wx ∧ wx.ownsRow w.heap.size 2 1 u ((s.l.take k).map Sq.One.id).length (ic ((s.l.take k).map Sq.One.id))) (fun _ i _ => N - (intOf i).toNat)
  case atStart => exact ⟨0, Nat.zero_le _, rfl, Below.refl _ _, World.ownsRow_nil _ _ _ _⟩
  case round =>
    obtain ⟨k, hk, rfl, hb, hu⟩ := hrel
    obtain ⟨ua, uc, hu5, j1, j2⟩ := row_form hu
    obtain ⟨E, hE⟩ : ∃ E, E = ((s.l.take k).map Sq.One.id).length := ⟨_, rfl⟩
    rw [← hE] at hu5
    subst hu5
    have HW : Hid (Below w.heap.size w wr ∧ wr.ownsRow w.heap.size 2 1 (.slice ua E uc) ((s.l.take k).map Sq.One.id).length (ic ((s.l.take k).map Sq.One.id))) := ⟨hb, hu⟩
    clear hb hu hE j1 j2
    have c3 : wr.cell? ⟨q, 3, none⟩ = some (.slice a N c) := (H0.out.1.later HW.out.1).blk.cell 3
    by_cases hlt : k < N
    · have hlt' : (k : Int) < (N : Int) := by omega
      have hk0 : (0 : Int) ≤ (k : Int) := by omega
      have hwk : IntKind.wrap .i64 ((k : Int) + 1) = (k : Int) + 1 := by rw [IntKind.wrap_i64]; omega
      obtain ⟨g, hg⟩ := H0.out.2.2 (by omega)
      subst hg
      obtain ⟨x, hx⟩ : ∃ x, s.l[k]? = some x := ⟨s.l[k]'(by rw [← H0.out.2.1]; exact hlt), List.getElem?_eq_getElem _⟩
      have HX : Hid ((s.l.take (k + 1)).map Sq.One.id = (s.l.take k).map Sq.One.id ++ [x.id]) := (show _ = _ by rw [List.take_add_one, hx, List.map_append]; rfl)
      have hr := (H0.out.1.later HW.out.1).row
      rw [← H0.out.2.1] at hr
      obtain ⟨r0, r1, r2⟩ := row_at15 hr hx
      clear hx hr
      obtain ⟨sb, hsb⟩ : ∃ z, z = wr.heap.size := ⟨_, rfl⟩
      have H6 : Hid (Below w.heap.size w (wr.alloc (.cells #[.int .i64 x.id] 2)) ∧ (wr.alloc (.cells #[.int .i64 x.id] 2)).ownsRow w.heap.size 2 1 (.slice ua E uc) ((s.l.take k).map Sq.One.id).length (ic ((s.l.take k).map Sq.One.id)) ∧ Cb (wr.alloc (.cells #[.int .i64 x.id] 2)) sb (ic [x.id]) 2) := by
        rw [hsb]
        exact ⟨HW.out.1.alloc HW.out.1.size _, HW.out.2.alloc _, Cb.made wr (ic [x.id]) _⟩
      go_wp2_with (at_builtin; rw [← hsb]; refine wpList_ic15 rfl _ _ rfl w.heap.size (.slice ua E uc) ((s.l.take k).map Sq.One.id) [x.id] sb 1 2 (wr.alloc (.cells #[.int .i64 x.id] 2)) rfl rfl H6.out.2.1 H6.out.1.size H6.out.2.2 (by simp; omega) ?_)
      clear hsb r0 r1 r2 c3
      generalize (wr.alloc (.cells #[.int .i64 x.id] 2)) = w5 at *
      intro v6 w6 hr6 hb6 hg6 hv6
      have hr7 : w6.ownsRow w.heap.size 2 1 v6 ((s.l.take (k + 1)).map Sq.One.id).length (ic ((s.l.take (k + 1)).map Sq.One.id)) := by rw [HX.out]; simpa using hr6
      have H7 : Hid (Below w.heap.size w w6 ∧ w6.ownsRow w.heap.size 2 1 v6 ((s.l.take (k + 1)).map Sq.One.id).length (ic ((s.l.take (k + 1)).map Sq.One.id))) := ⟨H6.out.1.trans (hb6.mono (Nat.le_refl _)), hr7⟩
      obtain ⟨a6, c6, e6, j1, j2⟩ := row_form hr7
      subst e6
      clear hr6 hr7 hb6 hg6 hv6 j1 j2
      go_wp2
      go_roundw
      case rel => exact ⟨k + 1, by omega, by go_num, H7.out.1, H7.out.2⟩
      case measure => simp [intOf]; omega
    · have hlt' : ¬ (k : Int) < (N : Int) := by omega
      obtain rfl : k = N := by omega
      have HE : Hid (Bi wr (.slice ua E uc) (Sq.all s) ∧ (∀ j, (Value.slice ua E uc).ownBlock = some j → w.heap.size ≤ j)) := by
        have h := HW.out.2
        rw [List.take_of_length_le (by rw [← H0.out.2.1]; exact Nat.le_refl _)] at h
        exact ⟨Bi.own h, fun j hj => (h.lt j hj).1⟩
      go_wp2
      go_ret
      exact ⟨_, rfl, HE.out.1, HE.out.2, HW.out.1⟩

/-- A session of the row is renewed. -/
theorem Rs15.renew {w : World} {q g N c p : Nat} {s : Sq.St} {x : Sq.One} (h : Rs15 w q s (.slice (some ⟨g, 0, none⟩) N c)) (hN : N = s.l.length) (hx : s.l[p]? = some x) (t : Int) :
    Rs15 (w.setCell ⟨g, p * 3 + 2, none⟩ (.int .i64 t)) q ⟨s.room, s.now, s.next, s.l.set p ⟨x.id, x.span, t⟩⟩ (.slice (some ⟨g, 0, none⟩) N c) ∧ Moved w (w.setCell ⟨g, p * 3 + 2, none⟩ (.int .i64 t)) (Fs15 (.slice (some ⟨g, 0, none⟩) N c) q) (Fs15 (.slice (some ⟨g, 0, none⟩) N c) q) := by
  have hg := grownBy_setCell w ⟨g, p * 3 + 2, none⟩ (.int .i64 t)
  have hap := h.blk.apart h.row (by decide)
  refine ⟨⟨h.blk.keep (hg.block q h.blk.lt (fun e => hap e.symm)), ?_⟩, hg.os, hg.tape, hg.output, hg.size, fun k hk hF => hg.block k hk (fun e => hF (Or.inl e.symm)), fun k hk => Or.inl hk⟩
  have hr := h.row
  rw [← hN] at hr
  have h2 := (hr.stored (p * 3 + 2) (.int .i64 t)).1
  rw [ocs_set hx] at h2
  simp only [List.length_set]
  rw [← hN]
  exact h2
set_option maxRecDepth 20000 in
set_option maxHeartbeats 4000000 in
theorem refTouch_any15 (q : Nat) (s : Sq.St) (F : Nat → Prop) (m id : Int) (w : World) (hL : LRe w q s F) (hf : Sq.Fine m s) (hm : m ≤ 2199023255552) :
    Calls Try.prog 19 #[dptr q, .int .i64 id] w fun e w' => ∃ F', e = .returned (.int .i64 (Sq.touch s id).1) ∧ LRe w' q (Sq.touch s id).2 F' ∧ Moved w w' F F' := by
  obtain ⟨v, h, rfl⟩ := hL
  have HS : Hid (Calls Try.prog 37 #[dptr q, .int .i64 id] w fun e w' => ∃ r, e = .returned (.int .i64 r) ∧ AtR s.l id r ∧ Below w.heap.size w w') := refAt_any15 q s v m id w h hf
  obtain ⟨N, hN⟩ : ∃ N, N = s.l.length := ⟨_, rfl⟩
  have hr := h.row
  rw [← hN] at hr
  obtain ⟨a, c, rfl, _, ha⟩ := row_form hr
  have H0 : Hid (Rs15 w q s (.slice a N c) ∧ N = s.l.length ∧ (0 < N → ∃ g, a = some ⟨g, 0, none⟩) ∧ Sq.Fine m s ∧ m ≤ 2199023255552) := ⟨h, hN, ha, hf, hm⟩
  have hN64 : N ≤ 64 := by rw [hN]; exact hf.len64
  clear h hf hr hN ha hm
  unfold dptr at *
  go_enter Try.func19, Try.ntmps19
  go_wp2_with fail
  refine HS.out.mono ?_
  rintro e w1 ⟨r, rfl, hA, hb⟩
  have H1 : Hid (Rs15 w1 q s (.slice a N c) ∧ Below w.heap.size w w1) := ⟨H0.out.1.later hb, hb⟩
  clear hb HS
  rcases hA with ⟨rfl, hno⟩ | ⟨p, x, rfl, hx, hid⟩
  · have HE : Hid (Sq.touch s id = (11, s)) := Sq.touch_no hno
    clear hno
    go_wp2
    go_ret
    have e1 : (Sq.touch s id).1 = 11 := by rw [HE.out]
    have e2 : (Sq.touch s id).2 = s := by rw [HE.out]
    rw [e1, e2]
    first | exact ⟨_, rfl, ⟨_, H1.out.1, rfl⟩, Moved.of_below _ H1.out.2⟩ | exact ⟨rfl, _, ⟨_, H1.out.1, rfl⟩, Moved.of_below _ H1.out.2⟩
  · have hpl := (List.getElem?_eq_some_iff.1 hx).1
    rw [← H0.out.2.1] at hpl
    obtain ⟨g, hg⟩ := H0.out.2.2.1 (by omega)
    subst hg
    have p0 : (0 : Int) ≤ (p : Int) := by omega
    have pN : (p : Int) < (N : Int) := by omega
    have hk := H0.out.2.2.2.1.ok x (List.mem_of_getElem? hx)
    have hw2 : IntKind.wrap .i64 (s.now + x.span) = s.now + x.span := by have := H0.out.2.2.2.1.nowm; have := H0.out.2.2.2.1.now0; have := hk.sp1; have := hk.spm; have := H0.out.2.2.2.2; rw [IntKind.wrap_i64]; omega
    have HT : Hid (Sq.touch s id = (0, ⟨s.room, s.now, s.next, s.l.set p (Sq.renew s.now x)⟩)) := by
      have := Sq.touch_at H0.out.2.2.2.1.rises hx
      rw [hid] at this
      exact this
    have hr1 := H1.out.1.row
    rw [← H0.out.2.1] at hr1
    have HX : Hid (s.l[p]? = some x) := hx
    obtain ⟨r0, r1, r2⟩ := row_at15 hr1 hx
    clear hr1 hx hid hk
    have c1 : w1.cell? ⟨q, 1, none⟩ = some (.int .i64 s.now) := H1.out.1.blk.cell 1
    have c3 : w1.cell? ⟨q, 3, none⟩ = some (.slice (some ⟨g, 0, none⟩) N c) := H1.out.1.blk.cell 3
    go_upto_region 4 with fail
    refine wp_region_T (fun w' => w'.cell? ⟨q, 1, none⟩ = some (.int .i64 s.now) ∧ w'.cell? ⟨q, 3, none⟩ = some (.slice (some ⟨g, 0, none⟩) N c) ∧ w'.cell? ⟨g, p * 3 + 1, none⟩ = some (.int .i64 x.span)) 20 (by kernel_rfl) ?_
    have HSX : Hid ((fun w' : World => w'.cell? ⟨q, 1, none⟩ = some (.int .i64 s.now) ∧ w'.cell? ⟨q, 3, none⟩ = some (.slice (some ⟨g, 0, none⟩) N c) ∧ w'.cell? ⟨g, p * 3 + 1, none⟩ = some (.int .i64 x.span)) w1.drew) := ⟨c1, c3, r1⟩
    have H2 : Hid (Rs15 w1.drew q s (.slice (some ⟨g, 0, none⟩) N c) ∧ Below w.heap.size w w1.drew) := ⟨H1.out.1.later (Below.refl _ _).drew, H1.out.2.drew⟩
    have d2 : w1.drew.cell? ⟨g, p * 3 + 2, none⟩ = some (.int .i64 x.till) := r2
    clear c1 c3 r0 r1 r2 H1
    generalize w1.drew = w2 at *
    refine' take_T (i := 0) (d := 11) (v := _) rfl rfl (by kernel_rfl) (by kernel_rfl) (by kernel_rfl) (by kernel_rfl) (by kernel_rfl) (fun _ _ _ h => h) (Or.inl ⟨by rfl, ?h0⟩) (HSX.out) ?_
    case h0 =>
      intro w hSw
      obtain ⟨t1, t3, t4⟩ := hSw
      go_simp
      with_reducible rfl
    simp only [List.setIfInBounds_toArray, List.set_cons_zero, List.set_cons_succ]
    refine' take_T (i := 1) (d := 12) (v := _) rfl rfl (by kernel_rfl) (by kernel_rfl) (by kernel_rfl) (by kernel_rfl) (by kernel_rfl) (fun _ _ _ h => h) (Or.inl ⟨by rfl, ?h1⟩) (HSX.out) ?_
    case h1 =>
      intro w hSw
      obtain ⟨t1, t3, t4⟩ := hSw
      go_simp
      with_reducible rfl
    simp only [List.setIfInBounds_toArray, List.set_cons_zero, List.set_cons_succ]
    refine' take_T (i := 2) (d := 13) (v := _) rfl rfl (by kernel_rfl) (by kernel_rfl) (by kernel_rfl) (by kernel_rfl) (by kernel_rfl) (fun _ _ _ h => h) (Or.inl ⟨by rfl, ?h2⟩) (HSX.out) ?_
    case h2 =>
      intro w hSw
      obtain ⟨t1, t3, t4⟩ := hSw
      go_simp
      with_reducible rfl
    simp only [List.setIfInBounds_toArray, List.set_cons_zero, List.set_cons_succ]
    refine' take_T (i := 3) (d := 14) (v := _) rfl rfl (by kernel_rfl) (by kernel_rfl) (by kernel_rfl) (by kernel_rfl) (by kernel_rfl) (fun _ _ _ h => h) (Or.inl ⟨by rfl, ?h3⟩) (HSX.out) ?_
    case h3 =>
      intro w hSw
      obtain ⟨t1, t3, t4⟩ := hSw
      go_simp
      with_reducible rfl
    simp only [List.setIfInBounds_toArray, List.set_cons_zero, List.set_cons_succ]
    refine' take_T (i := 4) (d := 15) (v := _) rfl rfl (by kernel_rfl) (by kernel_rfl) (by kernel_rfl) (by kernel_rfl) (by kernel_rfl) (fun _ _ _ h => h) (Or.inl ⟨by rfl, ?h4⟩) (HSX.out) ?_
    case h4 =>
      intro w hSw
      obtain ⟨t1, t3, t4⟩ := hSw
      go_simp
      with_reducible rfl
    simp only [List.setIfInBounds_toArray, List.set_cons_zero, List.set_cons_succ]
    refine' take_T (i := 5) (d := 16) (v := _) rfl rfl (by kernel_rfl) (by kernel_rfl) (by kernel_rfl) (by kernel_rfl) (by kernel_rfl) (fun _ _ _ h => h) (Or.inl ⟨by rfl, ?h5⟩) (HSX.out) ?_
    case h5 =>
      intro w hSw
      obtain ⟨t1, t3, t4⟩ := hSw
      go_simp
      with_reducible rfl
    simp only [List.setIfInBounds_toArray, List.set_cons_zero, List.set_cons_succ]
    refine' take_T (i := 6) (d := 17) (v := _) rfl rfl (by kernel_rfl) (by kernel_rfl) (by kernel_rfl) (by kernel_rfl) (by kernel_rfl) (fun _ _ _ h => h) (Or.inl ⟨by rfl, ?h6⟩) (HSX.out) ?_
    case h6 =>
      intro w hSw
      obtain ⟨t1, t3, t4⟩ := hSw
      go_simp
      with_reducible rfl
    simp only [List.setIfInBounds_toArray, List.set_cons_zero, List.set_cons_succ]
    refine' take_T (i := 7) (d := 18) (v := _) rfl rfl (by kernel_rfl) (by kernel_rfl) (by kernel_rfl) (by kernel_rfl) (by kernel_rfl) (fun _ _ _ h => h) (Or.inl ⟨by rfl, ?h7⟩) (HSX.out) ?_
    case h7 =>
      intro w hSw
      obtain ⟨t1, t3, t4⟩ := hSw
      go_simp
      with_reducible rfl
    simp only [List.setIfInBounds_toArray, List.set_cons_zero, List.set_cons_succ]
    refine' take_T (i := 8) (d := 19) (v := _) rfl rfl (by kernel_rfl) (by kernel_rfl) (by kernel_rfl) (by kernel_rfl) (by kernel_rfl) (fun _ _ _ h => h) (Or.inl ⟨by rfl, ?h8⟩) (HSX.out) ?_
    case h8 =>
      intro w hSw
      obtain ⟨t1, t3, t4⟩ := hSw
      go_simp
      with_reducible rfl
    simp only [List.setIfInBounds_toArray, List.set_cons_zero, List.set_cons_succ]
    refine' take_T (i := 9) (d := 20) (v := _) rfl rfl (by kernel_rfl) (by kernel_rfl) (by kernel_rfl) (by kernel_rfl) (by kernel_rfl) (fun _ _ _ h => h) (Or.inl ⟨by rfl, ?h9⟩) (HSX.out) ?_
    case h9 =>
      intro w hSw
      obtain ⟨t1, t3, t4⟩ := hSw
      go_simp
      with_reducible rfl
    simp only [List.setIfInBounds_toArray, List.set_cons_zero, List.set_cons_succ]
    refine' take_T (i := 10) (d := 21) (v := _) rfl rfl (by kernel_rfl) (by kernel_rfl) (by kernel_rfl) (by kernel_rfl) (by kernel_rfl) (fun _ _ _ h => h) (Or.inl ⟨by rfl, ?h10⟩) (HSX.out) ?_
    case h10 =>
      intro w hSw
      obtain ⟨t1, t3, t4⟩ := hSw
      go_simp
      with_reducible rfl
    simp only [List.setIfInBounds_toArray, List.set_cons_zero, List.set_cons_succ]
    refine' take_T (i := 11) (d := 22) (v := _) rfl rfl (by kernel_rfl) (by kernel_rfl) (by kernel_rfl) (by kernel_rfl) (by kernel_rfl) (fun _ _ _ h => h) (Or.inl ⟨by rfl, ?h11⟩) (HSX.out) ?_
    case h11 =>
      intro w hSw
      obtain ⟨t1, t3, t4⟩ := hSw
      go_simp
      with_reducible rfl
    simp only [List.setIfInBounds_toArray, List.set_cons_zero, List.set_cons_succ]
    refine' take_T (i := 12) (d := 23) (v := _) rfl rfl (by kernel_rfl) (by kernel_rfl) (by kernel_rfl) (by kernel_rfl) (by kernel_rfl) (fun _ _ _ h => h) (Or.inl ⟨by rfl, ?h12⟩) (HSX.out) ?_
    case h12 =>
      intro w hSw
      obtain ⟨t1, t3, t4⟩ := hSw
      go_simp
      with_reducible rfl
    simp only [List.setIfInBounds_toArray, List.set_cons_zero, List.set_cons_succ]
    refine' take_T (i := 13) (d := 24) (v := _) rfl rfl (by kernel_rfl) (by kernel_rfl) (by kernel_rfl) (by kernel_rfl) (by kernel_rfl) (fun _ _ _ h => h) (Or.inl ⟨by rfl, ?h13⟩) (HSX.out) ?_
    case h13 =>
      intro w hSw
      obtain ⟨t1, t3, t4⟩ := hSw
      go_simp
      with_reducible rfl
    simp only [List.setIfInBounds_toArray, List.set_cons_zero, List.set_cons_succ]
    refine' take_T (i := 14) (d := 25) (v := _) rfl rfl (by kernel_rfl) (by kernel_rfl) (by kernel_rfl) (by kernel_rfl) (by kernel_rfl) (fun _ _ _ h => h) (Or.inl ⟨by rfl, ?h14⟩) (HSX.out) ?_
    case h14 =>
      intro w hSw
      obtain ⟨t1, t3, t4⟩ := hSw
      go_simp
      with_reducible rfl
    simp only [List.setIfInBounds_toArray, List.set_cons_zero, List.set_cons_succ]
    refine' take_T (i := 15) (d := 26) (v := _) rfl rfl (by kernel_rfl) (by kernel_rfl) (by kernel_rfl) (by kernel_rfl) (by kernel_rfl) (fun _ _ _ h => h) (Or.inl ⟨by rfl, ?h15⟩) (HSX.out) ?_
    case h15 =>
      intro w hSw
      obtain ⟨t1, t3, t4⟩ := hSw
      go_simp
      with_reducible rfl
    simp only [List.setIfInBounds_toArray, List.set_cons_zero, List.set_cons_succ]
    refine' take_T (i := 16) (d := 27) (v := _) rfl rfl (by kernel_rfl) (by kernel_rfl) (by kernel_rfl) (by kernel_rfl) (by kernel_rfl) (fun _ _ _ h => h) (Or.inl ⟨by rfl, ?h16⟩) (HSX.out) ?_
    case h16 =>
      intro w hSw
      obtain ⟨t1, t3, t4⟩ := hSw
      go_simp
      with_reducible rfl
    simp only [List.setIfInBounds_toArray, List.set_cons_zero, List.set_cons_succ]
    refine' take_T (i := 17) (d := 28) (v := _) rfl rfl (by kernel_rfl) (by kernel_rfl) (by kernel_rfl) (by kernel_rfl) (by kernel_rfl) (fun _ _ _ h => h) (Or.inl ⟨by rfl, ?h17⟩) (HSX.out) ?_
    case h17 =>
      intro w hSw
      obtain ⟨t1, t3, t4⟩ := hSw
      go_simp
      with_reducible rfl
    simp only [List.setIfInBounds_toArray, List.set_cons_zero, List.set_cons_succ]
    refine' take_T (i := 18) (d := 29) (v := _) rfl rfl (by kernel_rfl) (by kernel_rfl) (by kernel_rfl) (by kernel_rfl) (by kernel_rfl) (fun _ _ _ h => h) (Or.inl ⟨by rfl, ?h18⟩) (HSX.out) ?_
    case h18 =>
      intro w hSw
      obtain ⟨t1, t3, t4⟩ := hSw
      go_simp
      with_reducible rfl
    simp only [List.setIfInBounds_toArray, List.set_cons_zero, List.set_cons_succ]
    refine' take_T (i := 19) (d := 30) (v := _) rfl rfl (by kernel_rfl) (by kernel_rfl) (by kernel_rfl) (by kernel_rfl) (by kernel_rfl) (fun _ _ _ h => h) (Or.inl ⟨by rfl, ?h19⟩) (HSX.out) ?_
    case h19 =>
      intro w hSw
      obtain ⟨t1, t3, t4⟩ := hSw
      go_simp
      with_reducible rfl
    simp only [List.setIfInBounds_toArray, List.set_cons_zero, List.set_cons_succ]
    refine wpAnyT_ready (rs := [20]) (by kernel_rfl) (by simp) ?_
    refine AllReadyT.cons (o := _) rfl (fun KQ hKQ => ?_) AllReadyT.nil
    have f2 : w2.frozen? ⟨g, p * 3 + 2, none⟩ = false := by
      have hr2 := H2.out.1.row
      rw [← H0.out.2.1] at hr2
      obtain ⟨C0, hC, _⟩ := row_whole15 hr2
      exact hC.free _
    go_simp
    have HE : Hid (LRe (w2.setCell ⟨g, p * 3 + 2, none⟩ (.int .i64 (s.now + x.span))) q (Sq.touch s id).2 (Fs15 (.slice (some ⟨g, 0, none⟩) N c) q) ∧ Moved w (w2.setCell ⟨g, p * 3 + 2, none⟩ (.int .i64 (s.now + x.span))) (Fs15 (.slice (some ⟨g, 0, none⟩) N c) q) (Fs15 (.slice (some ⟨g, 0, none⟩) N c) q)) := by
      have h := H2.out.1.renew H0.out.2.1 HX.out (s.now + x.span)
      rw [HT.out]
      exact ⟨⟨_, h.1, rfl⟩, (Moved.of_below _ H2.out.2).trans h.2⟩
    clear d2 f2 HSX H2
    generalize w2.setCell ⟨g, p * 3 + 2, none⟩ (.int .i64 (s.now + x.span)) = w3 at *
    refine hKQ.out _ _ (fun h => absurd rfl h) ?_
    clear hKQ KQ
    refine wpAnyT_done (by kernel_rfl) ?_ _
    go_wp2
    go_ret
    have e1 : (Sq.touch s id).1 = 0 := by rw [HT.out]
    rw [e1]
    first | exact ⟨_, rfl, HE.out.1, HE.out.2⟩ | exact ⟨rfl, _, HE.out.1, HE.out.2⟩
end Go.Proofs.Ytlabdhllindenaa
