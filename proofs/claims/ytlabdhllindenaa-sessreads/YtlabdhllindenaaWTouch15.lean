/- What Touch does. -/
import Derived.Test.YtlabdhllindenaaWLive15
import Derived.Test.YtlabdhllindenaaWTick15
namespace Go.Proofs.Ytlabdhllindenaa
open Go.RowKit

theorem ocs_set {l : List Sq.One} {p : Nat} {x : Sq.One} (hx : l[p]? = some x) (t : Int) : (ocs l).set (p * 3 + 2) (.int .i64 t) = ocs (l.set p ⟨x.id, x.span, t⟩) := by
  induction l generalizing p with
  | nil => simp at hx
  | cons y l ih =>
    cases p with
    | zero =>
      simp at hx
      subst hx
      rfl
    | succ p =>
      show (oc y ++ ocs l).set ((p + 1) * 3 + 2) _ = oc y ++ ocs (l.set p _)
      rw [← ih (by simpa using hx), List.set_append_right _ _ (by show 3 ≤ _; omega)]
      congr 1
      show (ocs l).set ((p + 1) * 3 + 2 - 3) _ = _
      rw [show (p + 1) * 3 + 2 - 3 = p * 3 + 2 by omega]
/-- A session of the row is renewed. -/
theorem Ls15.renew {w : World} {q g N c p : Nat} {s : Sq.St} {x : Sq.One} (h : Ls15 w q s (.slice (some ⟨g, 0, none⟩) N c)) (hN : N = s.l.length) (hx : s.l[p]? = some x) (t : Int) :
    Ls15 (w.setCell ⟨g, p * 3 + 2, none⟩ (.int .i64 t)) q ⟨s.room, s.now, s.next, s.l.set p ⟨x.id, x.span, t⟩⟩ (.slice (some ⟨g, 0, none⟩) N c) ∧ Moved w (w.setCell ⟨g, p * 3 + 2, none⟩ (.int .i64 t)) (Fs15 (.slice (some ⟨g, 0, none⟩) N c) q) (Fs15 (.slice (some ⟨g, 0, none⟩) N c) q) := by
  have hg := grownBy_setCell w ⟨g, p * 3 + 2, none⟩ (.int .i64 t)
  have hap := h.blk.apart h.row (by decide)
  refine ⟨⟨h.blk.keep (hg.block q h.blk.lt (fun e => hap e.symm)), ?_⟩, hg.os, hg.tape, hg.output, hg.size, fun k hk hF => hg.block k hk (fun e => hF (Or.inl e.symm)), fun k hk => Or.inl hk⟩
  have hr := h.row
  rw [← hN] at hr
  have h2 := (hr.stored (p * 3 + 2) (.int .i64 t)).1
  rw [ocs_set hx] at h2
  simp only [List.length_set]
  rw [← hN]
  exact h2
set_option maxRecDepth 20000 in
set_option maxHeartbeats 4000000 in
theorem touch_no15 (q : Nat) (s : Sq.St) (F : Nat → Prop) (m id : Int) (w : World) (hL : LSe w q s F) (hf : Sq.Fine m s) (hno : Sq.has s.l id = false) :
    Calls Try.prog 14 #[dptr q, .int .i64 id] w fun e w' => ∃ F', e = .returned (.int .i64 (Sq.touch s id).1) ∧ LSe w' q (Sq.touch s id).2 F' ∧ Moved w w' F F' := by
  rw [Sq.touch_no hno]
  have HE : Hid (∀ w', Below w.heap.size w w' → LSe w' q s F ∧ Moved w w' F F) := fun w' hb => ⟨LSe.keep hL fun k hk => hb.block k (LSe.lt hL hk), Moved.of_below _ hb⟩
  obtain ⟨v, h, rfl⟩ := hL
  have HS : Hid (Calls Try.prog 30 #[dptr q, .int .i64 id] w fun e w' => e = .returned (.tuple #[.int .i64 (Sq.pos s.l id : Int), .bool false]) ∧ Below w.heap.size w w') := by
    have := find_any15 q s v m id w h hf
    rw [hno] at this
    exact this
  clear h hf hno
  unfold dptr at *
  go_enter Try.func14, Try.ntmps14
  go_wp2_with fail
  refine HS.out.mono ?_
  rintro e w' ⟨rfl, hb⟩
  have HB : Hid (Below w.heap.size w w') := hb
  clear hb
  go_wp2
  go_ret
  have := HE.out _ HB.out
  first | exact ⟨_, rfl, this.1, this.2⟩ | exact ⟨rfl, _, this.1, this.2⟩
set_option maxRecDepth 20000 in
set_option maxHeartbeats 4000000 in
theorem touch_yes15 (q : Nat) (s : Sq.St) (F : Nat → Prop) (m id : Int) (w : World) (hL : LSe w q s F) (hf : Sq.Fine m s) (hm : m ≤ 2199023255552) (hyes : Sq.has s.l id = true) :
    Calls Try.prog 14 #[dptr q, .int .i64 id] w fun e w' => ∃ F', e = .returned (.int .i64 (Sq.touch s id).1) ∧ LSe w' q (Sq.touch s id).2 F' ∧ Moved w w' F F' := by
  obtain ⟨x, hx, hid⟩ := (Sq.pos_has hf.rises).1 hyes
  obtain ⟨p, hp⟩ : ∃ p, p = Sq.pos s.l id := ⟨_, rfl⟩
  rw [← hp] at hx
  have HT : Hid (Sq.touch s id = (0, ⟨s.room, s.now, s.next, s.l.set p (Sq.renew s.now x)⟩)) := by
    have := Sq.touch_at hf.rises hx
    rw [hid] at this
    exact this
  obtain ⟨v, h, rfl⟩ := hL
  have HS : Hid (Calls Try.prog 30 #[dptr q, .int .i64 id] w fun e w' => e = .returned (.tuple #[.int .i64 (p : Int), .bool true]) ∧ Below w.heap.size w w') := by
    have := find_any15 q s v m id w h hf
    rw [hyes, ← hp] at this
    exact this
  have hpl := (List.getElem?_eq_some_iff.1 hx).1
  obtain ⟨N, hN⟩ : ∃ N, N = s.l.length := ⟨_, rfl⟩
  have hr := h.row
  rw [← hN] at hr hpl
  obtain ⟨a, c, rfl, _, ha⟩ := row_form hr
  obtain ⟨g, rfl⟩ := ha (by omega)
  have hN64 : N ≤ 64 := by rw [hN]; exact hf.len64
  have hk := hf.ok x (List.mem_of_getElem? hx)
  have hw2 : IntKind.wrap .i64 (s.now + x.span) = s.now + x.span := by have := hf.nowm; have := hf.now0; have := hk.sp1; have := hk.spm; rw [IntKind.wrap_i64]; omega
  have p0 : (0 : Int) ≤ (p : Int) := by omega
  have pN : (p : Int) < (N : Int) := by omega
  have H0 : Hid (Ls15 w q s (.slice (some ⟨g, 0, none⟩) N c) ∧ N = s.l.length ∧ s.l[p]? = some x) := ⟨h, hN, hx⟩
  clear h hf hyes hx hid hp hr hN hk ha hm
  unfold dptr at *
  go_enter Try.func14, Try.ntmps14
  go_wp2_with fail
  refine HS.out.mono ?_
  rintro e w1 ⟨rfl, hb⟩
  have H1 : Hid (Ls15 w1 q s (.slice (some ⟨g, 0, none⟩) N c) ∧ Below w.heap.size w w1) := ⟨H0.out.1.later hb, hb⟩
  have hr1 := H1.out.1.row
  rw [← H0.out.2.1] at hr1
  obtain ⟨r0, r1, r2⟩ := row_at15 hr1 H0.out.2.2
  clear hb hr1
  have c1 : w1.cell? ⟨q, 1, none⟩ = some (.int .i64 s.now) := H1.out.1.blk.cell 1
  have c3 : w1.cell? ⟨q, 3, none⟩ = some (.slice (some ⟨g, 0, none⟩) N c) := H1.out.1.blk.cell 3
  go_upto_region 4 with fail
  refine wp_region_T (fun w' => w'.cell? ⟨q, 1, none⟩ = some (.int .i64 s.now) ∧ w'.cell? ⟨q, 3, none⟩ = some (.slice (some ⟨g, 0, none⟩) N c) ∧ w'.cell? ⟨g, p * 3 + 1, none⟩ = some (.int .i64 x.span)) 20 (by kernel_rfl) ?_
  have HSX : Hid ((fun w' : World => w'.cell? ⟨q, 1, none⟩ = some (.int .i64 s.now) ∧ w'.cell? ⟨q, 3, none⟩ = some (.slice (some ⟨g, 0, none⟩) N c) ∧ w'.cell? ⟨g, p * 3 + 1, none⟩ = some (.int .i64 x.span)) w1.drew) := ⟨c1, c3, r1⟩
  have H2 : Hid (Ls15 w1.drew q s (.slice (some ⟨g, 0, none⟩) N c) ∧ Below w.heap.size w w1.drew) := ⟨H1.out.1.later (Below.refl _ _).drew, H1.out.2.drew⟩
  have d2 : w1.drew.cell? ⟨g, p * 3 + 2, none⟩ = some (.int .i64 x.till) := r2
  clear c1 c3 r0 r1 r2 H1
  generalize w1.drew = w2 at *
  refine' take_T (i := 0) (d := 15) (v := _) rfl rfl (by kernel_rfl) (by kernel_rfl) (by kernel_rfl) (by kernel_rfl) (by kernel_rfl) (fun _ _ _ h => h) (Or.inl ⟨by rfl, ?h0⟩) (HSX.out) ?_
  case h0 =>
    intro w hSw
    obtain ⟨t1, t3, t4⟩ := hSw
    go_simp
    with_reducible rfl
  simp only [List.setIfInBounds_toArray, List.set_cons_zero, List.set_cons_succ]
  refine' take_T (i := 1) (d := 16) (v := _) rfl rfl (by kernel_rfl) (by kernel_rfl) (by kernel_rfl) (by kernel_rfl) (by kernel_rfl) (fun _ _ _ h => h) (Or.inl ⟨by rfl, ?h1⟩) (HSX.out) ?_
  case h1 =>
    intro w hSw
    obtain ⟨t1, t3, t4⟩ := hSw
    go_simp
    with_reducible rfl
  simp only [List.setIfInBounds_toArray, List.set_cons_zero, List.set_cons_succ]
  refine' take_T (i := 2) (d := 17) (v := _) rfl rfl (by kernel_rfl) (by kernel_rfl) (by kernel_rfl) (by kernel_rfl) (by kernel_rfl) (fun _ _ _ h => h) (Or.inl ⟨by rfl, ?h2⟩) (HSX.out) ?_
  case h2 =>
    intro w hSw
    obtain ⟨t1, t3, t4⟩ := hSw
    go_simp
    with_reducible rfl
  simp only [List.setIfInBounds_toArray, List.set_cons_zero, List.set_cons_succ]
  refine' take_T (i := 3) (d := 18) (v := _) rfl rfl (by kernel_rfl) (by kernel_rfl) (by kernel_rfl) (by kernel_rfl) (by kernel_rfl) (fun _ _ _ h => h) (Or.inl ⟨by rfl, ?h3⟩) (HSX.out) ?_
  case h3 =>
    intro w hSw
    obtain ⟨t1, t3, t4⟩ := hSw
    go_simp
    with_reducible rfl
  simp only [List.setIfInBounds_toArray, List.set_cons_zero, List.set_cons_succ]
  refine' take_T (i := 4) (d := 19) (v := _) rfl rfl (by kernel_rfl) (by kernel_rfl) (by kernel_rfl) (by kernel_rfl) (by kernel_rfl) (fun _ _ _ h => h) (Or.inl ⟨by rfl, ?h4⟩) (HSX.out) ?_
  case h4 =>
    intro w hSw
    obtain ⟨t1, t3, t4⟩ := hSw
    go_simp
    with_reducible rfl
  simp only [List.setIfInBounds_toArray, List.set_cons_zero, List.set_cons_succ]
  refine' take_T (i := 5) (d := 20) (v := _) rfl rfl (by kernel_rfl) (by kernel_rfl) (by kernel_rfl) (by kernel_rfl) (by kernel_rfl) (fun _ _ _ h => h) (Or.inl ⟨by rfl, ?h5⟩) (HSX.out) ?_
  case h5 =>
    intro w hSw
    obtain ⟨t1, t3, t4⟩ := hSw
    go_simp
    with_reducible rfl
  simp only [List.setIfInBounds_toArray, List.set_cons_zero, List.set_cons_succ]
  refine' take_T (i := 6) (d := 21) (v := _) rfl rfl (by kernel_rfl) (by kernel_rfl) (by kernel_rfl) (by kernel_rfl) (by kernel_rfl) (fun _ _ _ h => h) (Or.inl ⟨by rfl, ?h6⟩) (HSX.out) ?_
  case h6 =>
    intro w hSw
    obtain ⟨t1, t3, t4⟩ := hSw
    go_simp
    with_reducible rfl
  simp only [List.setIfInBounds_toArray, List.set_cons_zero, List.set_cons_succ]
  refine' take_T (i := 7) (d := 22) (v := _) rfl rfl (by kernel_rfl) (by kernel_rfl) (by kernel_rfl) (by kernel_rfl) (by kernel_rfl) (fun _ _ _ h => h) (Or.inl ⟨by rfl, ?h7⟩) (HSX.out) ?_
  case h7 =>
    intro w hSw
    obtain ⟨t1, t3, t4⟩ := hSw
    go_simp
    with_reducible rfl
  simp only [List.setIfInBounds_toArray, List.set_cons_zero, List.set_cons_succ]
  refine' take_T (i := 8) (d := 23) (v := _) rfl rfl (by kernel_rfl) (by kernel_rfl) (by kernel_rfl) (by kernel_rfl) (by kernel_rfl) (fun _ _ _ h => h) (Or.inl ⟨by rfl, ?h8⟩) (HSX.out) ?_
  case h8 =>
    intro w hSw
    obtain ⟨t1, t3, t4⟩ := hSw
    go_simp
    with_reducible rfl
  simp only [List.setIfInBounds_toArray, List.set_cons_zero, List.set_cons_succ]
  refine' take_T (i := 9) (d := 24) (v := _) rfl rfl (by kernel_rfl) (by kernel_rfl) (by kernel_rfl) (by kernel_rfl) (by kernel_rfl) (fun _ _ _ h => h) (Or.inl ⟨by rfl, ?h9⟩) (HSX.out) ?_
  case h9 =>
    intro w hSw
    obtain ⟨t1, t3, t4⟩ := hSw
    go_simp
    with_reducible rfl
  simp only [List.setIfInBounds_toArray, List.set_cons_zero, List.set_cons_succ]
  refine' take_T (i := 10) (d := 25) (v := _) rfl rfl (by kernel_rfl) (by kernel_rfl) (by kernel_rfl) (by kernel_rfl) (by kernel_rfl) (fun _ _ _ h => h) (Or.inl ⟨by rfl, ?h10⟩) (HSX.out) ?_
  case h10 =>
    intro w hSw
    obtain ⟨t1, t3, t4⟩ := hSw
    go_simp
    with_reducible rfl
  simp only [List.setIfInBounds_toArray, List.set_cons_zero, List.set_cons_succ]
  refine' take_T (i := 11) (d := 26) (v := _) rfl rfl (by kernel_rfl) (by kernel_rfl) (by kernel_rfl) (by kernel_rfl) (by kernel_rfl) (fun _ _ _ h => h) (Or.inl ⟨by rfl, ?h11⟩) (HSX.out) ?_
  case h11 =>
    intro w hSw
    obtain ⟨t1, t3, t4⟩ := hSw
    go_simp
    with_reducible rfl
  simp only [List.setIfInBounds_toArray, List.set_cons_zero, List.set_cons_succ]
  refine' take_T (i := 12) (d := 27) (v := _) rfl rfl (by kernel_rfl) (by kernel_rfl) (by kernel_rfl) (by kernel_rfl) (by kernel_rfl) (fun _ _ _ h => h) (Or.inl ⟨by rfl, ?h12⟩) (HSX.out) ?_
  case h12 =>
    intro w hSw
    obtain ⟨t1, t3, t4⟩ := hSw
    go_simp
    with_reducible rfl
  simp only [List.setIfInBounds_toArray, List.set_cons_zero, List.set_cons_succ]
  refine' take_T (i := 13) (d := 28) (v := _) rfl rfl (by kernel_rfl) (by kernel_rfl) (by kernel_rfl) (by kernel_rfl) (by kernel_rfl) (fun _ _ _ h => h) (Or.inl ⟨by rfl, ?h13⟩) (HSX.out) ?_
  case h13 =>
    intro w hSw
    obtain ⟨t1, t3, t4⟩ := hSw
    go_simp
    with_reducible rfl
  simp only [List.setIfInBounds_toArray, List.set_cons_zero, List.set_cons_succ]
  refine' take_T (i := 14) (d := 29) (v := _) rfl rfl (by kernel_rfl) (by kernel_rfl) (by kernel_rfl) (by kernel_rfl) (by kernel_rfl) (fun _ _ _ h => h) (Or.inl ⟨by rfl, ?h14⟩) (HSX.out) ?_
  case h14 =>
    intro w hSw
    obtain ⟨t1, t3, t4⟩ := hSw
    go_simp
    with_reducible rfl
  simp only [List.setIfInBounds_toArray, List.set_cons_zero, List.set_cons_succ]
  refine' take_T (i := 15) (d := 30) (v := _) rfl rfl (by kernel_rfl) (by kernel_rfl) (by kernel_rfl) (by kernel_rfl) (by kernel_rfl) (fun _ _ _ h => h) (Or.inl ⟨by rfl, ?h15⟩) (HSX.out) ?_
  case h15 =>
    intro w hSw
    obtain ⟨t1, t3, t4⟩ := hSw
    go_simp
    with_reducible rfl
  simp only [List.setIfInBounds_toArray, List.set_cons_zero, List.set_cons_succ]
  refine' take_T (i := 16) (d := 31) (v := _) rfl rfl (by kernel_rfl) (by kernel_rfl) (by kernel_rfl) (by kernel_rfl) (by kernel_rfl) (fun _ _ _ h => h) (Or.inl ⟨by rfl, ?h16⟩) (HSX.out) ?_
  case h16 =>
    intro w hSw
    obtain ⟨t1, t3, t4⟩ := hSw
    go_simp
    with_reducible rfl
  simp only [List.setIfInBounds_toArray, List.set_cons_zero, List.set_cons_succ]
  refine' take_T (i := 17) (d := 32) (v := _) rfl rfl (by kernel_rfl) (by kernel_rfl) (by kernel_rfl) (by kernel_rfl) (by kernel_rfl) (fun _ _ _ h => h) (Or.inl ⟨by rfl, ?h17⟩) (HSX.out) ?_
  case h17 =>
    intro w hSw
    obtain ⟨t1, t3, t4⟩ := hSw
    go_simp
    with_reducible rfl
  simp only [List.setIfInBounds_toArray, List.set_cons_zero, List.set_cons_succ]
  refine' take_T (i := 18) (d := 33) (v := _) rfl rfl (by kernel_rfl) (by kernel_rfl) (by kernel_rfl) (by kernel_rfl) (by kernel_rfl) (fun _ _ _ h => h) (Or.inl ⟨by rfl, ?h18⟩) (HSX.out) ?_
  case h18 =>
    intro w hSw
    obtain ⟨t1, t3, t4⟩ := hSw
    go_simp
    with_reducible rfl
  simp only [List.setIfInBounds_toArray, List.set_cons_zero, List.set_cons_succ]
  refine' take_T (i := 19) (d := 34) (v := _) rfl rfl (by kernel_rfl) (by kernel_rfl) (by kernel_rfl) (by kernel_rfl) (by kernel_rfl) (fun _ _ _ h => h) (Or.inl ⟨by rfl, ?h19⟩) (HSX.out) ?_
  case h19 =>
    intro w hSw
    obtain ⟨t1, t3, t4⟩ := hSw
    go_simp
    with_reducible rfl
  simp only [List.setIfInBounds_toArray, List.set_cons_zero, List.set_cons_succ]
  refine wpAnyT_ready (rs := [20]) (by kernel_rfl) (by simp) ?_
  refine AllReadyT.cons (o := _) rfl (fun KQ hKQ => ?_) AllReadyT.nil
  have f2 : w2.frozen? ⟨g, p * 3 + 2, none⟩ = false := by
    have hr2 := H2.out.1.row
    rw [← H0.out.2.1] at hr2
    obtain ⟨C0, hC, _⟩ := row_whole15 hr2
    exact hC.free _
  go_simp
  have HE : Hid (LSe (w2.setCell ⟨g, p * 3 + 2, none⟩ (.int .i64 (s.now + x.span))) q (Sq.touch s id).2 (Fs15 (.slice (some ⟨g, 0, none⟩) N c) q) ∧ Moved w (w2.setCell ⟨g, p * 3 + 2, none⟩ (.int .i64 (s.now + x.span))) (Fs15 (.slice (some ⟨g, 0, none⟩) N c) q) (Fs15 (.slice (some ⟨g, 0, none⟩) N c) q)) := by
    have h := H2.out.1.renew H0.out.2.1 H0.out.2.2 (s.now + x.span)
    rw [HT.out]
    exact ⟨⟨_, h.1, rfl⟩, (Moved.of_below _ H2.out.2).trans h.2⟩
  clear d2 f2 HSX H2
  generalize w2.setCell ⟨g, p * 3 + 2, none⟩ (.int .i64 (s.now + x.span)) = w3 at *
  refine hKQ.out _ _ (fun h => absurd rfl h) ?_
  clear hKQ KQ
  refine wpAnyT_done (by kernel_rfl) ?_ _
  go_wp2
  go_ret
  have e1 : (Sq.touch s id).1 = 0 := by rw [HT.out]
  rw [e1]
  first | exact ⟨_, rfl, HE.out.1, HE.out.2⟩ | exact ⟨rfl, _, HE.out.1, HE.out.2⟩
theorem touch_any15 (q : Nat) (s : Sq.St) (F : Nat → Prop) (m id : Int) (w : World) (hL : LSe w q s F) (hf : Sq.Fine m s) (hm : m ≤ 2199023255552) :
    Calls Try.prog 14 #[dptr q, .int .i64 id] w fun e w' => ∃ F', e = .returned (.int .i64 (Sq.touch s id).1) ∧ LSe w' q (Sq.touch s id).2 F' ∧ Moved w w' F F' := by
  cases h : Sq.has s.l id with
  | true => exact touch_yes15 q s F m id w hL hf hm h
  | false => exact touch_no15 q s F m id w hL hf h
end Go.Proofs.Ytlabdhllindenaa
