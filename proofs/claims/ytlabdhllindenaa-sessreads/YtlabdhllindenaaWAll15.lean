/- What All and Put answer. -/
import Derived.Test.YtlabdhllindenaaApp15
import Derived.Test.YtlabdhllindenaaLibW
namespace Go.Proofs.Ytlabdhllindenaa
open Go.RowKit

set_option maxRecDepth 20000 in
set_option maxHeartbeats 4000000 in
theorem all_any15 (q : Nat) (s : Sq.St) (F : Nat → Prop) (m : Int) (w : World) (hL : LSe w q s F) (hf : Sq.Fine m s) :
    Calls Try.prog 24 #[dptr q] w fun e w' => ∃ v, e = .returned v ∧ Bi w' v (Sq.all s) ∧ (∀ k, v.ownBlock = some k → w.heap.size ≤ k) ∧ Below w.heap.size w w' := by
  obtain ⟨v, h, rfl⟩ := hL
  obtain ⟨N, hN⟩ : ∃ N, N = s.l.length := ⟨_, rfl⟩
  have hr := h.row
  rw [← hN] at hr
  obtain ⟨a, c, rfl, _, ha⟩ := row_form hr
  have hN64 : N ≤ 64 := by rw [hN]; exact hf.len64
  have H0 : Hid (Ls15 w q s (.slice a N c) ∧ N = s.l.length ∧ (0 < N → ∃ g, a = some ⟨g, 0, none⟩)) := ⟨h, hN, ha⟩
  have c3 : w.cell? ⟨q, 3, none⟩ = some (.slice a N c) := h.blk.cell 3
  clear h hf hr hN ha
  unfold dptr
  go_enter Try.func24, Try.ntmps24
  go_wp2
  clear c3
  go_loopw [3, 11] (fun u i wx => ∃ k : Nat, k ≤ N ∧ i = .int .i64 (k : Int) ∧ Below w.heap.size w wx ∧ wx.ownsRow w.heap.size 2 1 u ((s.l.take k).map Sq.One.id).length (ic ((s.l.take k).map Sq.One.id))) (fun _ i _ => N - (intOf i).toNat)
  case atStart => exact ⟨0, Nat.zero_le _, rfl, Below.refl _ _, World.ownsRow_nil _ _ _ _⟩
  case round =>
    obtain ⟨k, hk, rfl, hb, hu⟩ := hrel
    obtain ⟨ua, uc, hu5, j1, j2⟩ := row_form hu
    obtain ⟨E, hE⟩ : ∃ E, E = ((s.l.take k).map Sq.One.id).length := ⟨_, rfl⟩
    rw [← hE] at hu5
    subst hu5
    have HW : Hid (Below w.heap.size w wr ∧ wr.ownsRow w.heap.size 2 1 (.slice ua E uc) ((s.l.take k).map Sq.One.id).length (ic ((s.l.take k).map Sq.One.id))) := ⟨hb, hu⟩
    clear hb hu hE j1 j2
    by_cases hlt : k < N
    · have hlt' : (k : Int) < (N : Int) := by omega
      have hk0 : (0 : Int) ≤ (k : Int) := by omega
      have hwk : IntKind.wrap .i64 ((k : Int) + 1) = (k : Int) + 1 := by rw [IntKind.wrap_i64]; omega
      obtain ⟨g, hg⟩ := H0.out.2.2 (by omega)
      subst hg
      obtain ⟨x, hx⟩ : ∃ x, s.l[k]? = some x := ⟨s.l[k]'(by rw [← H0.out.2.1]; exact hlt), List.getElem?_eq_getElem _⟩
      have HX : Hid ((s.l.take (k + 1)).map Sq.One.id = (s.l.take k).map Sq.One.id ++ [x.id]) := (show _ = _ by rw [List.take_add_one, hx, List.map_append]; rfl)
      have hr := (H0.out.1.later HW.out.1).row
      rw [← H0.out.2.1] at hr
      obtain ⟨r0, r1, r2⟩ := row_at15 hr hx
      clear hx hr
      obtain ⟨xb, hxb⟩ : ∃ z, z = wr.heap.size := ⟨_, rfl⟩
      have H4 : Hid (Below w.heap.size w (wr.alloc (.cells #[.int .i64 x.id, .int .i64 x.span, .int .i64 x.till] 58)) ∧ (wr.alloc (.cells #[.int .i64 x.id, .int .i64 x.span, .int .i64 x.till] 58)).ownsRow w.heap.size 2 1 (.slice ua E uc) ((s.l.take k).map Sq.One.id).length (ic ((s.l.take k).map Sq.One.id)) ∧ Cb (wr.alloc (.cells #[.int .i64 x.id, .int .i64 x.span, .int .i64 x.till] 58)) xb (oc x) 58) := by
        rw [hxb]
        exact ⟨HW.out.1.alloc HW.out.1.size _, HW.out.2.alloc _, Cb.made wr (oc x) _⟩
      go_upto_region 5 with fail
      rw [← hxb]
      clear hxb r0 r1 r2 HW
      generalize (wr.alloc (.cells #[.int .i64 x.id, .int .i64 x.span, .int .i64 x.till] 58)) = w3 at *
      have d0 : w3.cell? ⟨xb, 0, none⟩ = some (.int .i64 x.id) := H4.out.2.2.cell 0
      obtain ⟨sb, hsb⟩ : ∃ z, z = w3.heap.size := ⟨_, rfl⟩
      have H6 : Hid (Below w.heap.size w (w3.alloc (.cells #[.int .i64 x.id] 2)) ∧ (w3.alloc (.cells #[.int .i64 x.id] 2)).ownsRow w.heap.size 2 1 (.slice ua E uc) ((s.l.take k).map Sq.One.id).length (ic ((s.l.take k).map Sq.One.id)) ∧ Cb (w3.alloc (.cells #[.int .i64 x.id] 2)) sb (ic [x.id]) 2) := by
        rw [hsb]
        exact ⟨H4.out.1.alloc H4.out.1.size _, H4.out.2.1.alloc _, Cb.made w3 (ic [x.id]) _⟩
      go_wp2_with (at_builtin; rw [← hsb]; refine wpList_ic15 rfl _ _ rfl w.heap.size (.slice ua E uc) ((s.l.take k).map Sq.One.id) [x.id] sb 1 2 (w3.alloc (.cells #[.int .i64 x.id] 2)) rfl rfl H6.out.2.1 H6.out.1.size H6.out.2.2 (by simp; omega) ?_)
      clear hsb d0
      generalize (w3.alloc (.cells #[.int .i64 x.id] 2)) = w5 at *
      intro v6 w6 hr6 hb6 hg6 hv6
      have hr7 : w6.ownsRow w.heap.size 2 1 v6 ((s.l.take (k + 1)).map Sq.One.id).length (ic ((s.l.take (k + 1)).map Sq.One.id)) := by rw [HX.out]; simpa using hr6
      have H7 : Hid (Below w.heap.size w w6 ∧ w6.ownsRow w.heap.size 2 1 v6 ((s.l.take (k + 1)).map Sq.One.id).length (ic ((s.l.take (k + 1)).map Sq.One.id))) := ⟨H6.out.1.trans (hb6.mono (Nat.le_refl _)), hr7⟩
      obtain ⟨a6, c6, e6, j1, j2⟩ := row_form hr7
      subst e6
      clear hr6 hr7 hb6 hg6 hv6 j1 j2
      go_wp2
      go_roundw
      case rel => exact ⟨k + 1, by omega, by go_num, H7.out.1, H7.out.2⟩
      case measure => simp [intOf]; omega
    · have hlt' : ¬ (k : Int) < (N : Int) := by omega
      obtain rfl : k = N := by omega
      have HE : Hid (Bi wr (.slice ua E uc) (Sq.all s) ∧ (∀ j, (Value.slice ua E uc).ownBlock = some j → w.heap.size ≤ j)) := by
        have h := HW.out.2
        rw [List.take_of_length_le (by rw [← H0.out.2.1]; exact Nat.le_refl _)] at h
        exact ⟨Bi.own h, fun j hj => (h.lt j hj).1⟩
      go_wp2
      go_ret
      exact ⟨_, rfl, HE.out.1, HE.out.2, HW.out.1⟩
set_option maxRecDepth 20000 in
set_option maxHeartbeats 4000000 in
theorem put_any15 (q : Nat) (s : Sq.St) (F : Nat → Prop) (m : Int) (w : World) (hL : LSe w q s F) (hf : Sq.Fine m s) :
    Calls Try.prog 23 #[dptr q] w fun e w' => ∃ v, e = .returned v ∧ w'.ownsRow w.heap.size 5 1 v (Sq.bytes s).length (bc (Sq.bytes s)) ∧ Below w.heap.size w w' := by
  obtain ⟨v, h, rfl⟩ := hL
  obtain ⟨N, hN⟩ : ∃ N, N = s.l.length := ⟨_, rfl⟩
  have hr := h.row
  rw [← hN] at hr
  obtain ⟨a, c, rfl, _, ha⟩ := row_form hr
  have hN64 : N ≤ 64 := by rw [hN]; exact hf.len64
  have H0 : Hid (Ls15 w q s (.slice a N c) ∧ N = s.l.length ∧ (0 < N → ∃ g, a = some ⟨g, 0, none⟩)) := ⟨h, hN, ha⟩
  have c0 : w.cell? ⟨q, 0, none⟩ = some (.int .i64 s.room) := h.blk.cell 0
  have c1 : w.cell? ⟨q, 1, none⟩ = some (.int .i64 s.now) := h.blk.cell 1
  have c2 : w.cell? ⟨q, 2, none⟩ = some (.int .i64 s.next) := h.blk.cell 2
  have c3 : w.cell? ⟨q, 3, none⟩ = some (.slice a N c) := h.blk.cell 3
  clear h hf hr hN ha
  unfold dptr
  go_enter Try.func23, Try.ntmps23
  go_upto_region 1 with fail
  refine wp_region_held_drew (S := fun w' => w'.cell? ⟨q, 0, none⟩ = some (.int .i64 s.room) ∧ w'.cell? ⟨q, 1, none⟩ = some (.int .i64 s.now) ∧ w'.cell? ⟨q, 2, none⟩ = some (.int .i64 s.next) ∧ w'.cell? ⟨q, 3, none⟩ = some (.slice a N c)) (by kernel_rfl) ⟨c0, c1, c2, c3⟩ (fun _ => ?_)
  have HSX : Hid (∀ w', Below w.heap.size w w' → w'.cell? ⟨q, 0, none⟩ = some (.int .i64 s.room) ∧ w'.cell? ⟨q, 1, none⟩ = some (.int .i64 s.now) ∧ w'.cell? ⟨q, 2, none⟩ = some (.int .i64 s.next) ∧ w'.cell? ⟨q, 3, none⟩ = some (.slice a N c)) := fun w' hb => ⟨(H0.out.1.later hb).blk.cell 0, (H0.out.1.later hb).blk.cell 1, (H0.out.1.later hb).blk.cell 2, (H0.out.1.later hb).blk.cell 3⟩
  have H1 : Hid (Below w.heap.size w w.drew) := (Below.refl _ _).drew
  clear c0 c1 c2 c3
  generalize w.drew = wX at *
  refine' take_at (i := 0) (d := 6) (v := _) rfl rfl (by kernel_rfl) (by kernel_rfl) (by kernel_rfl) (fun _ _ _ h => h) (Or.inl ⟨by rfl, ?h0⟩) (HSX.out _ H1.out) ?_
  case h0 =>
    intro w hSw
    obtain ⟨t0, t1, t2, t3⟩ := hSw
    go_simp
    with_reducible rfl
  simp only [List.setIfInBounds_toArray, List.set_cons_zero, List.set_cons_succ]
  refine' take_at (i := 1) (d := 7) (v := _) rfl rfl (by kernel_rfl) (by kernel_rfl) (by kernel_rfl) (fun _ _ _ h => h) (Or.inl ⟨by rfl, ?h1⟩) (HSX.out _ H1.out) ?_
  case h1 =>
    intro w hSw
    obtain ⟨t0, t1, t2, t3⟩ := hSw
    go_simp
    with_reducible rfl
  simp only [List.setIfInBounds_toArray, List.set_cons_zero, List.set_cons_succ]
  refine' take_at (i := 2) (d := 8) (v := _) rfl rfl (by kernel_rfl) (by kernel_rfl) (by kernel_rfl) (fun _ _ _ h => h) (Or.inl ⟨by rfl, ?h2⟩) (HSX.out _ H1.out) ?_
  case h2 =>
    intro w hSw
    obtain ⟨t0, t1, t2, t3⟩ := hSw
    go_simp
    with_reducible rfl
  simp only [List.setIfInBounds_toArray, List.set_cons_zero, List.set_cons_succ]
  refine' take_at (i := 3) (d := 9) (v := _) rfl rfl (by kernel_rfl) (by kernel_rfl) (by kernel_rfl) (fun _ _ _ h => h) (Or.inl ⟨by rfl, ?h3⟩) (HSX.out _ H1.out) ?_
  case h3 =>
    intro w hSw
    obtain ⟨t0, t1, t2, t3⟩ := hSw
    go_simp
    with_reducible rfl
  simp only [List.setIfInBounds_toArray, List.set_cons_zero, List.set_cons_succ]
  refine' take_at (i := 4) (d := 10) (v := _) rfl rfl (by kernel_rfl) (by kernel_rfl) (by kernel_rfl) (fun _ _ _ h => h) (Or.inl ⟨by rfl, ?h4⟩) (HSX.out _ H1.out) ?_
  case h4 =>
    intro w hSw
    obtain ⟨t0, t1, t2, t3⟩ := hSw
    go_simp
    with_reducible rfl
  simp only [List.setIfInBounds_toArray, List.set_cons_zero, List.set_cons_succ]
  refine' take_at (i := 5) (d := 11) (v := _) rfl rfl (by kernel_rfl) (by kernel_rfl) (by kernel_rfl) (fun _ _ _ h => h) (Or.inl ⟨by rfl, ?h5⟩) (HSX.out _ H1.out) ?_
  case h5 =>
    intro w hSw
    obtain ⟨t0, t1, t2, t3⟩ := hSw
    go_simp
    with_reducible rfl
  simp only [List.setIfInBounds_toArray, List.set_cons_zero, List.set_cons_succ]
  refine' take_at (i := 6) (d := 12) (v := _) rfl rfl (by kernel_rfl) (by kernel_rfl) (by kernel_rfl) (fun _ _ _ h => h) (Or.inl ⟨by rfl, ?h6⟩) (HSX.out _ H1.out) ?_
  case h6 =>
    intro w hSw
    obtain ⟨t0, t1, t2, t3⟩ := hSw
    go_simp
    with_reducible rfl
  simp only [List.setIfInBounds_toArray, List.set_cons_zero, List.set_cons_succ]
  refine' take_at (i := 7) (d := 13) (v := _) rfl rfl (by kernel_rfl) (by kernel_rfl) (by kernel_rfl) (fun _ _ _ h => h) (Or.inl ⟨by rfl, ?h7⟩) (HSX.out _ H1.out) ?_
  case h7 =>
    intro w hSw
    obtain ⟨t0, t1, t2, t3⟩ := hSw
    go_simp
    with_reducible rfl
  simp only [List.setIfInBounds_toArray, List.set_cons_zero, List.set_cons_succ]
  refine' take_at (i := 8) (d := 14) (v := _) rfl rfl (by kernel_rfl) (by kernel_rfl) (by kernel_rfl) (fun _ _ _ h => h) (Or.inl ⟨by rfl, ?h8⟩) (HSX.out _ H1.out) ?_
  case h8 =>
    intro w hSw
    obtain ⟨t0, t1, t2, t3⟩ := hSw
    go_simp
    with_reducible rfl
  simp only [List.setIfInBounds_toArray, List.set_cons_zero, List.set_cons_succ]
  refine' take_at (i := 9) (d := 15) (v := _) rfl rfl (by kernel_rfl) (by kernel_rfl) (by kernel_rfl) (fun _ _ _ h => h) (Or.inl ⟨by rfl, ?h9⟩) (HSX.out _ H1.out) ?_
  case h9 =>
    intro w hSw
    obtain ⟨t0, t1, t2, t3⟩ := hSw
    go_simp
    with_reducible rfl
  simp only [List.setIfInBounds_toArray, List.set_cons_zero, List.set_cons_succ]
  refine' take_at (i := 10) (d := 16) (v := _) rfl rfl (by kernel_rfl) (by kernel_rfl) (by kernel_rfl) (fun _ _ _ h => h) (Or.inl ⟨by rfl, ?h10⟩) (HSX.out _ H1.out) ?_
  case h10 =>
    intro w hSw
    obtain ⟨t0, t1, t2, t3⟩ := hSw
    go_simp
    with_reducible rfl
  simp only [List.setIfInBounds_toArray, List.set_cons_zero, List.set_cons_succ]
  refine' take_at (i := 11) (d := 17) (v := _) rfl rfl (by kernel_rfl) (by kernel_rfl) (by kernel_rfl) (fun _ _ _ h => h) (Or.inl ⟨by rfl, ?h11⟩) (HSX.out _ H1.out) ?_
  case h11 =>
    intro w hSw
    obtain ⟨t0, t1, t2, t3⟩ := hSw
    go_simp
    with_reducible rfl
  simp only [List.setIfInBounds_toArray, List.set_cons_zero, List.set_cons_succ]
  refine' take_at (i := 12) (d := 18) (v := _) rfl rfl (by kernel_rfl) (by kernel_rfl) (by kernel_rfl) (fun _ _ _ h => h) (Or.inl ⟨by rfl, ?h12⟩) (HSX.out _ H1.out) ?_
  case h12 =>
    intro w hSw
    obtain ⟨t0, t1, t2, t3⟩ := hSw
    go_simp
    with_reducible rfl
  simp only [List.setIfInBounds_toArray, List.set_cons_zero, List.set_cons_succ]
  refine' take_at (i := 13) (d := 19) (v := _) rfl rfl (by kernel_rfl) (by kernel_rfl) (by kernel_rfl) (fun _ _ _ h => h) (Or.inl ⟨by rfl, ?h13⟩) (HSX.out _ H1.out) ?_
  case h13 =>
    intro w hSw
    obtain ⟨t0, t1, t2, t3⟩ := hSw
    go_simp
    with_reducible rfl
  simp only [List.setIfInBounds_toArray, List.set_cons_zero, List.set_cons_succ]
  refine' take_at (i := 14) (d := 20) (v := _) rfl rfl (by kernel_rfl) (by kernel_rfl) (by kernel_rfl) (fun _ _ _ h => h) (Or.inl ⟨by rfl, ?h14⟩) (HSX.out _ H1.out) ?_
  case h14 =>
    intro w hSw
    obtain ⟨t0, t1, t2, t3⟩ := hSw
    go_simp
    with_reducible rfl
  simp only [List.setIfInBounds_toArray, List.set_cons_zero, List.set_cons_succ]
  refine' take_at (i := 15) (d := 21) (v := _) rfl rfl (by kernel_rfl) (by kernel_rfl) (by kernel_rfl) (fun _ _ _ h => h) (Or.inl ⟨by rfl, ?h15⟩) (HSX.out _ H1.out) ?_
  case h15 =>
    intro w hSw
    obtain ⟨t0, t1, t2, t3⟩ := hSw
    go_simp
    with_reducible rfl
  simp only [List.setIfInBounds_toArray, List.set_cons_zero, List.set_cons_succ]
  refine' take_at (i := 16) (d := 22) (v := _) rfl rfl (by kernel_rfl) (by kernel_rfl) (by kernel_rfl) (fun _ _ _ h => h) (Or.inl ⟨by rfl, ?h16⟩) (HSX.out _ H1.out) ?_
  case h16 =>
    intro w hSw
    obtain ⟨t0, t1, t2, t3⟩ := hSw
    go_simp
    with_reducible rfl
  simp only [List.setIfInBounds_toArray, List.set_cons_zero, List.set_cons_succ]
  refine wpAnyH_ready (rs := [17]) (by kernel_rfl) (by simp) ?_
  refine AllReadyH.cons (o := _) rfl (fun KQ hKQ => ?_) AllReadyH.nil
  go_simp
  obtain ⟨g0, hg0⟩ : ∃ z, z = wX.heap.size := ⟨_, rfl⟩
  have H2 : Hid (Below w.heap.size w (wX.alloc (.cells #[.int .i64 s.room, .int .i64 s.now, .int .i64 s.next, .int .i64 (N : Int)] 2)) ∧ (wX.alloc (.cells #[.int .i64 s.room, .int .i64 s.now, .int .i64 s.next, .int .i64 (N : Int)] 2)).ownsRow w.heap.size 2 1 (.slice (some ⟨g0, 0, none⟩) 4 4) [s.room, s.now, s.next, (N : Int)].length (ic [s.room, s.now, s.next, (N : Int)])) := by
    rw [hg0]
    exact ⟨H1.out.alloc H1.out.size _, ⟨rfl, Or.inr ⟨wX.heap.size, 4, _, rfl, H1.out.size, heap_alloc_new wX _, Nat.le_refl _, by decide, rfl, rfl⟩⟩⟩
  rw [← hg0]
  clear hg0
  generalize (wX.alloc (.cells #[.int .i64 s.room, .int .i64 s.now, .int .i64 s.next, .int .i64 (N : Int)] 2)) = w2 at *
  refine hKQ.out _ _ (HSX.out _ H2.out.1) (fun _ => ?_)
  clear hKQ KQ
  refine' take_at (i := 18) (d := 3) (v := _) rfl rfl (by kernel_rfl) (by kernel_rfl) (by kernel_rfl) (fun _ _ _ h => h) (Or.inl ⟨by rfl, ?h18⟩) (HSX.out _ H2.out.1) ?_
  case h18 =>
    intro w hSw
    clear hSw
    go_simp
    with_reducible rfl
  simp only [List.setIfInBounds_toArray, List.set_cons_zero, List.set_cons_succ]
  refine wpAnyH_done (by kernel_rfl) ?_ _
  have c3 : w2.cell? ⟨q, 3, none⟩ = some (.slice a N c) := (HSX.out _ H2.out.1).2.2.2
  go_wp2
  clear c3
  go_loopw [3, 29] (fun u i wx => ∃ k : Nat, k ≤ N ∧ i = .int .i64 (k : Int) ∧ Below w.heap.size w wx ∧ wx.ownsRow w.heap.size 2 1 u ([s.room, s.now, s.next, (N : Int)] ++ (s.l.take k).flatMap Sq.three).length (ic ([s.room, s.now, s.next, (N : Int)] ++ (s.l.take k).flatMap Sq.three))) (fun _ i _ => N - (intOf i).toNat)
  case atStart => exact ⟨0, Nat.zero_le _, rfl, H2.out.1, by simpa using H2.out.2⟩
  case round =>
    obtain ⟨k, hk, rfl, hb, hu⟩ := hrel
    obtain ⟨ua, uc, hu5, j1, j2⟩ := row_form hu
    have hlen : ([s.room, s.now, s.next, (N : Int)] ++ (s.l.take k).flatMap Sq.three).length = 4 + 3 * k := by
      have e := Sq.nums_len ⟨s.room, s.now, s.next, s.l.take k⟩
      unfold Sq.nums at e
      simp only [List.length_append, List.length_cons, List.length_nil, List.length_take] at e ⊢
      have := H0.out.2.1
      omega
    have HLN : Hid (([s.room, s.now, s.next, (N : Int)] ++ (s.l.take k).flatMap Sq.three).length = 4 + 3 * k) := hlen
    obtain ⟨E, hE⟩ : ∃ E, E = ([s.room, s.now, s.next, (N : Int)] ++ (s.l.take k).flatMap Sq.three).length := ⟨_, rfl⟩
    rw [← hE] at hu5
    subst hu5
    have HW : Hid (Below w.heap.size w wr ∧ wr.ownsRow w.heap.size 2 1 (.slice ua E uc) ([s.room, s.now, s.next, (N : Int)] ++ (s.l.take k).flatMap Sq.three).length (ic ([s.room, s.now, s.next, (N : Int)] ++ (s.l.take k).flatMap Sq.three)) ∧ E = 4 + 3 * k) := ⟨hb, hu, by rw [hE]; exact hlen⟩
    clear hb hu hE j1 j2 hlen H2
    by_cases hlt : k < N
    · have hlt' : (k : Int) < (N : Int) := by omega
      have hk0 : (0 : Int) ≤ (k : Int) := by omega
      have hwk : IntKind.wrap .i64 ((k : Int) + 1) = (k : Int) + 1 := by rw [IntKind.wrap_i64]; omega
      obtain ⟨g, hg⟩ := H0.out.2.2 (by omega)
      subst hg
      obtain ⟨x, hx⟩ : ∃ x, s.l[k]? = some x := ⟨s.l[k]'(by rw [← H0.out.2.1]; exact hlt), List.getElem?_eq_getElem _⟩
      have HX : Hid ((s.l.take (k + 1)).flatMap Sq.three = (s.l.take k).flatMap Sq.three ++ [x.id, x.span, x.till]) := (show _ = _ by rw [List.take_add_one, hx, List.flatMap_append]; simp [Sq.three])
      have hr := (H0.out.1.later HW.out.1).row
      rw [← H0.out.2.1] at hr
      obtain ⟨r0, r1, r2⟩ := row_at15 hr hx
      clear hx hr
      obtain ⟨xb, hxb⟩ : ∃ z, z = wr.heap.size := ⟨_, rfl⟩
      have H4 : Hid (Below w.heap.size w (wr.alloc (.cells #[.int .i64 x.id, .int .i64 x.span, .int .i64 x.till] 58)) ∧ (wr.alloc (.cells #[.int .i64 x.id, .int .i64 x.span, .int .i64 x.till] 58)).ownsRow w.heap.size 2 1 (.slice ua E uc) ([s.room, s.now, s.next, (N : Int)] ++ (s.l.take k).flatMap Sq.three).length (ic ([s.room, s.now, s.next, (N : Int)] ++ (s.l.take k).flatMap Sq.three)) ∧ Cb (wr.alloc (.cells #[.int .i64 x.id, .int .i64 x.span, .int .i64 x.till] 58)) xb (oc x) 58) := by
        rw [hxb]
        exact ⟨HW.out.1.alloc HW.out.1.size _, HW.out.2.1.alloc _, Cb.made wr (oc x) _⟩
      go_upto_region 5 with fail
      rw [← hxb]
      clear hxb r0 r1 r2
      generalize (wr.alloc (.cells #[.int .i64 x.id, .int .i64 x.span, .int .i64 x.till] 58)) = w3 at *
      have d0 : w3.cell? ⟨xb, 0, none⟩ = some (.int .i64 x.id) := H4.out.2.2.cell 0
      have d1 : w3.cell? ⟨xb, 1, none⟩ = some (.int .i64 x.span) := H4.out.2.2.cell 1
      have d2 : w3.cell? ⟨xb, 2, none⟩ = some (.int .i64 x.till) := H4.out.2.2.cell 2
      obtain ⟨sb, hsb⟩ : ∃ z, z = w3.heap.size := ⟨_, rfl⟩
      have H6 : Hid (Below w.heap.size w (w3.alloc (.cells #[.int .i64 x.id, .int .i64 x.span, .int .i64 x.till] 2)) ∧ (w3.alloc (.cells #[.int .i64 x.id, .int .i64 x.span, .int .i64 x.till] 2)).ownsRow w.heap.size 2 1 (.slice ua E uc) ([s.room, s.now, s.next, (N : Int)] ++ (s.l.take k).flatMap Sq.three).length (ic ([s.room, s.now, s.next, (N : Int)] ++ (s.l.take k).flatMap Sq.three)) ∧ Cb (w3.alloc (.cells #[.int .i64 x.id, .int .i64 x.span, .int .i64 x.till] 2)) sb (ic [x.id, x.span, x.till]) 2) := by
        rw [hsb]
        exact ⟨H4.out.1.alloc H4.out.1.size _, H4.out.2.1.alloc _, Cb.made w3 (ic [x.id, x.span, x.till]) _⟩
      go_wp2_with (at_builtin; rw [← hsb]; refine wpList_ic15 rfl _ _ rfl w.heap.size (.slice ua E uc) ([s.room, s.now, s.next, (N : Int)] ++ (s.l.take k).flatMap Sq.three) [x.id, x.span, x.till] sb 3 2 (w3.alloc (.cells #[.int .i64 x.id, .int .i64 x.span, .int .i64 x.till] 2)) rfl rfl H6.out.2.1 H6.out.1.size H6.out.2.2 (by rw [HLN.out]; simp only [List.length_cons, List.length_nil]; omega) ?_)
      clear hsb d0 d1 d2
      generalize (w3.alloc (.cells #[.int .i64 x.id, .int .i64 x.span, .int .i64 x.till] 2)) = w5 at *
      intro v6 w6 hr6 hb6 hg6 hv6
      have hr7 : w6.ownsRow w.heap.size 2 1 v6 ([s.room, s.now, s.next, (N : Int)] ++ (s.l.take (k + 1)).flatMap Sq.three).length (ic ([s.room, s.now, s.next, (N : Int)] ++ (s.l.take (k + 1)).flatMap Sq.three)) := by
        rw [HX.out, ← List.append_assoc]
        simpa using hr6
      have H7 : Hid (Below w.heap.size w w6 ∧ w6.ownsRow w.heap.size 2 1 v6 ([s.room, s.now, s.next, (N : Int)] ++ (s.l.take (k + 1)).flatMap Sq.three).length (ic ([s.room, s.now, s.next, (N : Int)] ++ (s.l.take (k + 1)).flatMap Sq.three))) := ⟨H6.out.1.trans (hb6.mono (Nat.le_refl _)), hr7⟩
      obtain ⟨a6, c6, e6, j1, j2⟩ := row_form hr7
      subst e6
      clear hr6 hr7 hb6 hg6 hv6 j1 j2
      go_wp2
      go_roundw
      case rel => exact ⟨k + 1, by omega, by go_num, H7.out.1, H7.out.2⟩
      case measure => simp [intOf]; omega
    · have hlt' : ¬ (k : Int) < (N : Int) := by omega
      obtain rfl : k = N := by omega
      have HP : Hid (Calls Try.prog 38 #[.slice none 0 0, .slice ua E uc] wr fun e w' => ∃ v', e = .returned v' ∧ w'.ownsRow wr.heap.size 5 1 v' (Sq.bytes s).length (bc (Sq.bytes s)) ∧ Below wr.heap.size wr w') := by
        have h := HW.out.2.1
        have e1 : [s.room, s.now, s.next, (k : Int)] ++ (s.l.take k).flatMap Sq.three = Sq.nums s := by
          rw [List.take_of_length_le (by rw [← H0.out.2.1]; exact Nat.le_refl _)]
          unfold Sq.nums
          rw [H0.out.2.1]
        rw [e1] at h
        have hl := Sq.nums_len s
        obtain ⟨av, cv, e2, _, hav⟩ := row_form h
        obtain ⟨g2, rfl⟩ := hav (by omega)
        simp only [Value.slice.injEq] at e2
        obtain ⟨rfl, rfl, rfl⟩ := e2
        refine (Pw.all_some none 0 0 [] (Sq.nums s) g2 0 (Sq.nums s).length uc wr rfl ⟨Nat.le_refl _, fun _ => ⟨rfl, rfl⟩, fun _ h => by cases h⟩ rfl (fun j z hz => ?_) (by omega) (by have := H0.out.2.1; omega)).mono ?_
        · have hj := (List.getElem?_eq_some_iff.1 hz).1
          rw [Nat.zero_add, h.cellAt _ (by omega)]
          simp [ic, hz]
        · rintro e w' ⟨v', rfl, ho, hb⟩
          refine ⟨v', rfl, ?_, hb⟩
          have e3 : (Sq.bytes s).length = 0 + 8 * (Sq.nums s).length := by
            unfold Sq.bytes
            rw [Pw.flat_len]
            omega
          rw [e3]
          exact ho
      go_wp2_with fail
      refine HP.out.mono ?_
      rintro e w5 ⟨v5, rfl, ho5, hb5⟩
      have HE : Hid (w5.ownsRow w.heap.size 5 1 v5 (Sq.bytes s).length (bc (Sq.bytes s)) ∧ Below w.heap.size w w5) := ⟨ho5.mono HW.out.1.size, HW.out.1.trans (hb5.mono HW.out.1.size)⟩
      obtain ⟨a5, c5, e5, j1, j2⟩ := row_form ho5
      subst e5
      clear ho5 hb5 j1 j2
      go_wp2
      go_ret
      exact ⟨_, rfl, HE.out.1, HE.out.2⟩
end Go.Proofs.Ytlabdhllindenaa
