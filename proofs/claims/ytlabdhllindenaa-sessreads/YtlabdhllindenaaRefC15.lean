/- The reference's Close, Open. -/
import Derived.Test.YtlabdhllindenaaRefT15
namespace Go.Proofs.Ytlabdhllindenaa
open Go.RowKit

set_option maxRecDepth 20000 in
set_option maxHeartbeats 4000000 in
theorem refClose_any15 (q : Nat) (s : Sq.St) (F : Nat → Prop) (m id : Int) (w : World) (hL : LRe w q s F) (hf : Sq.Fine m s) :
    Calls Try.prog 20 #[dptr q, .int .i64 id] w fun e w' => ∃ F', e = .returned (.int .i64 (Sq.close s id).1) ∧ LRe w' q (Sq.close s id).2 F' ∧ Moved w w' F F' := by
  obtain ⟨v, h, rfl⟩ := hL
  have HS : Hid (Calls Try.prog 37 #[dptr q, .int .i64 id] w fun e w' => ∃ r, e = .returned (.int .i64 r) ∧ AtR s.l id r ∧ Below w.heap.size w w') := refAt_any15 q s v m id w h hf
  obtain ⟨N, hN⟩ : ∃ N, N = s.l.length := ⟨_, rfl⟩
  have hr := h.row
  rw [← hN] at hr
  obtain ⟨a, c, rfl, hNc, ha⟩ := row_form hr
  have H0 : Hid (Rs15 w q s (.slice a N c) ∧ N = s.l.length ∧ (0 < N → ∃ g, a = some ⟨g, 0, none⟩) ∧ Sq.Fine m s) := ⟨h, hN, ha, hf⟩
  have hN64 : N ≤ 64 := by rw [hN]; exact hf.len64
  clear h hf hr hN ha
  unfold dptr at *
  go_enter Try.func20, Try.ntmps20
  go_wp2_with fail
  refine HS.out.mono ?_
  rintro e w1 ⟨r, rfl, hA, hb⟩
  have H1 : Hid (Rs15 w1 q s (.slice a N c) ∧ Below w.heap.size w w1) := ⟨H0.out.1.later hb, hb⟩
  clear hb HS
  rcases hA with ⟨rfl, hno⟩ | ⟨p, x, rfl, hx, hid⟩
  · have HE : Hid (Sq.close s id = (11, s)) := Sq.close_no hno
    clear hno
    go_wp2
    go_ret
    have e1 : (Sq.close s id).1 = 11 := by rw [HE.out]
    have e2 : (Sq.close s id).2 = s := by rw [HE.out]
    rw [e1, e2]
    first | exact ⟨_, rfl, ⟨_, H1.out.1, rfl⟩, Moved.of_below _ H1.out.2⟩ | exact ⟨rfl, _, ⟨_, H1.out.1, rfl⟩, Moved.of_below _ H1.out.2⟩
  · have hpl := (List.getElem?_eq_some_iff.1 hx).1
    rw [← H0.out.2.1] at hpl
    obtain ⟨g, hg⟩ := H0.out.2.2.1 (by omega)
    subst hg
    have p0 : (0 : Int) ≤ (p : Int) := by omega
    have pN : (p : Int) < (N : Int) := by omega
    have HT : Hid (Sq.close s id = (0, ⟨s.room, s.now, s.next, s.l.take p ++ s.l.drop (p + 1)⟩)) := by
      have := Sq.close_at H0.out.2.2.2.rises hx
      rw [hid] at this
      exact this
    clear hx hid
    have c3 : w1.cell? ⟨q, 3, none⟩ = some (.slice (some ⟨g, 0, none⟩) N c) := H1.out.1.blk.cell 3
    have hwp : IntKind.wrap .i64 ((p : Int) + 1) = (p : Int) + 1 := by rw [IntKind.wrap_i64]; omega
    have p2 : (0 : Int) ≤ (p : Int) + 1 := by omega
    have p3 : (p : Int) + 1 ≤ (N : Int) := by omega
    have p4 : (p : Int) ≤ (c : Int) := by omega
    have p5 : (N : Int) ≤ (c : Int) := by omega
    have hc63 : c ≤ 9223372036854775807 := by
      have hr := H1.out.1.row
      rw [← H0.out.2.1] at hr
      obtain ⟨C0, _, _, _, hcm, _⟩ := row_whole15 hr
      unfold maxLen at hcm
      omega
    go_upto_region 4 with fail
    refine wp_region_T (fun w' => w'.cell? ⟨q, 3, none⟩ = some (.slice (some ⟨g, 0, none⟩) N c)) 19 (by kernel_rfl) ?_
    have H2 : Hid (Rs15 w1.drew q s (.slice (some ⟨g, 0, none⟩) N c) ∧ Below w.heap.size w w1.drew) := ⟨H1.out.1.later (Below.refl _ _).drew, H1.out.2.drew⟩
    clear c3 H1
    generalize w1.drew = wX at *
    have HSX : Hid (∀ w', Below wX.heap.size wX w' → w'.cell? ⟨q, 3, none⟩ = some (.slice (some ⟨g, 0, none⟩) N c)) := fun w' hb => (H2.out.1.later hb).blk.cell 3
    have HRO : Hid (∀ w', Below wX.heap.size wX w' → w'.ownsRow 0 67 3 (.slice (some ⟨g, 0, none⟩) N c) N (ocs s.l)) := fun w' hb => by
      have hr := (H2.out.1.later hb).row
      rw [← H0.out.2.1] at hr
      exact hr
    by_cases hc : c = p + 1
    · subst hc
      have p6 : (p : Int) ≤ (p : Int) + 1 := by omega
      have HSO : Hid (∀ w', Below wX.heap.size wX w' → Soc w' (.slice (some ⟨g, 0, none⟩) 0 0) (s.l.drop (p + 1))) := fun w' hb => by
        have e : s.l.drop (p + 1) = [] := List.drop_eq_nil_of_le (by rw [← H0.out.2.1]; omega)
        rw [e]
        exact Or.inr ⟨g, 0, 0, rfl, fun j y hy => by simp [ocs] at hy⟩
      refine' take_T (i := 0) (d := 11) (v := _) rfl rfl (by kernel_rfl) (by kernel_rfl) (by kernel_rfl) (by kernel_rfl) (by kernel_rfl) (fun _ _ _ h => h) (Or.inl ⟨by rfl, ?h0⟩) (HSX.out _ (Below.refl _ _)) ?_
      case h0 =>
        intro w hSw
        go_simp
        with_reducible rfl
      simp only [List.setIfInBounds_toArray, List.set_cons_zero, List.set_cons_succ]
      refine' take_T (i := 2) (d := 13) (v := _) rfl rfl (by kernel_rfl) (by kernel_rfl) (by kernel_rfl) (by kernel_rfl) (by kernel_rfl) (fun _ _ _ h => h) (Or.inl ⟨by rfl, ?h2⟩) (HSX.out _ (Below.refl _ _)) ?_
      case h2 =>
        intro w hSw
        go_simp
        with_reducible rfl
      simp only [List.setIfInBounds_toArray, List.set_cons_zero, List.set_cons_succ]
      refine' take_T (i := 3) (d := 14) (v := _) rfl rfl (by kernel_rfl) (by kernel_rfl) (by kernel_rfl) (by kernel_rfl) (by kernel_rfl) (fun _ _ _ h => h) (Or.inl ⟨by rfl, ?h3⟩) (HSX.out _ (Below.refl _ _)) ?_
      case h3 =>
        intro w hSw
        go_simp
        with_reducible rfl
      simp only [List.setIfInBounds_toArray, List.set_cons_zero, List.set_cons_succ]
      refine' take_T (i := 4) (d := 15) (v := _) rfl rfl (by kernel_rfl) (by kernel_rfl) (by kernel_rfl) (by kernel_rfl) (by kernel_rfl) (fun _ _ _ h => h) (Or.inl ⟨by rfl, ?h4⟩) (HSX.out _ (Below.refl _ _)) ?_
      case h4 =>
        intro w hSw
        go_simp
        with_reducible rfl
      simp only [List.setIfInBounds_toArray, List.set_cons_zero, List.set_cons_succ]
      refine' take_T (i := 5) (d := 16) (v := _) rfl rfl (by kernel_rfl) (by kernel_rfl) (by kernel_rfl) (by kernel_rfl) (by kernel_rfl) (fun _ _ _ h => h) (Or.inl ⟨by rfl, ?h5⟩) (HSX.out _ (Below.refl _ _)) ?_
      case h5 =>
        intro w hSw
        go_simp
        with_reducible rfl
      simp only [List.setIfInBounds_toArray, List.set_cons_zero, List.set_cons_succ]
      refine' take_T (i := 6) (d := 17) (v := _) rfl rfl (by kernel_rfl) (by kernel_rfl) (by kernel_rfl) (by kernel_rfl) (by kernel_rfl) (fun _ _ _ h => h) (Or.inl ⟨by rfl, ?h6⟩) (HSX.out _ (Below.refl _ _)) ?_
      case h6 =>
        intro w hSw
        go_simp
        with_reducible rfl
      simp only [List.setIfInBounds_toArray, List.set_cons_zero, List.set_cons_succ]
      refine' take_T (i := 7) (d := 18) (v := _) rfl rfl (by kernel_rfl) (by kernel_rfl) (by kernel_rfl) (by kernel_rfl) (by kernel_rfl) (fun _ _ _ h => h) (Or.inl ⟨by rfl, ?h7⟩) (HSX.out _ (Below.refl _ _)) ?_
      case h7 =>
        intro w hSw
        go_simp
        with_reducible rfl
      simp only [List.setIfInBounds_toArray, List.set_cons_zero, List.set_cons_succ]
      refine' take_T (i := 9) (d := 20) (v := _) rfl rfl (by kernel_rfl) (by kernel_rfl) (by kernel_rfl) (by kernel_rfl) (by kernel_rfl) (fun _ _ _ h => h) (Or.inl ⟨by rfl, ?h9⟩) (HSX.out _ (Below.refl _ _)) ?_
      case h9 =>
        intro w hSw
        go_simp
        with_reducible rfl
      simp only [List.setIfInBounds_toArray, List.set_cons_zero, List.set_cons_succ]
      refine' take_T (i := 10) (d := 21) (v := _) rfl rfl (by kernel_rfl) (by kernel_rfl) (by kernel_rfl) (by kernel_rfl) (by kernel_rfl) (fun _ _ _ h => h) (Or.inl ⟨by rfl, ?h10⟩) (HSX.out _ (Below.refl _ _)) ?_
      case h10 =>
        intro w hSw
        go_simp
        with_reducible rfl
      simp only [List.setIfInBounds_toArray, List.set_cons_zero, List.set_cons_succ]
      refine' take_T (i := 11) (d := 22) (v := _) rfl rfl (by kernel_rfl) (by kernel_rfl) (by kernel_rfl) (by kernel_rfl) (by kernel_rfl) (fun _ _ _ h => h) (Or.inl ⟨by rfl, ?h11⟩) (HSX.out _ (Below.refl _ _)) ?_
      case h11 =>
        intro w hSw
        go_simp
        with_reducible rfl
      simp only [List.setIfInBounds_toArray, List.set_cons_zero, List.set_cons_succ]
      refine' take_T (i := 12) (d := 23) (v := _) rfl rfl (by kernel_rfl) (by kernel_rfl) (by kernel_rfl) (by kernel_rfl) (by kernel_rfl) (fun _ _ _ h => h) (Or.inl ⟨by rfl, ?h12⟩) (HSX.out _ (Below.refl _ _)) ?_
      case h12 =>
        intro w hSw
        go_simp
        with_reducible rfl
      simp only [List.setIfInBounds_toArray, List.set_cons_zero, List.set_cons_succ]
      refine' take_T (i := 13) (d := 24) (v := _) rfl rfl (by kernel_rfl) (by kernel_rfl) (by kernel_rfl) (by kernel_rfl) (by kernel_rfl) (fun _ _ _ h => h) (Or.inl ⟨by rfl, ?h13⟩) (HSX.out _ (Below.refl _ _)) ?_
      case h13 =>
        intro w hSw
        go_simp
        with_reducible rfl
      simp only [List.setIfInBounds_toArray, List.set_cons_zero, List.set_cons_succ]
      refine' take_T (i := 14) (d := 25) (v := _) rfl rfl (by kernel_rfl) (by kernel_rfl) (by kernel_rfl) (by kernel_rfl) (by kernel_rfl) (fun _ _ _ h => h) (Or.inl ⟨by rfl, ?h14⟩) (HSX.out _ (Below.refl _ _)) ?_
      case h14 =>
        intro w hSw
        go_simp
        with_reducible rfl
      simp only [List.setIfInBounds_toArray, List.set_cons_zero, List.set_cons_succ]
      refine' take_T (i := 15) (d := 26) (v := _) rfl rfl (by kernel_rfl) (by kernel_rfl) (by kernel_rfl) (by kernel_rfl) (by kernel_rfl) (fun _ _ _ h => h) (Or.inl ⟨by rfl, ?h15⟩) (HSX.out _ (Below.refl _ _)) ?_
      case h15 =>
        intro w hSw
        go_simp
        with_reducible rfl
      simp only [List.setIfInBounds_toArray, List.set_cons_zero, List.set_cons_succ]
      refine wpAnyT_ready (rs := [1]) (by kernel_rfl) (by simp) ?_
      refine AllReadyT.cons (o := _) rfl (fun KQ hKQ => ?_) AllReadyT.nil
      go_simp
      obtain ⟨nb, hnb⟩ : ∃ z, z = wX.heap.size := ⟨_, rfl⟩
      rw [← hnb]
      have H3 : Hid (Below wX.heap.size wX (wX.alloc (.cells #[] 67)) ∧ (wX.alloc (.cells #[] 67)).ownsRow wX.heap.size 67 3 (.slice (some ⟨nb, 0, none⟩) 0 0) ([] : List Sq.One).length (ocs [])) := by
        rw [hnb]
        exact ⟨(Below.refl _ wX).alloc (Nat.le_refl _) _, World.ownsRow_made wX #[] 0 (Nat.le_refl _) (by decide) rfl⟩
      clear hnb
      generalize (wX.alloc (.cells #[] 67)) = w3 at *
      refine hKQ.out _ _ (fun _ => HSX.out _ H3.out.1) ?_
      clear hKQ KQ
      refine wpAnyT_ready (rs := [8]) (by kernel_rfl) (by simp) ?_
      refine AllReadyT.cons (o := _) rfl (fun KQ hKQ => ?_) AllReadyT.nil
      refine wp_ocd15 infoOn Try.underlying36 _ _ rfl 19 rfl wX.heap.size (.slice (some ⟨nb, 0, none⟩) 0 0) (.slice (some ⟨g, 0, none⟩) p (p+1)) [] (s.l.take p) w3 rfl rfl H3.out.2 H3.out.1.size (by have h := Soc.part (HRO.out _ H3.out.1) H0.out.2.1 0 p (p+1) (by omega); rw [List.drop_zero] at h; exact h) (by simp; omega) ?_
      intro v4 w4 hr4 hb4 hg4 hv4
      have H4 : Hid (Below wX.heap.size wX w4 ∧ w4.ownsRow wX.heap.size 67 3 v4 (s.l.take p).length (ocs (s.l.take p))) := ⟨H3.out.1.trans hb4, hr4⟩
      obtain ⟨a4, c4, e4, j1, j2⟩ := row_form H4.out.2
      obtain ⟨N4, hN4⟩ : ∃ z, z = (s.l.take p).length := ⟨_, rfl⟩
      rw [← hN4] at e4
      subst e4
      clear hr4 hb4 hg4 hv4 j1 j2 H3 hN4
      refine hKQ.out _ _ (fun _ => HSX.out _ H4.out.1) ?_
      clear hKQ KQ
      simp only [List.setIfInBounds_toArray, List.set_cons_zero, List.set_cons_succ]
      refine wpAnyT_ready (rs := [16]) (by kernel_rfl) (by simp) ?_
      refine AllReadyT.cons (o := _) rfl (fun KQ hKQ => ?_) AllReadyT.nil
      refine wp_oc15 infoOn Try.underlying36 _ _ rfl wX.heap.size (.slice a4 N4 c4) (.slice (some ⟨g,0,none⟩) 0 0) (s.l.take p) (s.l.drop (p + 1)) w4 rfl rfl H4.out.2 H4.out.1.size (HSO.out _ H4.out.1) (by have := H0.out.2.1; rw [List.length_take, List.length_drop]; omega) ?_
      intro v5 w5 hr5 hb5 hg5 hv5
      have H5 : Hid (Below wX.heap.size wX w5 ∧ LRe (w5.setCell ⟨q, 3, none⟩ v5) q ⟨s.room, s.now, s.next, s.l.take p ++ s.l.drop (p + 1)⟩ (Fs15 v5 q) ∧ Moved wX (w5.setCell ⟨q, 3, none⟩ v5) (Fs15 (.slice (some ⟨g, 0, none⟩) N (p+1)) q) (Fs15 v5 q)) := by
        have hb := H4.out.1.trans hb5
        have h := H2.out.1.put hb hr5
        exact ⟨hb, h.1, h.2⟩
      obtain ⟨a5, c5, e5, j1, j2⟩ := row_form hr5
      obtain ⟨N5, hN5⟩ : ∃ z, z = (s.l.take p ++ s.l.drop (p + 1)).length := ⟨_, rfl⟩
      rw [← hN5] at e5
      subst e5
      clear hr5 hb5 hg5 hv5 j1 j2 hN5 H4
      refine hKQ.out _ _ (fun _ => HSX.out _ H5.out.1) ?_
      clear hKQ KQ
      refine' take_T (i := 17) (d := 28) (v := _) rfl rfl (by kernel_rfl) (by kernel_rfl) (by kernel_rfl) (by kernel_rfl) (by kernel_rfl) (fun _ _ _ h => h) (Or.inl ⟨by rfl, ?h17⟩) (HSX.out _ H5.out.1) ?_
      case h17 =>
        intro w hSw
        go_simp
        with_reducible rfl
      simp only [List.setIfInBounds_toArray, List.set_cons_zero, List.set_cons_succ]
      refine' take_T (i := 18) (d := 29) (v := _) rfl rfl (by kernel_rfl) (by kernel_rfl) (by kernel_rfl) (by kernel_rfl) (by kernel_rfl) (fun _ _ _ h => h) (Or.inl ⟨by rfl, ?h18⟩) (HSX.out _ H5.out.1) ?_
      case h18 =>
        intro w hSw
        go_simp
        with_reducible rfl
      simp only [List.setIfInBounds_toArray, List.set_cons_zero, List.set_cons_succ]
      refine wpAnyT_ready (rs := [19]) (by kernel_rfl) (by simp) ?_
      refine AllReadyT.cons (o := _) rfl (fun KQ hKQ => ?_) AllReadyT.nil
      have d1 : w5.cell? ⟨q, 3, none⟩ = some (.slice (some ⟨g, 0, none⟩) N (p+1)) := HSX.out _ H5.out.1
      have f1 : w5.frozen? ⟨q, 3, none⟩ = false := (H2.out.1.later H5.out.1).blk.free 3
      go_simp
      clear d1 f1
      have HE : Hid (LRe (w5.setCell ⟨q, 3, none⟩ (.slice a5 N5 c5)) q (Sq.close s id).2 (Fs15 (.slice a5 N5 c5) q) ∧ Moved w (w5.setCell ⟨q, 3, none⟩ (.slice a5 N5 c5)) (Fs15 (.slice (some ⟨g, 0, none⟩) N (p+1)) q) (Fs15 (.slice a5 N5 c5) q)) := by
        rw [HT.out]
        exact ⟨H5.out.2.1, (Moved.of_below _ H2.out.2).trans H5.out.2.2⟩
      clear H5 HSX HRO H2
      generalize w5.setCell ⟨q, 3, none⟩ (.slice a5 N5 c5) = w6 at *
      refine hKQ.out _ _ (fun h => absurd rfl h) ?_
      clear hKQ KQ
      refine wpAnyT_done (by kernel_rfl) ?_ _
      go_wp2
      go_ret
      have e1 : (Sq.close s id).1 = 0 := by rw [HT.out]
      rw [e1]
      first | exact ⟨_, rfl, HE.out.1, HE.out.2⟩ | exact ⟨rfl, _, HE.out.1, HE.out.2⟩
    · have HSO : Hid (∀ w', Below wX.heap.size wX w' → Soc w' (.slice (some ⟨g, (p + 1) * 3, none⟩) (N - (p + 1)) (c - (p + 1))) (s.l.drop (p + 1))) := fun w' hb => by
        have h := Soc.part (HRO.out _ hb) H0.out.2.1 (p + 1) (N - (p + 1)) (c - (p + 1)) (by omega)
        rw [List.take_of_length_le (by rw [List.length_drop, ← H0.out.2.1]; exact Nat.le_refl _)] at h
        exact h
      refine' take_T (i := 0) (d := 11) (v := _) rfl rfl (by kernel_rfl) (by kernel_rfl) (by kernel_rfl) (by kernel_rfl) (by kernel_rfl) (fun _ _ _ h => h) (Or.inl ⟨by rfl, ?h0⟩) (HSX.out _ (Below.refl _ _)) ?_
      case h0 =>
        intro w hSw
        go_simp
        with_reducible rfl
      simp only [List.setIfInBounds_toArray, List.set_cons_zero, List.set_cons_succ]
      refine' take_T (i := 2) (d := 13) (v := _) rfl rfl (by kernel_rfl) (by kernel_rfl) (by kernel_rfl) (by kernel_rfl) (by kernel_rfl) (fun _ _ _ h => h) (Or.inl ⟨by rfl, ?h2⟩) (HSX.out _ (Below.refl _ _)) ?_
      case h2 =>
        intro w hSw
        go_simp
        with_reducible rfl
      simp only [List.setIfInBounds_toArray, List.set_cons_zero, List.set_cons_succ]
      refine' take_T (i := 3) (d := 14) (v := _) rfl rfl (by kernel_rfl) (by kernel_rfl) (by kernel_rfl) (by kernel_rfl) (by kernel_rfl) (fun _ _ _ h => h) (Or.inl ⟨by rfl, ?h3⟩) (HSX.out _ (Below.refl _ _)) ?_
      case h3 =>
        intro w hSw
        go_simp
        with_reducible rfl
      simp only [List.setIfInBounds_toArray, List.set_cons_zero, List.set_cons_succ]
      refine' take_T (i := 4) (d := 15) (v := _) rfl rfl (by kernel_rfl) (by kernel_rfl) (by kernel_rfl) (by kernel_rfl) (by kernel_rfl) (fun _ _ _ h => h) (Or.inl ⟨by rfl, ?h4⟩) (HSX.out _ (Below.refl _ _)) ?_
      case h4 =>
        intro w hSw
        go_simp
        with_reducible rfl
      simp only [List.setIfInBounds_toArray, List.set_cons_zero, List.set_cons_succ]
      refine' take_T (i := 5) (d := 16) (v := _) rfl rfl (by kernel_rfl) (by kernel_rfl) (by kernel_rfl) (by kernel_rfl) (by kernel_rfl) (fun _ _ _ h => h) (Or.inl ⟨by rfl, ?h5⟩) (HSX.out _ (Below.refl _ _)) ?_
      case h5 =>
        intro w hSw
        go_simp
        with_reducible rfl
      simp only [List.setIfInBounds_toArray, List.set_cons_zero, List.set_cons_succ]
      refine' take_T (i := 6) (d := 17) (v := _) rfl rfl (by kernel_rfl) (by kernel_rfl) (by kernel_rfl) (by kernel_rfl) (by kernel_rfl) (fun _ _ _ h => h) (Or.inl ⟨by rfl, ?h6⟩) (HSX.out _ (Below.refl _ _)) ?_
      case h6 =>
        intro w hSw
        go_simp
        with_reducible rfl
      simp only [List.setIfInBounds_toArray, List.set_cons_zero, List.set_cons_succ]
      refine' take_T (i := 7) (d := 18) (v := _) rfl rfl (by kernel_rfl) (by kernel_rfl) (by kernel_rfl) (by kernel_rfl) (by kernel_rfl) (fun _ _ _ h => h) (Or.inl ⟨by rfl, ?h7⟩) (HSX.out _ (Below.refl _ _)) ?_
      case h7 =>
        intro w hSw
        go_simp
        with_reducible rfl
      simp only [List.setIfInBounds_toArray, List.set_cons_zero, List.set_cons_succ]
      refine' take_T (i := 9) (d := 20) (v := _) rfl rfl (by kernel_rfl) (by kernel_rfl) (by kernel_rfl) (by kernel_rfl) (by kernel_rfl) (fun _ _ _ h => h) (Or.inl ⟨by rfl, ?h9⟩) (HSX.out _ (Below.refl _ _)) ?_
      case h9 =>
        intro w hSw
        go_simp
        with_reducible rfl
      simp only [List.setIfInBounds_toArray, List.set_cons_zero, List.set_cons_succ]
      refine' take_T (i := 10) (d := 21) (v := _) rfl rfl (by kernel_rfl) (by kernel_rfl) (by kernel_rfl) (by kernel_rfl) (by kernel_rfl) (fun _ _ _ h => h) (Or.inl ⟨by rfl, ?h10⟩) (HSX.out _ (Below.refl _ _)) ?_
      case h10 =>
        intro w hSw
        go_simp
        with_reducible rfl
      simp only [List.setIfInBounds_toArray, List.set_cons_zero, List.set_cons_succ]
      refine' take_T (i := 11) (d := 22) (v := _) rfl rfl (by kernel_rfl) (by kernel_rfl) (by kernel_rfl) (by kernel_rfl) (by kernel_rfl) (fun _ _ _ h => h) (Or.inl ⟨by rfl, ?h11⟩) (HSX.out _ (Below.refl _ _)) ?_
      case h11 =>
        intro w hSw
        go_simp
        with_reducible rfl
      simp only [List.setIfInBounds_toArray, List.set_cons_zero, List.set_cons_succ]
      refine' take_T (i := 12) (d := 23) (v := _) rfl rfl (by kernel_rfl) (by kernel_rfl) (by kernel_rfl) (by kernel_rfl) (by kernel_rfl) (fun _ _ _ h => h) (Or.inl ⟨by rfl, ?h12⟩) (HSX.out _ (Below.refl _ _)) ?_
      case h12 =>
        intro w hSw
        go_simp
        with_reducible rfl
      simp only [List.setIfInBounds_toArray, List.set_cons_zero, List.set_cons_succ]
      refine' take_T (i := 13) (d := 24) (v := _) rfl rfl (by kernel_rfl) (by kernel_rfl) (by kernel_rfl) (by kernel_rfl) (by kernel_rfl) (fun _ _ _ h => h) (Or.inl ⟨by rfl, ?h13⟩) (HSX.out _ (Below.refl _ _)) ?_
      case h13 =>
        intro w hSw
        go_simp
        with_reducible rfl
      simp only [List.setIfInBounds_toArray, List.set_cons_zero, List.set_cons_succ]
      refine' take_T (i := 14) (d := 25) (v := _) rfl rfl (by kernel_rfl) (by kernel_rfl) (by kernel_rfl) (by kernel_rfl) (by kernel_rfl) (fun _ _ _ h => h) (Or.inl ⟨by rfl, ?h14⟩) (HSX.out _ (Below.refl _ _)) ?_
      case h14 =>
        intro w hSw
        go_simp
        with_reducible rfl
      simp only [List.setIfInBounds_toArray, List.set_cons_zero, List.set_cons_succ]
      refine' take_T (i := 15) (d := 26) (v := _) rfl rfl (by kernel_rfl) (by kernel_rfl) (by kernel_rfl) (by kernel_rfl) (by kernel_rfl) (fun _ _ _ h => h) (Or.inl ⟨by rfl, ?h15⟩) (HSX.out _ (Below.refl _ _)) ?_
      case h15 =>
        intro w hSw
        go_simp
        with_reducible rfl
      simp only [List.setIfInBounds_toArray, List.set_cons_zero, List.set_cons_succ]
      refine wpAnyT_ready (rs := [1]) (by kernel_rfl) (by simp) ?_
      refine AllReadyT.cons (o := _) rfl (fun KQ hKQ => ?_) AllReadyT.nil
      go_simp
      obtain ⟨nb, hnb⟩ : ∃ z, z = wX.heap.size := ⟨_, rfl⟩
      rw [← hnb]
      have H3 : Hid (Below wX.heap.size wX (wX.alloc (.cells #[] 67)) ∧ (wX.alloc (.cells #[] 67)).ownsRow wX.heap.size 67 3 (.slice (some ⟨nb, 0, none⟩) 0 0) ([] : List Sq.One).length (ocs [])) := by
        rw [hnb]
        exact ⟨(Below.refl _ wX).alloc (Nat.le_refl _) _, World.ownsRow_made wX #[] 0 (Nat.le_refl _) (by decide) rfl⟩
      clear hnb
      generalize (wX.alloc (.cells #[] 67)) = w3 at *
      refine hKQ.out _ _ (fun _ => HSX.out _ H3.out.1) ?_
      clear hKQ KQ
      refine wpAnyT_ready (rs := [8]) (by kernel_rfl) (by simp) ?_
      refine AllReadyT.cons (o := _) rfl (fun KQ hKQ => ?_) AllReadyT.nil
      refine wp_ocd15 infoOn Try.underlying36 _ _ rfl 19 rfl wX.heap.size (.slice (some ⟨nb, 0, none⟩) 0 0) (.slice (some ⟨g, 0, none⟩) p c) [] (s.l.take p) w3 rfl rfl H3.out.2 H3.out.1.size (by have h := Soc.part (HRO.out _ H3.out.1) H0.out.2.1 0 p c (by omega); rw [List.drop_zero] at h; exact h) (by simp; omega) ?_
      intro v4 w4 hr4 hb4 hg4 hv4
      have H4 : Hid (Below wX.heap.size wX w4 ∧ w4.ownsRow wX.heap.size 67 3 v4 (s.l.take p).length (ocs (s.l.take p))) := ⟨H3.out.1.trans hb4, hr4⟩
      obtain ⟨a4, c4, e4, j1, j2⟩ := row_form H4.out.2
      obtain ⟨N4, hN4⟩ : ∃ z, z = (s.l.take p).length := ⟨_, rfl⟩
      rw [← hN4] at e4
      subst e4
      clear hr4 hb4 hg4 hv4 j1 j2 H3 hN4
      refine hKQ.out _ _ (fun _ => HSX.out _ H4.out.1) ?_
      clear hKQ KQ
      simp only [List.setIfInBounds_toArray, List.set_cons_zero, List.set_cons_succ]
      refine wpAnyT_ready (rs := [16]) (by kernel_rfl) (by simp) ?_
      refine AllReadyT.cons (o := _) rfl (fun KQ hKQ => ?_) AllReadyT.nil
      refine wp_oc15 infoOn Try.underlying36 _ _ rfl wX.heap.size (.slice a4 N4 c4) (.slice (some ⟨g,(p+1)*3,none⟩) (N-(p+1)) (c-(p+1))) (s.l.take p) (s.l.drop (p + 1)) w4 rfl rfl H4.out.2 H4.out.1.size (HSO.out _ H4.out.1) (by have := H0.out.2.1; rw [List.length_take, List.length_drop]; omega) ?_
      intro v5 w5 hr5 hb5 hg5 hv5
      have H5 : Hid (Below wX.heap.size wX w5 ∧ LRe (w5.setCell ⟨q, 3, none⟩ v5) q ⟨s.room, s.now, s.next, s.l.take p ++ s.l.drop (p + 1)⟩ (Fs15 v5 q) ∧ Moved wX (w5.setCell ⟨q, 3, none⟩ v5) (Fs15 (.slice (some ⟨g, 0, none⟩) N c) q) (Fs15 v5 q)) := by
        have hb := H4.out.1.trans hb5
        have h := H2.out.1.put hb hr5
        exact ⟨hb, h.1, h.2⟩
      obtain ⟨a5, c5, e5, j1, j2⟩ := row_form hr5
      obtain ⟨N5, hN5⟩ : ∃ z, z = (s.l.take p ++ s.l.drop (p + 1)).length := ⟨_, rfl⟩
      rw [← hN5] at e5
      subst e5
      clear hr5 hb5 hg5 hv5 j1 j2 hN5 H4
      refine hKQ.out _ _ (fun _ => HSX.out _ H5.out.1) ?_
      clear hKQ KQ
      refine' take_T (i := 17) (d := 28) (v := _) rfl rfl (by kernel_rfl) (by kernel_rfl) (by kernel_rfl) (by kernel_rfl) (by kernel_rfl) (fun _ _ _ h => h) (Or.inl ⟨by rfl, ?h17⟩) (HSX.out _ H5.out.1) ?_
      case h17 =>
        intro w hSw
        go_simp
        with_reducible rfl
      simp only [List.setIfInBounds_toArray, List.set_cons_zero, List.set_cons_succ]
      refine' take_T (i := 18) (d := 29) (v := _) rfl rfl (by kernel_rfl) (by kernel_rfl) (by kernel_rfl) (by kernel_rfl) (by kernel_rfl) (fun _ _ _ h => h) (Or.inl ⟨by rfl, ?h18⟩) (HSX.out _ H5.out.1) ?_
      case h18 =>
        intro w hSw
        go_simp
        with_reducible rfl
      simp only [List.setIfInBounds_toArray, List.set_cons_zero, List.set_cons_succ]
      refine wpAnyT_ready (rs := [19]) (by kernel_rfl) (by simp) ?_
      refine AllReadyT.cons (o := _) rfl (fun KQ hKQ => ?_) AllReadyT.nil
      have d1 : w5.cell? ⟨q, 3, none⟩ = some (.slice (some ⟨g, 0, none⟩) N c) := HSX.out _ H5.out.1
      have f1 : w5.frozen? ⟨q, 3, none⟩ = false := (H2.out.1.later H5.out.1).blk.free 3
      go_simp
      clear d1 f1
      have HE : Hid (LRe (w5.setCell ⟨q, 3, none⟩ (.slice a5 N5 c5)) q (Sq.close s id).2 (Fs15 (.slice a5 N5 c5) q) ∧ Moved w (w5.setCell ⟨q, 3, none⟩ (.slice a5 N5 c5)) (Fs15 (.slice (some ⟨g, 0, none⟩) N c) q) (Fs15 (.slice a5 N5 c5) q)) := by
        rw [HT.out]
        exact ⟨H5.out.2.1, (Moved.of_below _ H2.out.2).trans H5.out.2.2⟩
      clear H5 HSX HRO H2
      generalize w5.setCell ⟨q, 3, none⟩ (.slice a5 N5 c5) = w6 at *
      refine hKQ.out _ _ (fun h => absurd rfl h) ?_
      clear hKQ KQ
      refine wpAnyT_done (by kernel_rfl) ?_ _
      go_wp2
      go_ret
      have e1 : (Sq.close s id).1 = 0 := by rw [HT.out]
      rw [e1]
      first | exact ⟨_, rfl, HE.out.1, HE.out.2⟩ | exact ⟨rfl, _, HE.out.1, HE.out.2⟩
set_option maxRecDepth 20000 in
set_option maxHeartbeats 4000000 in
theorem refOpen_yes15 (q : Nat) (s : Sq.St) (F : Nat → Prop) (m span : Int) (w : World) (hL : LRe w q s F) (hf : Sq.Fine m s) (hm : m ≤ 2199023255552) (h1 : ¬ span < 1) (h2 : ¬ 10000 < span) (h3 : ¬ s.room ≤ (s.l.length : Int)) :
    Calls Try.prog 18 #[dptr q, .int .i64 span] w fun e w' => ∃ F', e = .returned (.tuple #[.int .i64 (Sq.op s span).1, .int .i64 (Sq.op s span).2.1]) ∧ LRe w' q (Sq.op s span).2.2 F' ∧ Moved w w' F F' := by
  have HO : Hid (Sq.op s span = (s.next, 0, ⟨s.room, s.now, s.next + 1, s.l ++ [⟨s.next, span, s.now + span⟩]⟩)) := (show _ = _ by unfold Sq.op; rw [if_neg (by omega), if_neg h3])
  obtain ⟨v, h, rfl⟩ := hL
  obtain ⟨N, hN⟩ : ∃ N, N = s.l.length := ⟨_, rfl⟩
  have hr := h.row
  rw [← hN] at hr h3
  have hNl : N ≤ 64 := by rw [hN]; exact hf.len64
  obtain ⟨a, c, rfl, _, _⟩ := row_form hr
  have H0 : Hid (Rs15 w q s (.slice a N c) ∧ N = s.l.length) := ⟨h, hN⟩
  have c0 : w.cell? ⟨q, 0, none⟩ = some (.int .i64 s.room) := h.blk.cell 0
  have c1 : w.cell? ⟨q, 1, none⟩ = some (.int .i64 s.now) := h.blk.cell 1
  have c2 : w.cell? ⟨q, 2, none⟩ = some (.int .i64 s.next) := h.blk.cell 2
  have c3 : w.cell? ⟨q, 3, none⟩ = some (.slice a N c) := h.blk.cell 3
  have f2 : w.frozen? ⟨q, 2, none⟩ = false := h.blk.free 2
  have hw1 : IntKind.wrap .i64 (s.next + 1) = s.next + 1 := by have := hf.nextm; have := hf.next1; rw [IntKind.wrap_i64]; omega
  have hw2 : IntKind.wrap .i64 (s.now + span) = s.now + span := by have := hf.nowm; have := hf.now0; rw [IntKind.wrap_i64]; omega
  clear h hf hr hN
  unfold dptr
  go_enter Try.func18, Try.ntmps18
  go_upto_region 3 with fail
  go_quiet (fail)
  have H1 : Hid (Rs15 (w.drewN nq) q s (.slice a N c) ∧ Below w.heap.size w (w.drewN nq)) := ⟨H0.out.1.later (below_drewN (Below.refl _ _) _), below_drewN (Below.refl _ _) _⟩
  clear c0 c1 c2 c3 f2
  generalize w.drewN nq = w1 at *
  have c1 : w1.cell? ⟨q, 1, none⟩ = some (.int .i64 s.now) := H1.out.1.blk.cell 1
  have c2 : w1.cell? ⟨q, 2, none⟩ = some (.int .i64 s.next) := H1.out.1.blk.cell 2
  have c3 : w1.cell? ⟨q, 3, none⟩ = some (.slice a N c) := H1.out.1.blk.cell 3
  have f2 : w1.frozen? ⟨q, 2, none⟩ = false := H1.out.1.blk.free 2
  go_upto_region 7 with fail
  have H2 : Hid (Rs15 (w1.setCell ⟨q, 2, none⟩ (.int .i64 (s.next + 1))) q ⟨s.room, s.now, s.next + 1, s.l⟩ (.slice a N c) ∧ Moved w (w1.setCell ⟨q, 2, none⟩ (.int .i64 (s.next + 1))) (Fs15 (.slice a N c) q) (Fs15 (.slice a N c) q)) := by
    have h := H1.out.1.set (s' := ⟨s.room, s.now, s.next + 1, s.l⟩) 2 (.int .i64 (s.next + 1)) (H1.out.1.blk.set 2 _) rfl
    exact ⟨h.1, (Moved.of_below _ H1.out.2).trans h.2⟩
  clear c1 c2 c3 f2 H1
  generalize w1.setCell ⟨q, 2, none⟩ (.int .i64 (s.next + 1)) = w2 at *
  refine wp_region_T (fun w' => w'.cell? ⟨q, 1, none⟩ = some (.int .i64 s.now) ∧ w'.cell? ⟨q, 3, none⟩ = some (.slice a N c)) 20 (by kernel_rfl) ?_
  have H3 : Hid (Rs15 w2.drew q ⟨s.room, s.now, s.next + 1, s.l⟩ (.slice a N c) ∧ Moved w w2.drew (Fs15 (.slice a N c) q) (Fs15 (.slice a N c) q)) := ⟨H2.out.1.later (Below.refl _ _).drew, H2.out.2.trans (Moved.of_below _ (Below.refl _ _).drew)⟩
  clear H2
  generalize w2.drew = wX at *
  have HSX : Hid (∀ w', Below wX.heap.size wX w' → w'.cell? ⟨q, 1, none⟩ = some (.int .i64 s.now) ∧ w'.cell? ⟨q, 3, none⟩ = some (.slice a N c)) := fun w' hb => ⟨(H3.out.1.later hb).blk.cell 1, (H3.out.1.later hb).blk.cell 3⟩
  have HSO : Hid (∀ w', Below wX.heap.size wX w' → Soc w' (.slice a N c) s.l) := fun w' hb => Soc.row (H3.out.1.later hb).row
  refine' take_T (i := 0) (d := 34) (v := _) rfl rfl (by kernel_rfl) (by kernel_rfl) (by kernel_rfl) (by kernel_rfl) (by kernel_rfl) (fun _ _ _ h => h) (Or.inl ⟨by rfl, ?h0⟩) (HSX.out _ (Below.refl _ _)) ?_
  case h0 =>
    intro w hSw
    obtain ⟨t1, t3⟩ := hSw
    go_simp
    with_reducible rfl
  simp only [List.setIfInBounds_toArray, List.set_cons_zero, List.set_cons_succ]
  refine' take_T (i := 2) (d := 36) (v := _) rfl rfl (by kernel_rfl) (by kernel_rfl) (by kernel_rfl) (by kernel_rfl) (by kernel_rfl) (fun _ _ _ h => h) (Or.inl ⟨by rfl, ?h2⟩) (HSX.out _ (Below.refl _ _)) ?_
  case h2 =>
    intro w hSw
    obtain ⟨t1, t3⟩ := hSw
    go_simp
    with_reducible rfl
  simp only [List.setIfInBounds_toArray, List.set_cons_zero, List.set_cons_succ]
  refine' take_T (i := 3) (d := 37) (v := _) rfl rfl (by kernel_rfl) (by kernel_rfl) (by kernel_rfl) (by kernel_rfl) (by kernel_rfl) (fun _ _ _ h => h) (Or.inl ⟨by rfl, ?h3⟩) (HSX.out _ (Below.refl _ _)) ?_
  case h3 =>
    intro w hSw
    obtain ⟨t1, t3⟩ := hSw
    go_simp
    with_reducible rfl
  simp only [List.setIfInBounds_toArray, List.set_cons_zero, List.set_cons_succ]
  refine' take_T (i := 4) (d := 38) (v := _) rfl rfl (by kernel_rfl) (by kernel_rfl) (by kernel_rfl) (by kernel_rfl) (by kernel_rfl) (fun _ _ _ h => h) (Or.inl ⟨by rfl, ?h4⟩) (HSX.out _ (Below.refl _ _)) ?_
  case h4 =>
    intro w hSw
    obtain ⟨t1, t3⟩ := hSw
    go_simp
    with_reducible rfl
  simp only [List.setIfInBounds_toArray, List.set_cons_zero, List.set_cons_succ]
  refine' take_T (i := 5) (d := 39) (v := _) rfl rfl (by kernel_rfl) (by kernel_rfl) (by kernel_rfl) (by kernel_rfl) (by kernel_rfl) (fun _ _ _ h => h) (Or.inl ⟨by rfl, ?h5⟩) (HSX.out _ (Below.refl _ _)) ?_
  case h5 =>
    intro w hSw
    obtain ⟨t1, t3⟩ := hSw
    go_simp
    with_reducible rfl
  simp only [List.setIfInBounds_toArray, List.set_cons_zero, List.set_cons_succ]
  refine' take_T (i := 7) (d := 41) (v := _) rfl rfl (by kernel_rfl) (by kernel_rfl) (by kernel_rfl) (by kernel_rfl) (by kernel_rfl) (fun _ _ _ h => h) (Or.inl ⟨by rfl, ?h7⟩) (HSX.out _ (Below.refl _ _)) ?_
  case h7 =>
    intro w hSw
    obtain ⟨t1, t3⟩ := hSw
    go_simp
    with_reducible rfl
  simp only [List.setIfInBounds_toArray, List.set_cons_zero, List.set_cons_succ]
  refine' take_T (i := 8) (d := 42) (v := _) rfl rfl (by kernel_rfl) (by kernel_rfl) (by kernel_rfl) (by kernel_rfl) (by kernel_rfl) (fun _ _ _ h => h) (Or.inl ⟨by rfl, ?h8⟩) (HSX.out _ (Below.refl _ _)) ?_
  case h8 =>
    intro w hSw
    obtain ⟨t1, t3⟩ := hSw
    go_simp
    with_reducible rfl
  simp only [List.setIfInBounds_toArray, List.set_cons_zero, List.set_cons_succ]
  refine' take_T (i := 9) (d := 43) (v := _) rfl rfl (by kernel_rfl) (by kernel_rfl) (by kernel_rfl) (by kernel_rfl) (by kernel_rfl) (fun _ _ _ h => h) (Or.inl ⟨by rfl, ?h9⟩) (HSX.out _ (Below.refl _ _)) ?_
  case h9 =>
    intro w hSw
    obtain ⟨t1, t3⟩ := hSw
    go_simp
    with_reducible rfl
  simp only [List.setIfInBounds_toArray, List.set_cons_zero, List.set_cons_succ]
  refine' take_T (i := 10) (d := 44) (v := _) rfl rfl (by kernel_rfl) (by kernel_rfl) (by kernel_rfl) (by kernel_rfl) (by kernel_rfl) (fun _ _ _ h => h) (Or.inl ⟨by rfl, ?h10⟩) (HSX.out _ (Below.refl _ _)) ?_
  case h10 =>
    intro w hSw
    obtain ⟨t1, t3⟩ := hSw
    go_simp
    with_reducible rfl
  simp only [List.setIfInBounds_toArray, List.set_cons_zero, List.set_cons_succ]
  refine' take_T (i := 11) (d := 45) (v := _) rfl rfl (by kernel_rfl) (by kernel_rfl) (by kernel_rfl) (by kernel_rfl) (by kernel_rfl) (fun _ _ _ h => h) (Or.inl ⟨by rfl, ?h11⟩) (HSX.out _ (Below.refl _ _)) ?_
  case h11 =>
    intro w hSw
    obtain ⟨t1, t3⟩ := hSw
    go_simp
    with_reducible rfl
  simp only [List.setIfInBounds_toArray, List.set_cons_zero, List.set_cons_succ]
  refine' take_T (i := 12) (d := 46) (v := _) rfl rfl (by kernel_rfl) (by kernel_rfl) (by kernel_rfl) (by kernel_rfl) (by kernel_rfl) (fun _ _ _ h => h) (Or.inl ⟨by rfl, ?h12⟩) (HSX.out _ (Below.refl _ _)) ?_
  case h12 =>
    intro w hSw
    obtain ⟨t1, t3⟩ := hSw
    go_simp
    with_reducible rfl
  simp only [List.setIfInBounds_toArray, List.set_cons_zero, List.set_cons_succ]
  refine' take_T (i := 13) (d := 47) (v := _) rfl rfl (by kernel_rfl) (by kernel_rfl) (by kernel_rfl) (by kernel_rfl) (by kernel_rfl) (fun _ _ _ h => h) (Or.inl ⟨by rfl, ?h13⟩) (HSX.out _ (Below.refl _ _)) ?_
  case h13 =>
    intro w hSw
    obtain ⟨t1, t3⟩ := hSw
    go_simp
    with_reducible rfl
  simp only [List.setIfInBounds_toArray, List.set_cons_zero, List.set_cons_succ]
  refine' take_T (i := 14) (d := 48) (v := _) rfl rfl (by kernel_rfl) (by kernel_rfl) (by kernel_rfl) (by kernel_rfl) (by kernel_rfl) (fun _ _ _ h => h) (Or.inl ⟨by rfl, ?h14⟩) (HSX.out _ (Below.refl _ _)) ?_
  case h14 =>
    intro w hSw
    obtain ⟨t1, t3⟩ := hSw
    go_simp
    with_reducible rfl
  simp only [List.setIfInBounds_toArray, List.set_cons_zero, List.set_cons_succ]
  refine' take_T (i := 15) (d := 49) (v := _) rfl rfl (by kernel_rfl) (by kernel_rfl) (by kernel_rfl) (by kernel_rfl) (by kernel_rfl) (fun _ _ _ h => h) (Or.inl ⟨by rfl, ?h15⟩) (HSX.out _ (Below.refl _ _)) ?_
  case h15 =>
    intro w hSw
    obtain ⟨t1, t3⟩ := hSw
    go_simp
    with_reducible rfl
  simp only [List.setIfInBounds_toArray, List.set_cons_zero, List.set_cons_succ]
  have HBX : Hid (Below wX.heap.size wX wX) := Below.refl _ _
  refine wpAnyT_ready (rs := [1, 16]) (by kernel_rfl) (by simp) ?_
  refine AllReadyT.cons (o := _) rfl (fun KQ hKQ => ?_) (AllReadyT.cons (o := _) rfl (fun KQ hKQ => ?_) AllReadyT.nil)
  · as_aux_lemma =>
      go_simp
      obtain ⟨nb, hnb⟩ : ∃ z, z = wX.heap.size := ⟨_, rfl⟩
      rw [← hnb]
      have H4 : Hid (Below wX.heap.size wX (wX.alloc (.cells #[] 67)) ∧ (wX.alloc (.cells #[] 67)).ownsRow wX.heap.size 67 3 (.slice (some ⟨nb, 0, none⟩) 0 0) ([] : List Sq.One).length (ocs []) ∧ wX.heap.size ≤ nb) := by
        rw [hnb]
        exact ⟨HBX.out.alloc HBX.out.size _, World.ownsRow_made wX #[] 0 HBX.out.size (by decide) rfl, Nat.le_refl _⟩
      clear hnb
      generalize wX.alloc (.cells #[] 67) = w4 at *
      refine hKQ.out _ _ (fun _ => HSX.out _ H4.out.1) ?_
      clear hKQ KQ
      refine wpAnyT_ready (rs := [6, 16]) (by kernel_rfl) (by simp) ?_
      refine AllReadyT.cons (o := _) rfl (fun KQ hKQ => ?_) (AllReadyT.cons (o := _) rfl (fun KQ hKQ => ?_) AllReadyT.nil)
      · refine wp_oc15 infoOn Try.underlying36 _ _ rfl wX.heap.size (.slice (some ⟨nb, 0, none⟩) 0 0) (.slice a N c) [] s.l w4 rfl rfl H4.out.2.1 H4.out.1.size (HSO.out _ H4.out.1) (by have := H0.out.2; simp; omega) ?_
        intro v5 w5 hr5 hb5 hg5 hv5
        have H5 : Hid (Below wX.heap.size wX w5 ∧ w5.ownsRow wX.heap.size 67 3 v5 s.l.length (ocs s.l)) := ⟨H4.out.1.trans hb5, hr5⟩
        obtain ⟨a5, c5, e5, j1, j2⟩ := row_form H5.out.2
        rw [← H0.out.2] at e5
        subst e5
        clear hr5 hb5 hg5 hv5 j1 j2 H4
        refine hKQ.out _ _ (fun _ => HSX.out _ H5.out.1) ?_
        clear hKQ KQ
        refine wpAnyT_ready (rs := [16]) (by kernel_rfl) (by simp) ?_
        refine AllReadyT.cons (o := _) rfl (fun KQ hKQ => ?_) AllReadyT.nil
        go_simp
        obtain ⟨sb, hsb⟩ : ∃ z, z = w5.heap.size := ⟨_, rfl⟩
        rw [← hsb]
        have H6 : Hid (Below wX.heap.size wX (w5.alloc (.cells #[.int .i64 s.next, .int .i64 span, .int .i64 (s.now + span)] 67)) ∧ Cb (w5.alloc (.cells #[.int .i64 s.next, .int .i64 span, .int .i64 (s.now + span)] 67)) sb (oc ⟨s.next, span, s.now + span⟩) 67 ∧ w5.heap.size ≤ sb ∧ Below w5.heap.size w5 (w5.alloc (.cells #[.int .i64 s.next, .int .i64 span, .int .i64 (s.now + span)] 67))) := by
          rw [hsb]
          exact ⟨H5.out.1.alloc H5.out.1.size _, Cb.made w5 (oc ⟨s.next, span, s.now + span⟩) _, Nat.le_refl _, (Below.refl _ _).alloc (Nat.le_refl _) _⟩
        clear hsb
        have H66 : Hid (Below wX.heap.size wX (w5.alloc (.cells #[.int .i64 s.next, .int .i64 span, .int .i64 (s.now + span)] 67)) ∧ (w5.alloc (.cells #[.int .i64 s.next, .int .i64 span, .int .i64 (s.now + span)] 67)).ownsRow wX.heap.size 67 3 (.slice a5 N c5) s.l.length (ocs s.l) ∧ Cb (w5.alloc (.cells #[.int .i64 s.next, .int .i64 span, .int .i64 (s.now + span)] 67)) sb (oc ⟨s.next, span, s.now + span⟩) 67) := ⟨H6.out.1, H5.out.2.alloc _, H6.out.2.1⟩
        clear H5 H6
        generalize w5.alloc (.cells #[.int .i64 s.next, .int .i64 span, .int .i64 (s.now + span)] 67) = w6 at *
        refine hKQ.out _ _ (fun _ => HSX.out _ H66.out.1) ?_
        clear hKQ KQ
        refine wpAnyT_ready (rs := [17]) (by kernel_rfl) (by simp) ?_
        refine AllReadyT.cons (o := _) rfl (fun KQ hKQ => ?_) AllReadyT.nil
        refine wp_oc15 infoOn Try.underlying36 _ _ rfl wX.heap.size (.slice a5 N c5) (.slice (some ⟨sb, 0, none⟩) 1 1) s.l [⟨s.next, span, s.now + span⟩] w6 rfl rfl H66.out.2.1 H66.out.1.size (Soc.one H66.out.2.2) (by have := H0.out.2; simp only [List.length_singleton]; omega) ?_
        intro v7 w7 hr7 hb7 hg7 hv7
        have H7 : Hid (Below wX.heap.size wX w7 ∧ LRe (w7.setCell ⟨q, 3, none⟩ v7) q ⟨s.room, s.now, s.next + 1, s.l ++ [⟨s.next, span, s.now + span⟩]⟩ (Fs15 v7 q) ∧ Moved wX (w7.setCell ⟨q, 3, none⟩ v7) (Fs15 (.slice a N c) q) (Fs15 v7 q)) := by
          have hb := H66.out.1.trans hb7
          have h := H3.out.1.put hb hr7
          exact ⟨hb, h.1, h.2⟩
        obtain ⟨a7, c7, e7, j1, j2⟩ := row_form hr7
        obtain ⟨N7, hN7⟩ : ∃ z, z = (s.l ++ [(⟨s.next, span, s.now + span⟩ : Sq.One)]).length := ⟨_, rfl⟩
        rw [← hN7] at e7
        subst e7
        clear hr7 hb7 hg7 hv7 j1 j2 hN7 H66
        refine hKQ.out _ _ (fun _ => HSX.out _ H7.out.1) ?_
        clear hKQ KQ
        refine' take_T (i := 18) (d := 52) (v := _) rfl rfl (by kernel_rfl) (by kernel_rfl) (by kernel_rfl) (by kernel_rfl) (by kernel_rfl) (fun _ _ _ h => h) (Or.inl ⟨by rfl, ?h18⟩) (HSX.out _ H7.out.1) ?_
        case h18 =>
          intro w hSw
          go_simp
          with_reducible rfl
        simp only [List.setIfInBounds_toArray, List.set_cons_zero, List.set_cons_succ]
        refine' take_T (i := 19) (d := 53) (v := _) rfl rfl (by kernel_rfl) (by kernel_rfl) (by kernel_rfl) (by kernel_rfl) (by kernel_rfl) (fun _ _ _ h => h) (Or.inl ⟨by rfl, ?h19⟩) (HSX.out _ H7.out.1) ?_
        case h19 =>
          intro w hSw
          go_simp
          with_reducible rfl
        simp only [List.setIfInBounds_toArray, List.set_cons_zero, List.set_cons_succ]
        refine wpAnyT_ready (rs := [20]) (by kernel_rfl) (by simp) ?_
        refine AllReadyT.cons (o := _) rfl (fun KQ hKQ => ?_) AllReadyT.nil
        have d1 : w7.cell? ⟨q, 3, none⟩ = some (.slice a N c) := (HSX.out _ H7.out.1).2
        have f1 : w7.frozen? ⟨q, 3, none⟩ = false := (H3.out.1.later H7.out.1).blk.free 3
        go_simp
        clear d1 f1
        have HE : Hid (LRe (w7.setCell ⟨q, 3, none⟩ (.slice a7 N7 c7)) q ⟨s.room, s.now, s.next + 1, s.l ++ [⟨s.next, span, s.now + span⟩]⟩ (Fs15 (.slice a7 N7 c7) q) ∧ Moved w (w7.setCell ⟨q, 3, none⟩ (.slice a7 N7 c7)) (Fs15 (.slice a N c) q) (Fs15 (.slice a7 N7 c7) q)) := ⟨H7.out.2.1, H3.out.2.trans H7.out.2.2⟩
        clear H7 HSX HSO H3
        generalize w7.setCell ⟨q, 3, none⟩ (.slice a7 N7 c7) = w8 at *
        refine hKQ.out _ _ (fun h => absurd rfl h) ?_
        clear hKQ KQ
        refine wpAnyT_done (by kernel_rfl) ?_ _
        go_wp2
        go_ret2
        have HEN : ∃ F', Ending.returned (.tuple #[.int .i64 s.next, .int .i64 0]) = .returned (.tuple #[.int .i64 (Sq.op s span).1, .int .i64 (Sq.op s span).2.1]) ∧ LRe w8 q (Sq.op s span).2.2 F' ∧ Moved w w8 (Fs15 (.slice a N c) q) F' := by
          rw [HO.out]
          exact ⟨_, rfl, HE.out.1, HE.out.2⟩
        obtain ⟨F', z1, z2, z3⟩ := HEN
        first | exact ⟨F', z1, z2, z3⟩ | exact ⟨z1, F', z2, z3⟩
      · go_simp
        obtain ⟨sb, hsb⟩ : ∃ z, z = w4.heap.size := ⟨_, rfl⟩
        rw [← hsb]
        have H5 : Hid (Below wX.heap.size wX (w4.alloc (.cells #[.int .i64 s.next, .int .i64 span, .int .i64 (s.now + span)] 67)) ∧ Cb (w4.alloc (.cells #[.int .i64 s.next, .int .i64 span, .int .i64 (s.now + span)] 67)) sb (oc ⟨s.next, span, s.now + span⟩) 67 ∧ w4.heap.size ≤ sb ∧ Below w4.heap.size w4 (w4.alloc (.cells #[.int .i64 s.next, .int .i64 span, .int .i64 (s.now + span)] 67))) := by
          rw [hsb]
          exact ⟨H4.out.1.alloc H4.out.1.size _, Cb.made w4 (oc ⟨s.next, span, s.now + span⟩) _, Nat.le_refl _, (Below.refl _ _).alloc (Nat.le_refl _) _⟩
        clear hsb
        have H55 : Hid (Below wX.heap.size wX (w4.alloc (.cells #[.int .i64 s.next, .int .i64 span, .int .i64 (s.now + span)] 67)) ∧ (w4.alloc (.cells #[.int .i64 s.next, .int .i64 span, .int .i64 (s.now + span)] 67)).ownsRow wX.heap.size 67 3 (.slice (some ⟨nb, 0, none⟩) 0 0) ([] : List Sq.One).length (ocs []) ∧ Cb (w4.alloc (.cells #[.int .i64 s.next, .int .i64 span, .int .i64 (s.now + span)] 67)) sb (oc ⟨s.next, span, s.now + span⟩) 67 ∧ nb ≠ sb) := ⟨H5.out.1, H4.out.2.1.alloc _, H5.out.2.1, fun e => by have h1 := (H4.out.2.1.lt nb rfl).2; have h2 := H5.out.2.2.1; omega⟩
        clear H4 H5
        generalize w4.alloc (.cells #[.int .i64 s.next, .int .i64 span, .int .i64 (s.now + span)] 67) = w5 at *
        refine hKQ.out _ _ (fun _ => HSX.out _ H55.out.1) ?_
        clear hKQ KQ
        refine wpAnyT_ready (rs := [6]) (by kernel_rfl) (by simp) ?_
        refine AllReadyT.cons (o := _) rfl (fun KQ hKQ => ?_) AllReadyT.nil
        refine wp_ocd15 infoOn Try.underlying36 _ _ rfl 40 rfl wX.heap.size (.slice (some ⟨nb, 0, none⟩) 0 0) (.slice a N c) [] s.l w5 rfl rfl H55.out.2.1 H55.out.1.size (HSO.out _ H55.out.1) (by have := H0.out.2; simp; omega) ?_
        intro v6 w6 hr6 hb6 hg6 hv6
        have H66 : Hid (Below wX.heap.size wX w6 ∧ w6.ownsRow wX.heap.size 67 3 v6 s.l.length (ocs s.l) ∧ Cb w6 sb (oc ⟨s.next, span, s.now + span⟩) 67) := ⟨H55.out.1.trans hb6, hr6, H55.out.2.2.1.keep (hg6.block sb H55.out.2.2.1.lt (fun e => H55.out.2.2.2 (by simpa [Value.ownBlock] using e.symm)))⟩
        obtain ⟨a5, c5, e5, j1, j2⟩ := row_form H66.out.2.1
        rw [← H0.out.2] at e5
        subst e5
        clear hr6 hb6 hg6 hv6 j1 j2 H55
        refine hKQ.out _ _ (fun _ => HSX.out _ H66.out.1) ?_
        clear hKQ KQ
        simp only [List.setIfInBounds_toArray, List.set_cons_zero, List.set_cons_succ]
        refine wpAnyT_ready (rs := [17]) (by kernel_rfl) (by simp) ?_
        refine AllReadyT.cons (o := _) rfl (fun KQ hKQ => ?_) AllReadyT.nil
        refine wp_oc15 infoOn Try.underlying36 _ _ rfl wX.heap.size (.slice a5 N c5) (.slice (some ⟨sb, 0, none⟩) 1 1) s.l [⟨s.next, span, s.now + span⟩] w6 rfl rfl H66.out.2.1 H66.out.1.size (Soc.one H66.out.2.2) (by have := H0.out.2; simp only [List.length_singleton]; omega) ?_
        intro v7 w7 hr7 hb7 hg7 hv7
        have H7 : Hid (Below wX.heap.size wX w7 ∧ LRe (w7.setCell ⟨q, 3, none⟩ v7) q ⟨s.room, s.now, s.next + 1, s.l ++ [⟨s.next, span, s.now + span⟩]⟩ (Fs15 v7 q) ∧ Moved wX (w7.setCell ⟨q, 3, none⟩ v7) (Fs15 (.slice a N c) q) (Fs15 v7 q)) := by
          have hb := H66.out.1.trans hb7
          have h := H3.out.1.put hb hr7
          exact ⟨hb, h.1, h.2⟩
        obtain ⟨a7, c7, e7, j1, j2⟩ := row_form hr7
        obtain ⟨N7, hN7⟩ : ∃ z, z = (s.l ++ [(⟨s.next, span, s.now + span⟩ : Sq.One)]).length := ⟨_, rfl⟩
        rw [← hN7] at e7
        subst e7
        clear hr7 hb7 hg7 hv7 j1 j2 hN7 H66
        refine hKQ.out _ _ (fun _ => HSX.out _ H7.out.1) ?_
        clear hKQ KQ
        refine' take_T (i := 18) (d := 52) (v := _) rfl rfl (by kernel_rfl) (by kernel_rfl) (by kernel_rfl) (by kernel_rfl) (by kernel_rfl) (fun _ _ _ h => h) (Or.inl ⟨by rfl, ?h18⟩) (HSX.out _ H7.out.1) ?_
        case h18 =>
          intro w hSw
          go_simp
          with_reducible rfl
        simp only [List.setIfInBounds_toArray, List.set_cons_zero, List.set_cons_succ]
        refine' take_T (i := 19) (d := 53) (v := _) rfl rfl (by kernel_rfl) (by kernel_rfl) (by kernel_rfl) (by kernel_rfl) (by kernel_rfl) (fun _ _ _ h => h) (Or.inl ⟨by rfl, ?h19⟩) (HSX.out _ H7.out.1) ?_
        case h19 =>
          intro w hSw
          go_simp
          with_reducible rfl
        simp only [List.setIfInBounds_toArray, List.set_cons_zero, List.set_cons_succ]
        refine wpAnyT_ready (rs := [20]) (by kernel_rfl) (by simp) ?_
        refine AllReadyT.cons (o := _) rfl (fun KQ hKQ => ?_) AllReadyT.nil
        have d1 : w7.cell? ⟨q, 3, none⟩ = some (.slice a N c) := (HSX.out _ H7.out.1).2
        have f1 : w7.frozen? ⟨q, 3, none⟩ = false := (H3.out.1.later H7.out.1).blk.free 3
        go_simp
        clear d1 f1
        have HE : Hid (LRe (w7.setCell ⟨q, 3, none⟩ (.slice a7 N7 c7)) q ⟨s.room, s.now, s.next + 1, s.l ++ [⟨s.next, span, s.now + span⟩]⟩ (Fs15 (.slice a7 N7 c7) q) ∧ Moved w (w7.setCell ⟨q, 3, none⟩ (.slice a7 N7 c7)) (Fs15 (.slice a N c) q) (Fs15 (.slice a7 N7 c7) q)) := ⟨H7.out.2.1, H3.out.2.trans H7.out.2.2⟩
        clear H7 HSX HSO H3
        generalize w7.setCell ⟨q, 3, none⟩ (.slice a7 N7 c7) = w8 at *
        refine hKQ.out _ _ (fun h => absurd rfl h) ?_
        clear hKQ KQ
        refine wpAnyT_done (by kernel_rfl) ?_ _
        go_wp2
        go_ret2
        have HEN : ∃ F', Ending.returned (.tuple #[.int .i64 s.next, .int .i64 0]) = .returned (.tuple #[.int .i64 (Sq.op s span).1, .int .i64 (Sq.op s span).2.1]) ∧ LRe w8 q (Sq.op s span).2.2 F' ∧ Moved w w8 (Fs15 (.slice a N c) q) F' := by
          rw [HO.out]
          exact ⟨_, rfl, HE.out.1, HE.out.2⟩
        obtain ⟨F', z1, z2, z3⟩ := HEN
        first | exact ⟨F', z1, z2, z3⟩ | exact ⟨z1, F', z2, z3⟩
  · as_aux_lemma =>
      go_simp
      obtain ⟨sb, hsb⟩ : ∃ z, z = wX.heap.size := ⟨_, rfl⟩
      rw [← hsb]
      have H4 : Hid (Below wX.heap.size wX (wX.alloc (.cells #[.int .i64 s.next, .int .i64 span, .int .i64 (s.now + span)] 67)) ∧ Cb (wX.alloc (.cells #[.int .i64 s.next, .int .i64 span, .int .i64 (s.now + span)] 67)) sb (oc ⟨s.next, span, s.now + span⟩) 67 ∧ wX.heap.size ≤ sb ∧ Below wX.heap.size wX (wX.alloc (.cells #[.int .i64 s.next, .int .i64 span, .int .i64 (s.now + span)] 67))) := by
        rw [hsb]
        exact ⟨HBX.out.alloc HBX.out.size _, Cb.made wX (oc ⟨s.next, span, s.now + span⟩) _, Nat.le_refl _, (Below.refl _ _).alloc (Nat.le_refl _) _⟩
      clear hsb
      generalize wX.alloc (.cells #[.int .i64 s.next, .int .i64 span, .int .i64 (s.now + span)] 67) = w4 at *
      refine hKQ.out _ _ (fun _ => HSX.out _ H4.out.1) ?_
      clear hKQ KQ
      refine wpAnyT_ready (rs := [1]) (by kernel_rfl) (by simp) ?_
      refine AllReadyT.cons (o := _) rfl (fun KQ hKQ => ?_) AllReadyT.nil
      go_simp
      obtain ⟨nb, hnb⟩ : ∃ z, z = w4.heap.size := ⟨_, rfl⟩
      rw [← hnb]
      have H5 : Hid (Below wX.heap.size wX (w4.alloc (.cells #[] 67)) ∧ (w4.alloc (.cells #[] 67)).ownsRow wX.heap.size 67 3 (.slice (some ⟨nb, 0, none⟩) 0 0) ([] : List Sq.One).length (ocs []) ∧ w4.heap.size ≤ nb) := by
        rw [hnb]
        exact ⟨H4.out.1.alloc H4.out.1.size _, World.ownsRow_made w4 #[] 0 H4.out.1.size (by decide) rfl, Nat.le_refl _⟩
      clear hnb
      have H55 : Hid (Below wX.heap.size wX (w4.alloc (.cells #[] 67)) ∧ (w4.alloc (.cells #[] 67)).ownsRow wX.heap.size 67 3 (.slice (some ⟨nb, 0, none⟩) 0 0) ([] : List Sq.One).length (ocs []) ∧ Cb (w4.alloc (.cells #[] 67)) sb (oc ⟨s.next, span, s.now + span⟩) 67 ∧ nb ≠ sb) := ⟨H5.out.1, H5.out.2.1, H4.out.2.1.below ((Below.refl _ _).alloc (Nat.le_refl _) _), fun e => by have h1 := H4.out.2.1.lt; have h2 := H5.out.2.2; omega⟩
      clear H4 H5
      generalize w4.alloc (.cells #[] 67) = w5 at *
      refine hKQ.out _ _ (fun _ => HSX.out _ H55.out.1) ?_
      clear hKQ KQ
      refine wpAnyT_ready (rs := [6]) (by kernel_rfl) (by simp) ?_
      refine AllReadyT.cons (o := _) rfl (fun KQ hKQ => ?_) AllReadyT.nil
      refine wp_ocd15 infoOn Try.underlying36 _ _ rfl 40 rfl wX.heap.size (.slice (some ⟨nb, 0, none⟩) 0 0) (.slice a N c) [] s.l w5 rfl rfl H55.out.2.1 H55.out.1.size (HSO.out _ H55.out.1) (by have := H0.out.2; simp; omega) ?_
      intro v6 w6 hr6 hb6 hg6 hv6
      have H66 : Hid (Below wX.heap.size wX w6 ∧ w6.ownsRow wX.heap.size 67 3 v6 s.l.length (ocs s.l) ∧ Cb w6 sb (oc ⟨s.next, span, s.now + span⟩) 67) := ⟨H55.out.1.trans hb6, hr6, H55.out.2.2.1.keep (hg6.block sb H55.out.2.2.1.lt (fun e => H55.out.2.2.2 (by simpa [Value.ownBlock] using e.symm)))⟩
      obtain ⟨a5, c5, e5, j1, j2⟩ := row_form H66.out.2.1
      rw [← H0.out.2] at e5
      subst e5
      clear hr6 hb6 hg6 hv6 j1 j2 H55
      refine hKQ.out _ _ (fun _ => HSX.out _ H66.out.1) ?_
      clear hKQ KQ
      simp only [List.setIfInBounds_toArray, List.set_cons_zero, List.set_cons_succ]
      refine wpAnyT_ready (rs := [17]) (by kernel_rfl) (by simp) ?_
      refine AllReadyT.cons (o := _) rfl (fun KQ hKQ => ?_) AllReadyT.nil
      refine wp_oc15 infoOn Try.underlying36 _ _ rfl wX.heap.size (.slice a5 N c5) (.slice (some ⟨sb, 0, none⟩) 1 1) s.l [⟨s.next, span, s.now + span⟩] w6 rfl rfl H66.out.2.1 H66.out.1.size (Soc.one H66.out.2.2) (by have := H0.out.2; simp only [List.length_singleton]; omega) ?_
      intro v7 w7 hr7 hb7 hg7 hv7
      have H7 : Hid (Below wX.heap.size wX w7 ∧ LRe (w7.setCell ⟨q, 3, none⟩ v7) q ⟨s.room, s.now, s.next + 1, s.l ++ [⟨s.next, span, s.now + span⟩]⟩ (Fs15 v7 q) ∧ Moved wX (w7.setCell ⟨q, 3, none⟩ v7) (Fs15 (.slice a N c) q) (Fs15 v7 q)) := by
        have hb := H66.out.1.trans hb7
        have h := H3.out.1.put hb hr7
        exact ⟨hb, h.1, h.2⟩
      obtain ⟨a7, c7, e7, j1, j2⟩ := row_form hr7
      obtain ⟨N7, hN7⟩ : ∃ z, z = (s.l ++ [(⟨s.next, span, s.now + span⟩ : Sq.One)]).length := ⟨_, rfl⟩
      rw [← hN7] at e7
      subst e7
      clear hr7 hb7 hg7 hv7 j1 j2 hN7 H66
      refine hKQ.out _ _ (fun _ => HSX.out _ H7.out.1) ?_
      clear hKQ KQ
      refine' take_T (i := 18) (d := 52) (v := _) rfl rfl (by kernel_rfl) (by kernel_rfl) (by kernel_rfl) (by kernel_rfl) (by kernel_rfl) (fun _ _ _ h => h) (Or.inl ⟨by rfl, ?h18⟩) (HSX.out _ H7.out.1) ?_
      case h18 =>
        intro w hSw
        go_simp
        with_reducible rfl
      simp only [List.setIfInBounds_toArray, List.set_cons_zero, List.set_cons_succ]
      refine' take_T (i := 19) (d := 53) (v := _) rfl rfl (by kernel_rfl) (by kernel_rfl) (by kernel_rfl) (by kernel_rfl) (by kernel_rfl) (fun _ _ _ h => h) (Or.inl ⟨by rfl, ?h19⟩) (HSX.out _ H7.out.1) ?_
      case h19 =>
        intro w hSw
        go_simp
        with_reducible rfl
      simp only [List.setIfInBounds_toArray, List.set_cons_zero, List.set_cons_succ]
      refine wpAnyT_ready (rs := [20]) (by kernel_rfl) (by simp) ?_
      refine AllReadyT.cons (o := _) rfl (fun KQ hKQ => ?_) AllReadyT.nil
      have d1 : w7.cell? ⟨q, 3, none⟩ = some (.slice a N c) := (HSX.out _ H7.out.1).2
      have f1 : w7.frozen? ⟨q, 3, none⟩ = false := (H3.out.1.later H7.out.1).blk.free 3
      go_simp
      clear d1 f1
      have HE : Hid (LRe (w7.setCell ⟨q, 3, none⟩ (.slice a7 N7 c7)) q ⟨s.room, s.now, s.next + 1, s.l ++ [⟨s.next, span, s.now + span⟩]⟩ (Fs15 (.slice a7 N7 c7) q) ∧ Moved w (w7.setCell ⟨q, 3, none⟩ (.slice a7 N7 c7)) (Fs15 (.slice a N c) q) (Fs15 (.slice a7 N7 c7) q)) := ⟨H7.out.2.1, H3.out.2.trans H7.out.2.2⟩
      clear H7 HSX HSO H3
      generalize w7.setCell ⟨q, 3, none⟩ (.slice a7 N7 c7) = w8 at *
      refine hKQ.out _ _ (fun h => absurd rfl h) ?_
      clear hKQ KQ
      refine wpAnyT_done (by kernel_rfl) ?_ _
      go_wp2
      go_ret2
      have HEN : ∃ F', Ending.returned (.tuple #[.int .i64 s.next, .int .i64 0]) = .returned (.tuple #[.int .i64 (Sq.op s span).1, .int .i64 (Sq.op s span).2.1]) ∧ LRe w8 q (Sq.op s span).2.2 F' ∧ Moved w w8 (Fs15 (.slice a N c) q) F' := by
        rw [HO.out]
        exact ⟨_, rfl, HE.out.1, HE.out.2⟩
      obtain ⟨F', z1, z2, z3⟩ := HEN
      first | exact ⟨F', z1, z2, z3⟩ | exact ⟨z1, F', z2, z3⟩
end Go.Proofs.Ytlabdhllindenaa
