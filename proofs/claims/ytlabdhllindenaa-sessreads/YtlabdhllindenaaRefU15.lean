/- The reference's Put. -/
import Derived.Test.YtlabdhllindenaaRefC15
import Derived.Test.YtlabdhllindenaaLibU14
namespace Go.Proofs.Ytlabdhllindenaa
open Go.RowKit

set_option maxRecDepth 20000 in
set_option maxHeartbeats 8000000 in
theorem refPut_any15 (q : Nat) (s : Sq.St) (F : Nat → Prop) (m : Int) (w : World) (hL : LRe w q s F) (hf : Sq.Fine m s) :
    Calls Try.prog 28 #[dptr q] w fun e w' => ∃ v, e = .returned v ∧ Bs w' v (Sq.bytes s) ∧ Below w.heap.size w w' := by
  obtain ⟨v, h, rfl⟩ := hL
  obtain ⟨N, hN⟩ : ∃ N, N = s.l.length := ⟨_, rfl⟩
  have hr := h.row
  rw [← hN] at hr
  obtain ⟨a, c, rfl, _, ha⟩ := row_form hr
  have hN64 : N ≤ 64 := by rw [hN]; exact hf.len64
  have H0 : Hid (Rs15 w q s (.slice a N c) ∧ N = s.l.length ∧ (0 < N → ∃ g, a = some ⟨g, 0, none⟩)) := ⟨h, hN, ha⟩
  have c0 : w.cell? ⟨q, 0, none⟩ = some (.int .i64 s.room) := h.blk.cell 0
  have c1 : w.cell? ⟨q, 1, none⟩ = some (.int .i64 s.now) := h.blk.cell 1
  clear h hf hr hN ha
  unfold dptr
  go_enter Try.func28, Try.ntmps28
  go_upto_region 1 with fail
  refine wp_region_held_drew (S := fun w' => Below w.heap.size w w') (by kernel_rfl) (Below.refl _ _).drew (fun _ => ?_)
  have H1 : Hid (Below w.heap.size w w.drew) := (Below.refl _ _).drew
  clear c0 c1
  generalize w.drew = s0 at *
  refine' take_at (i := 0) (d := 5) (v := _) rfl rfl (by kernel_rfl) (by kernel_rfl) (by kernel_rfl) (fun _ _ _ h => h) (Or.inl ⟨by rfl, ?h0⟩) (H1.out) ?_
  case h0 =>
    intro w hSw
    have t0 : w.cell? ⟨q, 0, none⟩ = some (.int .i64 s.room) := (H0.out.1.later hSw).blk.cell 0
    have t1 : w.cell? ⟨q, 1, none⟩ = some (.int .i64 s.now) := (H0.out.1.later hSw).blk.cell 1
    go_simp
    with_reducible rfl
  simp only [List.setIfInBounds_toArray, List.set_cons_zero, List.set_cons_succ]
  refine' take_at (i := 1) (d := 6) (v := _) rfl rfl (by kernel_rfl) (by kernel_rfl) (by kernel_rfl) (fun _ _ _ h => h) (Or.inl ⟨by rfl, ?h1⟩) (H1.out) ?_
  case h1 =>
    intro w hSw
    have t0 : w.cell? ⟨q, 0, none⟩ = some (.int .i64 s.room) := (H0.out.1.later hSw).blk.cell 0
    have t1 : w.cell? ⟨q, 1, none⟩ = some (.int .i64 s.now) := (H0.out.1.later hSw).blk.cell 1
    go_simp
    with_reducible rfl
  simp only [List.setIfInBounds_toArray, List.set_cons_zero, List.set_cons_succ]
  refine' take_at (i := 2) (d := 7) (v := _) rfl rfl (by kernel_rfl) (by kernel_rfl) (by kernel_rfl) (fun _ _ _ h => h) (Or.inl ⟨by rfl, ?h2⟩) (H1.out) ?_
  case h2 =>
    intro w hSw
    have t0 : w.cell? ⟨q, 0, none⟩ = some (.int .i64 s.room) := (H0.out.1.later hSw).blk.cell 0
    have t1 : w.cell? ⟨q, 1, none⟩ = some (.int .i64 s.now) := (H0.out.1.later hSw).blk.cell 1
    go_simp
    with_reducible rfl
  simp only [List.setIfInBounds_toArray, List.set_cons_zero, List.set_cons_succ]
  refine' take_at (i := 3) (d := 8) (v := _) rfl rfl (by kernel_rfl) (by kernel_rfl) (by kernel_rfl) (fun _ _ _ h => h) (Or.inl ⟨by rfl, ?h3⟩) (H1.out) ?_
  case h3 =>
    intro w hSw
    have t0 : w.cell? ⟨q, 0, none⟩ = some (.int .i64 s.room) := (H0.out.1.later hSw).blk.cell 0
    have t1 : w.cell? ⟨q, 1, none⟩ = some (.int .i64 s.now) := (H0.out.1.later hSw).blk.cell 1
    go_simp
    with_reducible rfl
  simp only [List.setIfInBounds_toArray, List.set_cons_zero, List.set_cons_succ]
  refine' take_at (i := 5) (d := 10) (v := _) rfl rfl (by kernel_rfl) (by kernel_rfl) (by kernel_rfl) (fun _ _ _ h => h) (Or.inl ⟨by rfl, ?h5⟩) (H1.out) ?_
  case h5 =>
    intro w hSw
    have t0 : w.cell? ⟨q, 0, none⟩ = some (.int .i64 s.room) := (H0.out.1.later hSw).blk.cell 0
    have t1 : w.cell? ⟨q, 1, none⟩ = some (.int .i64 s.now) := (H0.out.1.later hSw).blk.cell 1
    go_simp
    with_reducible rfl
  simp only [List.setIfInBounds_toArray, List.set_cons_zero, List.set_cons_succ]
  refine' take_at (i := 6) (d := 11) (v := _) rfl rfl (by kernel_rfl) (by kernel_rfl) (by kernel_rfl) (fun _ _ _ h => h) (Or.inl ⟨by rfl, ?h6⟩) (H1.out) ?_
  case h6 =>
    intro w hSw
    have t0 : w.cell? ⟨q, 0, none⟩ = some (.int .i64 s.room) := (H0.out.1.later hSw).blk.cell 0
    have t1 : w.cell? ⟨q, 1, none⟩ = some (.int .i64 s.now) := (H0.out.1.later hSw).blk.cell 1
    go_simp
    with_reducible rfl
  simp only [List.setIfInBounds_toArray, List.set_cons_zero, List.set_cons_succ]
  refine' take_at (i := 7) (d := 12) (v := _) rfl rfl (by kernel_rfl) (by kernel_rfl) (by kernel_rfl) (fun _ _ _ h => h) (Or.inl ⟨by rfl, ?h7⟩) (H1.out) ?_
  case h7 =>
    intro w hSw
    have t0 : w.cell? ⟨q, 0, none⟩ = some (.int .i64 s.room) := (H0.out.1.later hSw).blk.cell 0
    have t1 : w.cell? ⟨q, 1, none⟩ = some (.int .i64 s.now) := (H0.out.1.later hSw).blk.cell 1
    go_simp
    with_reducible rfl
  simp only [List.setIfInBounds_toArray, List.set_cons_zero, List.set_cons_succ]
  refine' take_at (i := 8) (d := 13) (v := _) rfl rfl (by kernel_rfl) (by kernel_rfl) (by kernel_rfl) (fun _ _ _ h => h) (Or.inl ⟨by rfl, ?h8⟩) (H1.out) ?_
  case h8 =>
    intro w hSw
    have t0 : w.cell? ⟨q, 0, none⟩ = some (.int .i64 s.room) := (H0.out.1.later hSw).blk.cell 0
    have t1 : w.cell? ⟨q, 1, none⟩ = some (.int .i64 s.now) := (H0.out.1.later hSw).blk.cell 1
    go_simp
    with_reducible rfl
  simp only [List.setIfInBounds_toArray, List.set_cons_zero, List.set_cons_succ]
  refine wpAnyH_ready (rs := [4]) (by kernel_rfl) (by simp) ?_
  refine AllReadyH.cons (o := _) rfl (fun KQ hKQ => ?_) AllReadyH.nil
  go_simp
  refine (Pw.refI64_bs (.slice none 0 0) [] s.room s0 (Bs.nil _) (by decide)).mono ?_
  rintro e s1 ⟨v1, rfl, hv1, hb1⟩
  have J1 : Hid (Below w.heap.size w s1 ∧ Bs s1 v1 (Pk.be8 s.room)) := ⟨H1.out.trans (hb1.mono H1.out.size), by simpa using hv1⟩
  obtain ⟨a1, n1, c1, rfl, hx1, hx2⟩ := hv1
  clear hb1 H1 hx1 hx2
  simp only []
  refine hKQ.out _ _ J1.out.1 (fun _ => ?_)
  clear hKQ KQ
  refine wpAnyH_ready (rs := [9]) (by kernel_rfl) (by simp) ?_
  refine AllReadyH.cons (o := _) rfl (fun KQ hKQ => ?_) AllReadyH.nil
  go_simp
  refine (Pw.refI64_bs _ _ s.now s1 J1.out.2 (by rw [Pk.be8_len]; decide)).mono ?_
  rintro e s2 ⟨v2, rfl, hv2, hb2⟩
  have J2 : Hid (Below w.heap.size w s2 ∧ Bs s2 v2 (Pk.be8 s.room ++ Pk.be8 s.now)) := ⟨J1.out.1.trans (hb2.mono J1.out.1.size), hv2⟩
  obtain ⟨a2, n2, c2, rfl, hx1, hx2⟩ := hv2
  clear hb2 J1 hx1 hx2
  simp only []
  refine hKQ.out _ _ J2.out.1 (fun _ => ?_)
  clear hKQ KQ
  refine' take_at (i := 10) (d := 3) (v := _) rfl rfl (by kernel_rfl) (by kernel_rfl) (by kernel_rfl) (fun _ _ _ h => h) (Or.inl ⟨by rfl, ?h10⟩) (J2.out.1) ?_
  case h10 =>
    intro w hSw
    clear hSw
    go_simp
    with_reducible rfl
  simp only [List.setIfInBounds_toArray, List.set_cons_zero, List.set_cons_succ]
  refine wpAnyH_done (by kernel_rfl) ?_ _
  go_upto_region 2 with fail
  refine wp_region_held_drew (S := fun w' => Below w.heap.size w w') (by kernel_rfl) J2.out.1.drew (fun _ => ?_)
  have J3 : Hid (Below w.heap.size w s2.drew ∧ Bs s2.drew (.slice a2 n2 c2) (Pk.be8 s.room ++ Pk.be8 s.now)) := ⟨J2.out.1.drew, J2.out.2.below (Below.refl _ _).drew⟩
  clear J2
  generalize s2.drew = s3 at *
  refine' take_at (i := 0) (d := 15) (v := _) rfl rfl (by kernel_rfl) (by kernel_rfl) (by kernel_rfl) (fun _ _ _ h => h) (Or.inl ⟨by rfl, ?h0⟩) (J3.out.1) ?_
  case h0 =>
    intro w hSw
    have t2 : w.cell? ⟨q, 2, none⟩ = some (.int .i64 s.next) := (H0.out.1.later hSw).blk.cell 2
    have t3 : w.cell? ⟨q, 3, none⟩ = some (.slice a N c) := (H0.out.1.later hSw).blk.cell 3
    go_simp
    with_reducible rfl
  simp only [List.setIfInBounds_toArray, List.set_cons_zero, List.set_cons_succ]
  refine' take_at (i := 1) (d := 16) (v := _) rfl rfl (by kernel_rfl) (by kernel_rfl) (by kernel_rfl) (fun _ _ _ h => h) (Or.inl ⟨by rfl, ?h1⟩) (J3.out.1) ?_
  case h1 =>
    intro w hSw
    have t2 : w.cell? ⟨q, 2, none⟩ = some (.int .i64 s.next) := (H0.out.1.later hSw).blk.cell 2
    have t3 : w.cell? ⟨q, 3, none⟩ = some (.slice a N c) := (H0.out.1.later hSw).blk.cell 3
    go_simp
    with_reducible rfl
  simp only [List.setIfInBounds_toArray, List.set_cons_zero, List.set_cons_succ]
  refine' take_at (i := 2) (d := 17) (v := _) rfl rfl (by kernel_rfl) (by kernel_rfl) (by kernel_rfl) (fun _ _ _ h => h) (Or.inl ⟨by rfl, ?h2⟩) (J3.out.1) ?_
  case h2 =>
    intro w hSw
    have t2 : w.cell? ⟨q, 2, none⟩ = some (.int .i64 s.next) := (H0.out.1.later hSw).blk.cell 2
    have t3 : w.cell? ⟨q, 3, none⟩ = some (.slice a N c) := (H0.out.1.later hSw).blk.cell 3
    go_simp
    with_reducible rfl
  simp only [List.setIfInBounds_toArray, List.set_cons_zero, List.set_cons_succ]
  refine' take_at (i := 3) (d := 18) (v := _) rfl rfl (by kernel_rfl) (by kernel_rfl) (by kernel_rfl) (fun _ _ _ h => h) (Or.inl ⟨by rfl, ?h3⟩) (J3.out.1) ?_
  case h3 =>
    intro w hSw
    have t2 : w.cell? ⟨q, 2, none⟩ = some (.int .i64 s.next) := (H0.out.1.later hSw).blk.cell 2
    have t3 : w.cell? ⟨q, 3, none⟩ = some (.slice a N c) := (H0.out.1.later hSw).blk.cell 3
    go_simp
    with_reducible rfl
  simp only [List.setIfInBounds_toArray, List.set_cons_zero, List.set_cons_succ]
  refine' take_at (i := 4) (d := 19) (v := _) rfl rfl (by kernel_rfl) (by kernel_rfl) (by kernel_rfl) (fun _ _ _ h => h) (Or.inl ⟨by rfl, ?h4⟩) (J3.out.1) ?_
  case h4 =>
    intro w hSw
    have t2 : w.cell? ⟨q, 2, none⟩ = some (.int .i64 s.next) := (H0.out.1.later hSw).blk.cell 2
    have t3 : w.cell? ⟨q, 3, none⟩ = some (.slice a N c) := (H0.out.1.later hSw).blk.cell 3
    go_simp
    with_reducible rfl
  simp only [List.setIfInBounds_toArray, List.set_cons_zero, List.set_cons_succ]
  refine' take_at (i := 6) (d := 21) (v := _) rfl rfl (by kernel_rfl) (by kernel_rfl) (by kernel_rfl) (fun _ _ _ h => h) (Or.inl ⟨by rfl, ?h6⟩) (J3.out.1) ?_
  case h6 =>
    intro w hSw
    have t2 : w.cell? ⟨q, 2, none⟩ = some (.int .i64 s.next) := (H0.out.1.later hSw).blk.cell 2
    have t3 : w.cell? ⟨q, 3, none⟩ = some (.slice a N c) := (H0.out.1.later hSw).blk.cell 3
    go_simp
    with_reducible rfl
  simp only [List.setIfInBounds_toArray, List.set_cons_zero, List.set_cons_succ]
  refine' take_at (i := 7) (d := 22) (v := _) rfl rfl (by kernel_rfl) (by kernel_rfl) (by kernel_rfl) (fun _ _ _ h => h) (Or.inl ⟨by rfl, ?h7⟩) (J3.out.1) ?_
  case h7 =>
    intro w hSw
    have t2 : w.cell? ⟨q, 2, none⟩ = some (.int .i64 s.next) := (H0.out.1.later hSw).blk.cell 2
    have t3 : w.cell? ⟨q, 3, none⟩ = some (.slice a N c) := (H0.out.1.later hSw).blk.cell 3
    go_simp
    with_reducible rfl
  simp only [List.setIfInBounds_toArray, List.set_cons_zero, List.set_cons_succ]
  refine' take_at (i := 8) (d := 23) (v := _) rfl rfl (by kernel_rfl) (by kernel_rfl) (by kernel_rfl) (fun _ _ _ h => h) (Or.inl ⟨by rfl, ?h8⟩) (J3.out.1) ?_
  case h8 =>
    intro w hSw
    have t2 : w.cell? ⟨q, 2, none⟩ = some (.int .i64 s.next) := (H0.out.1.later hSw).blk.cell 2
    have t3 : w.cell? ⟨q, 3, none⟩ = some (.slice a N c) := (H0.out.1.later hSw).blk.cell 3
    go_simp
    with_reducible rfl
  simp only [List.setIfInBounds_toArray, List.set_cons_zero, List.set_cons_succ]
  refine' take_at (i := 9) (d := 24) (v := _) rfl rfl (by kernel_rfl) (by kernel_rfl) (by kernel_rfl) (fun _ _ _ h => h) (Or.inl ⟨by rfl, ?h9⟩) (J3.out.1) ?_
  case h9 =>
    intro w hSw
    have t2 : w.cell? ⟨q, 2, none⟩ = some (.int .i64 s.next) := (H0.out.1.later hSw).blk.cell 2
    have t3 : w.cell? ⟨q, 3, none⟩ = some (.slice a N c) := (H0.out.1.later hSw).blk.cell 3
    go_simp
    with_reducible rfl
  simp only [List.setIfInBounds_toArray, List.set_cons_zero, List.set_cons_succ]
  refine' take_at (i := 10) (d := 25) (v := _) rfl rfl (by kernel_rfl) (by kernel_rfl) (by kernel_rfl) (fun _ _ _ h => h) (Or.inl ⟨by rfl, ?h10⟩) (J3.out.1) ?_
  case h10 =>
    intro w hSw
    have t2 : w.cell? ⟨q, 2, none⟩ = some (.int .i64 s.next) := (H0.out.1.later hSw).blk.cell 2
    have t3 : w.cell? ⟨q, 3, none⟩ = some (.slice a N c) := (H0.out.1.later hSw).blk.cell 3
    go_simp
    with_reducible rfl
  simp only [List.setIfInBounds_toArray, List.set_cons_zero, List.set_cons_succ]
  refine wpAnyH_ready (rs := [5]) (by kernel_rfl) (by simp) ?_
  refine AllReadyH.cons (o := _) rfl (fun KQ hKQ => ?_) AllReadyH.nil
  go_simp
  refine (Pw.refI64_bs _ _ s.next s3 J3.out.2 (by rw [List.length_append, Pk.be8_len, Pk.be8_len]; decide)).mono ?_
  rintro e s4 ⟨v4, rfl, hv4, hb4⟩
  have J4 : Hid (Below w.heap.size w s4 ∧ Bs s4 v4 (Pk.be8 s.room ++ Pk.be8 s.now ++ Pk.be8 s.next)) := ⟨J3.out.1.trans (hb4.mono J3.out.1.size), hv4⟩
  obtain ⟨a4, n4, c4, rfl, hx1, hx2⟩ := hv4
  clear hb4 J3 hx1 hx2
  simp only []
  refine hKQ.out _ _ J4.out.1 (fun _ => ?_)
  clear hKQ KQ
  refine wpAnyH_ready (rs := [11]) (by kernel_rfl) (by simp) ?_
  refine AllReadyH.cons (o := _) rfl (fun KQ hKQ => ?_) AllReadyH.nil
  go_simp
  refine (Pw.refI64_bs _ _ (N : Int) s4 J4.out.2 (by rw [List.length_append, List.length_append, Pk.be8_len, Pk.be8_len, Pk.be8_len]; decide)).mono ?_
  rintro e s5 ⟨v5, rfl, hv5, hb5⟩
  have J5 : Hid (Below w.heap.size w s5 ∧ Bs s5 v5 (Pk.be8 s.room ++ Pk.be8 s.now ++ Pk.be8 s.next ++ Pk.be8 (N : Int))) := ⟨J4.out.1.trans (hb5.mono J4.out.1.size), hv5⟩
  obtain ⟨a5, n5, c5, rfl, hx1, hx2⟩ := hv5
  clear hb5 J4 hx1 hx2
  simp only []
  refine hKQ.out _ _ J5.out.1 (fun _ => ?_)
  clear hKQ KQ
  refine' take_at (i := 12) (d := 3) (v := _) rfl rfl (by kernel_rfl) (by kernel_rfl) (by kernel_rfl) (fun _ _ _ h => h) (Or.inl ⟨by rfl, ?h12⟩) (J5.out.1) ?_
  case h12 =>
    intro w hSw
    clear hSw
    go_simp
    with_reducible rfl
  simp only [List.setIfInBounds_toArray, List.set_cons_zero, List.set_cons_succ]
  refine wpAnyH_done (by kernel_rfl) ?_ _
  go_wp2
  go_loopw [3, 4] (fun u i wx => ∃ k : Nat, k ≤ N ∧ i = .int .i64 (k : Int) ∧ Below w.heap.size w wx ∧ Bs wx u ((Pk.be8 s.room ++ Pk.be8 s.now ++ Pk.be8 s.next ++ Pk.be8 (N : Int)) ++ Sq.flat (s.l.take k))) (fun _ i _ => N - (intOf i).toNat)
  case atStart => exact ⟨0, Nat.zero_le _, rfl, J5.out.1, by simpa [Sq.flat] using J5.out.2⟩
  case round =>
    obtain ⟨k, hk, rfl, hb, hu⟩ := hrel
    have HW : Hid (Below w.heap.size w wr ∧ Bs wr u3 ((Pk.be8 s.room ++ Pk.be8 s.now ++ Pk.be8 s.next ++ Pk.be8 (N : Int)) ++ Sq.flat (s.l.take k))) := ⟨hb, hu⟩
    obtain ⟨ua, un, uc, rfl, hx1, hx2⟩ := hu
    clear hb hx1 hx2 J5
    have c3 : wr.cell? ⟨q, 3, none⟩ = some (.slice a N c) := (H0.out.1.later HW.out.1).blk.cell 3
    by_cases hlt : k < N
    · have hlt' : (k : Int) < (N : Int) := by omega
      have hk0 : (0 : Int) ≤ (k : Int) := by omega
      have hwk : IntKind.wrap .i64 ((k : Int) + 1) = (k : Int) + 1 := by rw [IntKind.wrap_i64]; omega
      obtain ⟨g, hg⟩ := H0.out.2.2 (by omega)
      subst hg
      obtain ⟨x, hx⟩ : ∃ x, s.l[k]? = some x := ⟨s.l[k]'(by rw [← H0.out.2.1]; exact hlt), List.getElem?_eq_getElem _⟩
      have HX : Hid (s.l[k]? = some x ∧ Sq.flat (s.l.take (k + 1)) = Sq.flat (s.l.take k) ++ Pk.be8 x.id ++ Pk.be8 x.span ++ Pk.be8 x.till) := ⟨hx, by
        rw [List.take_add_one, hx]
        unfold Sq.flat Sq.three
        simp⟩
      have HLN : Hid (((Pk.be8 s.room ++ Pk.be8 s.now ++ Pk.be8 s.next ++ Pk.be8 (N : Int)) ++ Sq.flat (s.l.take k)).length ≤ 2000) := (show ((Pk.be8 s.room ++ Pk.be8 s.now ++ Pk.be8 s.next ++ Pk.be8 (N : Int)) ++ Sq.flat (s.l.take k)).length ≤ 2000 by
        have e : (Sq.flat (s.l.take k)).length = 24 * k := by
          unfold Sq.flat
          have key : ∀ l : List Sq.One, ((l.flatMap Sq.three).flatMap Pk.be8).length = 24 * l.length := fun l => by
            induction l with
            | nil => rfl
            | cons y l ih => rw [List.flatMap_cons, List.flatMap_append, List.length_append, ih, List.length_cons]; simp only [Sq.three, List.flatMap_cons, List.flatMap_nil, List.length_append, Pk.be8_len, List.length_nil]; omega
          rw [key, List.length_take]
          have := H0.out.2.1
          omega
        simp only [List.length_append, Pk.be8_len, e]
        omega)
      clear hx
      go_upto_region 6 with fail
      refine wp_region_held_drew (S := fun w' => Below w.heap.size w w') (by kernel_rfl) HW.out.1.drew (fun _ => ?_)
      have Jt1 : Hid (Below w.heap.size w wr.drew ∧ Bs wr.drew (.slice ua un uc) ((Pk.be8 s.room ++ Pk.be8 s.now ++ Pk.be8 s.next ++ Pk.be8 (N : Int)) ++ Sq.flat (s.l.take k))) := ⟨HW.out.1.drew, HW.out.2.below (Below.refl _ _).drew⟩
      have HCL : Hid (∀ w', Below w.heap.size w w' → w'.cell? ⟨q, 3, none⟩ = some (.slice (some ⟨g, 0, none⟩) N c) ∧ w'.cell? ⟨g, k * 3, none⟩ = some (.int .i64 x.id) ∧ w'.cell? ⟨g, k * 3 + 1, none⟩ = some (.int .i64 x.span) ∧ w'.cell? ⟨g, k * 3 + 2, none⟩ = some (.int .i64 x.till)) := fun w' hb => by
        have hr := (H0.out.1.later hb).row
        rw [← H0.out.2.1] at hr
        exact ⟨(H0.out.1.later hb).blk.cell 3, row_at15 hr HX.out.1⟩
      clear HW c3
      generalize wr.drew = t1 at *
      refine' take_at (i := 0) (d := 36) (v := _) rfl rfl (by kernel_rfl) (by kernel_rfl) (by kernel_rfl) (fun _ _ _ h => h) (Or.inl ⟨by rfl, ?h0⟩) (Jt1.out.1) ?_
      case h0 =>
        intro w hSw
        obtain ⟨e0, e1, e2, e3⟩ := HCL.out w hSw
        go_simp
        with_reducible rfl
      simp only [List.setIfInBounds_toArray, List.set_cons_zero, List.set_cons_succ]
      refine' take_at (i := 1) (d := 37) (v := _) rfl rfl (by kernel_rfl) (by kernel_rfl) (by kernel_rfl) (fun _ _ _ h => h) (Or.inl ⟨by rfl, ?h1⟩) (Jt1.out.1) ?_
      case h1 =>
        intro w hSw
        obtain ⟨e0, e1, e2, e3⟩ := HCL.out w hSw
        go_simp
        with_reducible rfl
      simp only [List.setIfInBounds_toArray, List.set_cons_zero, List.set_cons_succ]
      refine' take_at (i := 2) (d := 38) (v := _) rfl rfl (by kernel_rfl) (by kernel_rfl) (by kernel_rfl) (fun _ _ _ h => h) (Or.inl ⟨by rfl, ?h2⟩) (Jt1.out.1) ?_
      case h2 =>
        intro w hSw
        obtain ⟨e0, e1, e2, e3⟩ := HCL.out w hSw
        go_simp
        with_reducible rfl
      simp only [List.setIfInBounds_toArray, List.set_cons_zero, List.set_cons_succ]
      refine' take_at (i := 3) (d := 39) (v := _) rfl rfl (by kernel_rfl) (by kernel_rfl) (by kernel_rfl) (fun _ _ _ h => h) (Or.inl ⟨by rfl, ?h3⟩) (Jt1.out.1) ?_
      case h3 =>
        intro w hSw
        obtain ⟨e0, e1, e2, e3⟩ := HCL.out w hSw
        go_simp
        with_reducible rfl
      simp only [List.setIfInBounds_toArray, List.set_cons_zero, List.set_cons_succ]
      refine' take_at (i := 4) (d := 40) (v := _) rfl rfl (by kernel_rfl) (by kernel_rfl) (by kernel_rfl) (fun _ _ _ h => h) (Or.inl ⟨by rfl, ?h4⟩) (Jt1.out.1) ?_
      case h4 =>
        intro w hSw
        obtain ⟨e0, e1, e2, e3⟩ := HCL.out w hSw
        go_simp
        with_reducible rfl
      simp only [List.setIfInBounds_toArray, List.set_cons_zero, List.set_cons_succ]
      refine' take_at (i := 5) (d := 41) (v := _) rfl rfl (by kernel_rfl) (by kernel_rfl) (by kernel_rfl) (fun _ _ _ h => h) (Or.inl ⟨by rfl, ?h5⟩) (Jt1.out.1) ?_
      case h5 =>
        intro w hSw
        obtain ⟨e0, e1, e2, e3⟩ := HCL.out w hSw
        go_simp
        with_reducible rfl
      simp only [List.setIfInBounds_toArray, List.set_cons_zero, List.set_cons_succ]
      refine' take_at (i := 6) (d := 42) (v := _) rfl rfl (by kernel_rfl) (by kernel_rfl) (by kernel_rfl) (fun _ _ _ h => h) (Or.inl ⟨by rfl, ?h6⟩) (Jt1.out.1) ?_
      case h6 =>
        intro w hSw
        obtain ⟨e0, e1, e2, e3⟩ := HCL.out w hSw
        go_simp
        with_reducible rfl
      simp only [List.setIfInBounds_toArray, List.set_cons_zero, List.set_cons_succ]
      refine' take_at (i := 7) (d := 43) (v := _) rfl rfl (by kernel_rfl) (by kernel_rfl) (by kernel_rfl) (fun _ _ _ h => h) (Or.inl ⟨by rfl, ?h7⟩) (Jt1.out.1) ?_
      case h7 =>
        intro w hSw
        obtain ⟨e0, e1, e2, e3⟩ := HCL.out w hSw
        go_simp
        with_reducible rfl
      simp only [List.setIfInBounds_toArray, List.set_cons_zero, List.set_cons_succ]
      refine' take_at (i := 8) (d := 44) (v := _) rfl rfl (by kernel_rfl) (by kernel_rfl) (by kernel_rfl) (fun _ _ _ h => h) (Or.inl ⟨by rfl, ?h8⟩) (Jt1.out.1) ?_
      case h8 =>
        intro w hSw
        obtain ⟨e0, e1, e2, e3⟩ := HCL.out w hSw
        go_simp
        with_reducible rfl
      simp only [List.setIfInBounds_toArray, List.set_cons_zero, List.set_cons_succ]
      refine' take_at (i := 10) (d := 46) (v := _) rfl rfl (by kernel_rfl) (by kernel_rfl) (by kernel_rfl) (fun _ _ _ h => h) (Or.inl ⟨by rfl, ?h10⟩) (Jt1.out.1) ?_
      case h10 =>
        intro w hSw
        obtain ⟨e0, e1, e2, e3⟩ := HCL.out w hSw
        go_simp
        with_reducible rfl
      simp only [List.setIfInBounds_toArray, List.set_cons_zero, List.set_cons_succ]
      refine' take_at (i := 11) (d := 47) (v := _) rfl rfl (by kernel_rfl) (by kernel_rfl) (by kernel_rfl) (fun _ _ _ h => h) (Or.inl ⟨by rfl, ?h11⟩) (Jt1.out.1) ?_
      case h11 =>
        intro w hSw
        obtain ⟨e0, e1, e2, e3⟩ := HCL.out w hSw
        go_simp
        with_reducible rfl
      simp only [List.setIfInBounds_toArray, List.set_cons_zero, List.set_cons_succ]
      refine' take_at (i := 12) (d := 48) (v := _) rfl rfl (by kernel_rfl) (by kernel_rfl) (by kernel_rfl) (fun _ _ _ h => h) (Or.inl ⟨by rfl, ?h12⟩) (Jt1.out.1) ?_
      case h12 =>
        intro w hSw
        obtain ⟨e0, e1, e2, e3⟩ := HCL.out w hSw
        go_simp
        with_reducible rfl
      simp only [List.setIfInBounds_toArray, List.set_cons_zero, List.set_cons_succ]
      refine' take_at (i := 13) (d := 49) (v := _) rfl rfl (by kernel_rfl) (by kernel_rfl) (by kernel_rfl) (fun _ _ _ h => h) (Or.inl ⟨by rfl, ?h13⟩) (Jt1.out.1) ?_
      case h13 =>
        intro w hSw
        obtain ⟨e0, e1, e2, e3⟩ := HCL.out w hSw
        go_simp
        with_reducible rfl
      simp only [List.setIfInBounds_toArray, List.set_cons_zero, List.set_cons_succ]
      refine' take_at (i := 14) (d := 50) (v := _) rfl rfl (by kernel_rfl) (by kernel_rfl) (by kernel_rfl) (fun _ _ _ h => h) (Or.inl ⟨by rfl, ?h14⟩) (Jt1.out.1) ?_
      case h14 =>
        intro w hSw
        obtain ⟨e0, e1, e2, e3⟩ := HCL.out w hSw
        go_simp
        with_reducible rfl
      simp only [List.setIfInBounds_toArray, List.set_cons_zero, List.set_cons_succ]
      refine' take_at (i := 15) (d := 51) (v := _) rfl rfl (by kernel_rfl) (by kernel_rfl) (by kernel_rfl) (fun _ _ _ h => h) (Or.inl ⟨by rfl, ?h15⟩) (Jt1.out.1) ?_
      case h15 =>
        intro w hSw
        obtain ⟨e0, e1, e2, e3⟩ := HCL.out w hSw
        go_simp
        with_reducible rfl
      simp only [List.setIfInBounds_toArray, List.set_cons_zero, List.set_cons_succ]
      refine' take_at (i := 16) (d := 52) (v := _) rfl rfl (by kernel_rfl) (by kernel_rfl) (by kernel_rfl) (fun _ _ _ h => h) (Or.inl ⟨by rfl, ?h16⟩) (Jt1.out.1) ?_
      case h16 =>
        intro w hSw
        obtain ⟨e0, e1, e2, e3⟩ := HCL.out w hSw
        go_simp
        with_reducible rfl
      simp only [List.setIfInBounds_toArray, List.set_cons_zero, List.set_cons_succ]
      refine' take_at (i := 17) (d := 53) (v := _) rfl rfl (by kernel_rfl) (by kernel_rfl) (by kernel_rfl) (fun _ _ _ h => h) (Or.inl ⟨by rfl, ?h17⟩) (Jt1.out.1) ?_
      case h17 =>
        intro w hSw
        obtain ⟨e0, e1, e2, e3⟩ := HCL.out w hSw
        go_simp
        with_reducible rfl
      simp only [List.setIfInBounds_toArray, List.set_cons_zero, List.set_cons_succ]
      refine' take_at (i := 19) (d := 55) (v := _) rfl rfl (by kernel_rfl) (by kernel_rfl) (by kernel_rfl) (fun _ _ _ h => h) (Or.inl ⟨by rfl, ?h19⟩) (Jt1.out.1) ?_
      case h19 =>
        intro w hSw
        obtain ⟨e0, e1, e2, e3⟩ := HCL.out w hSw
        go_simp
        with_reducible rfl
      simp only [List.setIfInBounds_toArray, List.set_cons_zero, List.set_cons_succ]
      refine' take_at (i := 20) (d := 56) (v := _) rfl rfl (by kernel_rfl) (by kernel_rfl) (by kernel_rfl) (fun _ _ _ h => h) (Or.inl ⟨by rfl, ?h20⟩) (Jt1.out.1) ?_
      case h20 =>
        intro w hSw
        obtain ⟨e0, e1, e2, e3⟩ := HCL.out w hSw
        go_simp
        with_reducible rfl
      simp only [List.setIfInBounds_toArray, List.set_cons_zero, List.set_cons_succ]
      refine' take_at (i := 21) (d := 57) (v := _) rfl rfl (by kernel_rfl) (by kernel_rfl) (by kernel_rfl) (fun _ _ _ h => h) (Or.inl ⟨by rfl, ?h21⟩) (Jt1.out.1) ?_
      case h21 =>
        intro w hSw
        obtain ⟨e0, e1, e2, e3⟩ := HCL.out w hSw
        go_simp
        with_reducible rfl
      simp only [List.setIfInBounds_toArray, List.set_cons_zero, List.set_cons_succ]
      refine' take_at (i := 22) (d := 58) (v := _) rfl rfl (by kernel_rfl) (by kernel_rfl) (by kernel_rfl) (fun _ _ _ h => h) (Or.inl ⟨by rfl, ?h22⟩) (Jt1.out.1) ?_
      case h22 =>
        intro w hSw
        obtain ⟨e0, e1, e2, e3⟩ := HCL.out w hSw
        go_simp
        with_reducible rfl
      simp only [List.setIfInBounds_toArray, List.set_cons_zero, List.set_cons_succ]
      refine' take_at (i := 23) (d := 59) (v := _) rfl rfl (by kernel_rfl) (by kernel_rfl) (by kernel_rfl) (fun _ _ _ h => h) (Or.inl ⟨by rfl, ?h23⟩) (Jt1.out.1) ?_
      case h23 =>
        intro w hSw
        obtain ⟨e0, e1, e2, e3⟩ := HCL.out w hSw
        go_simp
        with_reducible rfl
      simp only [List.setIfInBounds_toArray, List.set_cons_zero, List.set_cons_succ]
      refine' take_at (i := 24) (d := 60) (v := _) rfl rfl (by kernel_rfl) (by kernel_rfl) (by kernel_rfl) (fun _ _ _ h => h) (Or.inl ⟨by rfl, ?h24⟩) (Jt1.out.1) ?_
      case h24 =>
        intro w hSw
        obtain ⟨e0, e1, e2, e3⟩ := HCL.out w hSw
        go_simp
        with_reducible rfl
      simp only [List.setIfInBounds_toArray, List.set_cons_zero, List.set_cons_succ]
      refine' take_at (i := 25) (d := 61) (v := _) rfl rfl (by kernel_rfl) (by kernel_rfl) (by kernel_rfl) (fun _ _ _ h => h) (Or.inl ⟨by rfl, ?h25⟩) (Jt1.out.1) ?_
      case h25 =>
        intro w hSw
        obtain ⟨e0, e1, e2, e3⟩ := HCL.out w hSw
        go_simp
        with_reducible rfl
      simp only [List.setIfInBounds_toArray, List.set_cons_zero, List.set_cons_succ]
      refine' take_at (i := 26) (d := 62) (v := _) rfl rfl (by kernel_rfl) (by kernel_rfl) (by kernel_rfl) (fun _ _ _ h => h) (Or.inl ⟨by rfl, ?h26⟩) (Jt1.out.1) ?_
      case h26 =>
        intro w hSw
        obtain ⟨e0, e1, e2, e3⟩ := HCL.out w hSw
        go_simp
        with_reducible rfl
      simp only [List.setIfInBounds_toArray, List.set_cons_zero, List.set_cons_succ]
      refine wpAnyH_ready (rs := [9]) (by kernel_rfl) (by simp) ?_
      refine AllReadyH.cons (o := _) rfl (fun KQ hKQ => ?_) AllReadyH.nil
      go_simp
      refine (Pw.refI64_bs _ _ x.id t1 Jt1.out.2 (by have := HLN.out; omega)).mono ?_
      rintro e t2 ⟨v9, rfl, hv9, hb9⟩
      have Jt2 : Hid (Below w.heap.size w t2 ∧ Bs t2 v9 (((Pk.be8 s.room ++ Pk.be8 s.now ++ Pk.be8 s.next ++ Pk.be8 (N : Int)) ++ Sq.flat (s.l.take k)) ++ Pk.be8 x.id)) := ⟨Jt1.out.1.trans (hb9.mono Jt1.out.1.size), hv9⟩
      obtain ⟨at2, nt2, ct2, rfl, hx1, hx2⟩ := hv9
      clear hb9 Jt1 hx1 hx2
      simp only []
      refine hKQ.out _ _ Jt2.out.1 (fun _ => ?_)
      clear hKQ KQ
      refine wpAnyH_ready (rs := [18]) (by kernel_rfl) (by simp) ?_
      refine AllReadyH.cons (o := _) rfl (fun KQ hKQ => ?_) AllReadyH.nil
      go_simp
      refine (Pw.refI64_bs _ _ x.span t2 Jt2.out.2 (by have := HLN.out; rw [List.length_append, Pk.be8_len]; omega)).mono ?_
      rintro e t3 ⟨v9, rfl, hv9, hb9⟩
      have Jt3 : Hid (Below w.heap.size w t3 ∧ Bs t3 v9 (((Pk.be8 s.room ++ Pk.be8 s.now ++ Pk.be8 s.next ++ Pk.be8 (N : Int)) ++ Sq.flat (s.l.take k)) ++ Pk.be8 x.id ++ Pk.be8 x.span)) := ⟨Jt2.out.1.trans (hb9.mono Jt2.out.1.size), hv9⟩
      obtain ⟨at3, nt3, ct3, rfl, hx1, hx2⟩ := hv9
      clear hb9 Jt2 hx1 hx2
      simp only []
      refine hKQ.out _ _ Jt3.out.1 (fun _ => ?_)
      clear hKQ KQ
      refine wpAnyH_ready (rs := [27]) (by kernel_rfl) (by simp) ?_
      refine AllReadyH.cons (o := _) rfl (fun KQ hKQ => ?_) AllReadyH.nil
      go_simp
      refine (Pw.refI64_bs _ _ x.till t3 Jt3.out.2 (by have := HLN.out; rw [List.length_append, List.length_append, Pk.be8_len, Pk.be8_len]; omega)).mono ?_
      rintro e t4 ⟨v9, rfl, hv9, hb9⟩
      have Jt4 : Hid (Below w.heap.size w t4 ∧ Bs t4 v9 (((Pk.be8 s.room ++ Pk.be8 s.now ++ Pk.be8 s.next ++ Pk.be8 (N : Int)) ++ Sq.flat (s.l.take k)) ++ Pk.be8 x.id ++ Pk.be8 x.span ++ Pk.be8 x.till)) := ⟨Jt3.out.1.trans (hb9.mono Jt3.out.1.size), hv9⟩
      obtain ⟨at4, nt4, ct4, rfl, hx1, hx2⟩ := hv9
      clear hb9 Jt3 hx1 hx2
      simp only []
      refine hKQ.out _ _ Jt4.out.1 (fun _ => ?_)
      clear hKQ KQ
      refine' take_at (i := 28) (d := 3) (v := _) rfl rfl (by kernel_rfl) (by kernel_rfl) (by kernel_rfl) (fun _ _ _ h => h) (Or.inl ⟨by rfl, ?h28⟩) (Jt4.out.1) ?_
      case h28 =>
        intro w hSw
        clear hSw
        go_simp
        with_reducible rfl
      simp only [List.setIfInBounds_toArray, List.set_cons_zero, List.set_cons_succ]
      refine wpAnyH_done (by kernel_rfl) ?_ _
      have HN : Hid (Bs t4 (.slice at4 nt4 ct4) ((Pk.be8 s.room ++ Pk.be8 s.now ++ Pk.be8 s.next ++ Pk.be8 (N : Int)) ++ Sq.flat (s.l.take (k + 1)))) := by
        rw [HX.out.2]
        have h := Jt4.out.2
        simp only [List.append_assoc] at h ⊢
        exact h
      go_wp2
      go_roundw
      case rel => exact ⟨k + 1, by omega, by go_num, Jt4.out.1, HN.out⟩
      case measure => simp [intOf]; omega
    · have hlt' : ¬ (k : Int) < (N : Int) := by omega
      obtain rfl : k = N := by omega
      have HE : Hid (Bs wr (.slice ua un uc) (Sq.bytes s)) := by
        have h := HW.out.2
        rw [List.take_of_length_le (by rw [← H0.out.2.1]; exact Nat.le_refl _)] at h
        have e : Sq.bytes s = Pk.be8 s.room ++ Pk.be8 s.now ++ Pk.be8 s.next ++ Pk.be8 (k : Int) ++ Sq.flat s.l := by
          unfold Sq.bytes Sq.nums Sq.flat
          rw [← H0.out.2.1]
          simp
        rw [e]
        exact h
      go_wp2
      go_ret
      exact ⟨_, rfl, HE.out, HW.out.1⟩
end Go.Proofs.Ytlabdhllindenaa
