/- The reference's Put. -/
import Derived.Test.YtpjdjobdbandhaaDoorRr16
import Derived.Test.YtpjdjobdbandhaaDoorLibU14
namespace Go.Proofs.YtpjdjobdbandhaaDoor
open Go.RowKit

set_option maxRecDepth 20000 in
set_option maxHeartbeats 8000000 in
theorem refPut_any16 (q : Nat) (s : Tb.St) (F : Nat → Prop) (m : Int) (w : World) (hL : LRb w q s F) (hf : Tb.Fine m s) :
    Calls Tryd.prog 23 #[dptr q] w fun e w' => ∃ v, e = .returned v ∧ Bs w' v (Tb.bytes s) ∧ Below w.heap.size w w' := by
  obtain ⟨v, h, rfl⟩ := hL
  obtain ⟨N, hN⟩ : ∃ N, N = s.l.length := ⟨_, rfl⟩
  have hr := h.row
  rw [← hN] at hr
  obtain ⟨a, c, rfl, _, ha⟩ := row_form hr
  have hN50 : N ≤ 50 := by rw [hN]; exact hf.len
  have H0 : Hid (Lr16 w q s (.slice a N c) ∧ N = s.l.length ∧ (0 < N → ∃ g, a = some ⟨g, 0, none⟩) ∧ Tb.Fine m s) := ⟨h, hN, ha, hf⟩
  have c0 : w.cell? ⟨q, 0, none⟩ = some (.int .i64 s.shards) := h.blk.cell 0
  clear h hf hr hN ha
  unfold dptr
  go_enter Tryd.func23, Tryd.ntmps23
  go_upto_region 1 with fail
  refine wp_region_held_drew (S := fun w' => Below w.heap.size w w') (by kernel_rfl) (Below.refl _ _).drew (fun _ => ?_)
  have H1 : Hid (Below w.heap.size w w.drew) := (Below.refl _ _).drew
  clear c0
  generalize w.drew = s0 at *
  refine' take_at (i := 0) (d := 5) (v := _) rfl rfl (by kernel_rfl) (by kernel_rfl) (by kernel_rfl) (fun _ _ _ h => h) (Or.inl ⟨by rfl, ?h0⟩) (H1.out) ?_
  case h0 =>
    intro w hSw
    have t0 : w.cell? ⟨q, 0, none⟩ = some (.int .i64 s.shards) := (H0.out.1.later hSw).blk.cell 0
    have t1 : w.cell? ⟨q, 1, none⟩ = some (.int .i64 s.version) := (H0.out.1.later hSw).blk.cell 1
    have t2 : w.cell? ⟨q, 2, none⟩ = some (.slice a N c) := (H0.out.1.later hSw).blk.cell 2
    go_simp
    with_reducible rfl
  simp only [List.setIfInBounds_toArray, List.set_cons_zero, List.set_cons_succ]
  refine' take_at (i := 1) (d := 6) (v := _) rfl rfl (by kernel_rfl) (by kernel_rfl) (by kernel_rfl) (fun _ _ _ h => h) (Or.inl ⟨by rfl, ?h1⟩) (H1.out) ?_
  case h1 =>
    intro w hSw
    have t0 : w.cell? ⟨q, 0, none⟩ = some (.int .i64 s.shards) := (H0.out.1.later hSw).blk.cell 0
    have t1 : w.cell? ⟨q, 1, none⟩ = some (.int .i64 s.version) := (H0.out.1.later hSw).blk.cell 1
    have t2 : w.cell? ⟨q, 2, none⟩ = some (.slice a N c) := (H0.out.1.later hSw).blk.cell 2
    go_simp
    with_reducible rfl
  simp only [List.setIfInBounds_toArray, List.set_cons_zero, List.set_cons_succ]
  refine' take_at (i := 2) (d := 7) (v := _) rfl rfl (by kernel_rfl) (by kernel_rfl) (by kernel_rfl) (fun _ _ _ h => h) (Or.inl ⟨by rfl, ?h2⟩) (H1.out) ?_
  case h2 =>
    intro w hSw
    have t0 : w.cell? ⟨q, 0, none⟩ = some (.int .i64 s.shards) := (H0.out.1.later hSw).blk.cell 0
    have t1 : w.cell? ⟨q, 1, none⟩ = some (.int .i64 s.version) := (H0.out.1.later hSw).blk.cell 1
    have t2 : w.cell? ⟨q, 2, none⟩ = some (.slice a N c) := (H0.out.1.later hSw).blk.cell 2
    go_simp
    with_reducible rfl
  simp only [List.setIfInBounds_toArray, List.set_cons_zero, List.set_cons_succ]
  refine' take_at (i := 3) (d := 8) (v := _) rfl rfl (by kernel_rfl) (by kernel_rfl) (by kernel_rfl) (fun _ _ _ h => h) (Or.inl ⟨by rfl, ?h3⟩) (H1.out) ?_
  case h3 =>
    intro w hSw
    have t0 : w.cell? ⟨q, 0, none⟩ = some (.int .i64 s.shards) := (H0.out.1.later hSw).blk.cell 0
    have t1 : w.cell? ⟨q, 1, none⟩ = some (.int .i64 s.version) := (H0.out.1.later hSw).blk.cell 1
    have t2 : w.cell? ⟨q, 2, none⟩ = some (.slice a N c) := (H0.out.1.later hSw).blk.cell 2
    go_simp
    with_reducible rfl
  simp only [List.setIfInBounds_toArray, List.set_cons_zero, List.set_cons_succ]
  refine' take_at (i := 5) (d := 10) (v := _) rfl rfl (by kernel_rfl) (by kernel_rfl) (by kernel_rfl) (fun _ _ _ h => h) (Or.inl ⟨by rfl, ?h5⟩) (H1.out) ?_
  case h5 =>
    intro w hSw
    have t0 : w.cell? ⟨q, 0, none⟩ = some (.int .i64 s.shards) := (H0.out.1.later hSw).blk.cell 0
    have t1 : w.cell? ⟨q, 1, none⟩ = some (.int .i64 s.version) := (H0.out.1.later hSw).blk.cell 1
    have t2 : w.cell? ⟨q, 2, none⟩ = some (.slice a N c) := (H0.out.1.later hSw).blk.cell 2
    go_simp
    with_reducible rfl
  simp only [List.setIfInBounds_toArray, List.set_cons_zero, List.set_cons_succ]
  refine' take_at (i := 6) (d := 11) (v := _) rfl rfl (by kernel_rfl) (by kernel_rfl) (by kernel_rfl) (fun _ _ _ h => h) (Or.inl ⟨by rfl, ?h6⟩) (H1.out) ?_
  case h6 =>
    intro w hSw
    have t0 : w.cell? ⟨q, 0, none⟩ = some (.int .i64 s.shards) := (H0.out.1.later hSw).blk.cell 0
    have t1 : w.cell? ⟨q, 1, none⟩ = some (.int .i64 s.version) := (H0.out.1.later hSw).blk.cell 1
    have t2 : w.cell? ⟨q, 2, none⟩ = some (.slice a N c) := (H0.out.1.later hSw).blk.cell 2
    go_simp
    with_reducible rfl
  simp only [List.setIfInBounds_toArray, List.set_cons_zero, List.set_cons_succ]
  refine' take_at (i := 7) (d := 12) (v := _) rfl rfl (by kernel_rfl) (by kernel_rfl) (by kernel_rfl) (fun _ _ _ h => h) (Or.inl ⟨by rfl, ?h7⟩) (H1.out) ?_
  case h7 =>
    intro w hSw
    have t0 : w.cell? ⟨q, 0, none⟩ = some (.int .i64 s.shards) := (H0.out.1.later hSw).blk.cell 0
    have t1 : w.cell? ⟨q, 1, none⟩ = some (.int .i64 s.version) := (H0.out.1.later hSw).blk.cell 1
    have t2 : w.cell? ⟨q, 2, none⟩ = some (.slice a N c) := (H0.out.1.later hSw).blk.cell 2
    go_simp
    with_reducible rfl
  simp only [List.setIfInBounds_toArray, List.set_cons_zero, List.set_cons_succ]
  refine' take_at (i := 8) (d := 13) (v := _) rfl rfl (by kernel_rfl) (by kernel_rfl) (by kernel_rfl) (fun _ _ _ h => h) (Or.inl ⟨by rfl, ?h8⟩) (H1.out) ?_
  case h8 =>
    intro w hSw
    have t0 : w.cell? ⟨q, 0, none⟩ = some (.int .i64 s.shards) := (H0.out.1.later hSw).blk.cell 0
    have t1 : w.cell? ⟨q, 1, none⟩ = some (.int .i64 s.version) := (H0.out.1.later hSw).blk.cell 1
    have t2 : w.cell? ⟨q, 2, none⟩ = some (.slice a N c) := (H0.out.1.later hSw).blk.cell 2
    go_simp
    with_reducible rfl
  simp only [List.setIfInBounds_toArray, List.set_cons_zero, List.set_cons_succ]
  refine' take_at (i := 10) (d := 15) (v := _) rfl rfl (by kernel_rfl) (by kernel_rfl) (by kernel_rfl) (fun _ _ _ h => h) (Or.inl ⟨by rfl, ?h10⟩) (H1.out) ?_
  case h10 =>
    intro w hSw
    have t0 : w.cell? ⟨q, 0, none⟩ = some (.int .i64 s.shards) := (H0.out.1.later hSw).blk.cell 0
    have t1 : w.cell? ⟨q, 1, none⟩ = some (.int .i64 s.version) := (H0.out.1.later hSw).blk.cell 1
    have t2 : w.cell? ⟨q, 2, none⟩ = some (.slice a N c) := (H0.out.1.later hSw).blk.cell 2
    go_simp
    with_reducible rfl
  simp only [List.setIfInBounds_toArray, List.set_cons_zero, List.set_cons_succ]
  refine' take_at (i := 11) (d := 16) (v := _) rfl rfl (by kernel_rfl) (by kernel_rfl) (by kernel_rfl) (fun _ _ _ h => h) (Or.inl ⟨by rfl, ?h11⟩) (H1.out) ?_
  case h11 =>
    intro w hSw
    have t0 : w.cell? ⟨q, 0, none⟩ = some (.int .i64 s.shards) := (H0.out.1.later hSw).blk.cell 0
    have t1 : w.cell? ⟨q, 1, none⟩ = some (.int .i64 s.version) := (H0.out.1.later hSw).blk.cell 1
    have t2 : w.cell? ⟨q, 2, none⟩ = some (.slice a N c) := (H0.out.1.later hSw).blk.cell 2
    go_simp
    with_reducible rfl
  simp only [List.setIfInBounds_toArray, List.set_cons_zero, List.set_cons_succ]
  refine' take_at (i := 12) (d := 17) (v := _) rfl rfl (by kernel_rfl) (by kernel_rfl) (by kernel_rfl) (fun _ _ _ h => h) (Or.inl ⟨by rfl, ?h12⟩) (H1.out) ?_
  case h12 =>
    intro w hSw
    have t0 : w.cell? ⟨q, 0, none⟩ = some (.int .i64 s.shards) := (H0.out.1.later hSw).blk.cell 0
    have t1 : w.cell? ⟨q, 1, none⟩ = some (.int .i64 s.version) := (H0.out.1.later hSw).blk.cell 1
    have t2 : w.cell? ⟨q, 2, none⟩ = some (.slice a N c) := (H0.out.1.later hSw).blk.cell 2
    go_simp
    with_reducible rfl
  simp only [List.setIfInBounds_toArray, List.set_cons_zero, List.set_cons_succ]
  refine' take_at (i := 13) (d := 18) (v := _) rfl rfl (by kernel_rfl) (by kernel_rfl) (by kernel_rfl) (fun _ _ _ h => h) (Or.inl ⟨by rfl, ?h13⟩) (H1.out) ?_
  case h13 =>
    intro w hSw
    have t0 : w.cell? ⟨q, 0, none⟩ = some (.int .i64 s.shards) := (H0.out.1.later hSw).blk.cell 0
    have t1 : w.cell? ⟨q, 1, none⟩ = some (.int .i64 s.version) := (H0.out.1.later hSw).blk.cell 1
    have t2 : w.cell? ⟨q, 2, none⟩ = some (.slice a N c) := (H0.out.1.later hSw).blk.cell 2
    go_simp
    with_reducible rfl
  simp only [List.setIfInBounds_toArray, List.set_cons_zero, List.set_cons_succ]
  refine' take_at (i := 14) (d := 19) (v := _) rfl rfl (by kernel_rfl) (by kernel_rfl) (by kernel_rfl) (fun _ _ _ h => h) (Or.inl ⟨by rfl, ?h14⟩) (H1.out) ?_
  case h14 =>
    intro w hSw
    have t0 : w.cell? ⟨q, 0, none⟩ = some (.int .i64 s.shards) := (H0.out.1.later hSw).blk.cell 0
    have t1 : w.cell? ⟨q, 1, none⟩ = some (.int .i64 s.version) := (H0.out.1.later hSw).blk.cell 1
    have t2 : w.cell? ⟨q, 2, none⟩ = some (.slice a N c) := (H0.out.1.later hSw).blk.cell 2
    go_simp
    with_reducible rfl
  simp only [List.setIfInBounds_toArray, List.set_cons_zero, List.set_cons_succ]
  refine wpAnyH_ready (rs := [4]) (by kernel_rfl) (by simp) ?_
  refine AllReadyH.cons (o := _) rfl (fun KQ hKQ => ?_) AllReadyH.nil
  go_simp
  refine (Pw.refI64_bs (.slice none 0 0) [] s.shards s0 (Bs.nil _) (by decide)).mono ?_
  rintro e s1 ⟨v1, rfl, hv1, hb1⟩
  have J1 : Hid (Below w.heap.size w s1 ∧ Bs s1 v1 (Pk.be8 s.shards)) := ⟨H1.out.trans (hb1.mono H1.out.size), by simpa using hv1⟩
  obtain ⟨a1, n1, c1, rfl, hx1, hx2⟩ := hv1
  clear hb1 H1 hx1 hx2
  simp only []
  refine hKQ.out _ _ J1.out.1 (fun _ => ?_)
  clear hKQ KQ
  refine wpAnyH_ready (rs := [9]) (by kernel_rfl) (by simp) ?_
  refine AllReadyH.cons (o := _) rfl (fun KQ hKQ => ?_) AllReadyH.nil
  go_simp
  refine (Pw.refI64_bs _ _ s.version s1 J1.out.2 (by rw [Pk.be8_len]; decide)).mono ?_
  rintro e s2 ⟨v2, rfl, hv2, hb2⟩
  have J2 : Hid (Below w.heap.size w s2 ∧ Bs s2 v2 (Pk.be8 s.shards ++ Pk.be8 s.version)) := ⟨J1.out.1.trans (hb2.mono J1.out.1.size), hv2⟩
  obtain ⟨a2, n2, c2, rfl, hx1, hx2⟩ := hv2
  clear hb2 J1 hx1 hx2
  simp only []
  refine hKQ.out _ _ J2.out.1 (fun _ => ?_)
  clear hKQ KQ
  refine wpAnyH_ready (rs := [15]) (by kernel_rfl) (by simp) ?_
  refine AllReadyH.cons (o := _) rfl (fun KQ hKQ => ?_) AllReadyH.nil
  go_simp
  refine (Pw.refI64_bs _ _ (N : Int) s2 J2.out.2 (by rw [List.length_append, Pk.be8_len, Pk.be8_len]; decide)).mono ?_
  rintro e s3 ⟨v3, rfl, hv3, hb3⟩
  have J3 : Hid (Below w.heap.size w s3 ∧ Bs s3 v3 (Pk.be8 s.shards ++ Pk.be8 s.version ++ Pk.be8 (N : Int))) := ⟨J2.out.1.trans (hb3.mono J2.out.1.size), hv3⟩
  obtain ⟨a3, n3, c3, rfl, hx1, hx2⟩ := hv3
  clear hb3 J2 hx1 hx2
  simp only []
  refine hKQ.out _ _ J3.out.1 (fun _ => ?_)
  clear hKQ KQ
  refine' take_at (i := 16) (d := 3) (v := _) rfl rfl (by kernel_rfl) (by kernel_rfl) (by kernel_rfl) (fun _ _ _ h => h) (Or.inl ⟨by rfl, ?h16⟩) (J3.out.1) ?_
  case h16 =>
    intro w hSw
    clear hSw
    go_simp
    with_reducible rfl
  simp only [List.setIfInBounds_toArray, List.set_cons_zero, List.set_cons_succ]
  refine wpAnyH_done (by kernel_rfl) ?_ _
  go_wp2
  go_loopw [3, 4] (fun u i wx => ∃ k : Nat, k ≤ N ∧ i = .int .i64 (k : Int) ∧ Below w.heap.size w wx ∧ Bs wx u ((Pk.be8 s.shards ++ Pk.be8 s.version ++ Pk.be8 (N : Int)) ++ Tb.flat (s.l.take k))) (fun _ i _ => N - (intOf i).toNat)
  case atStart => exact ⟨0, Nat.zero_le _, rfl, J3.out.1, by simpa [Tb.flat] using J3.out.2⟩
  case round =>
    obtain ⟨k, hk, rfl, hb, hu⟩ := hrel
    have HW : Hid (Below w.heap.size w wr ∧ Bs wr u3 ((Pk.be8 s.shards ++ Pk.be8 s.version ++ Pk.be8 (N : Int)) ++ Tb.flat (s.l.take k))) := ⟨hb, hu⟩
    obtain ⟨ua, un, uc, rfl, hx1, hx2⟩ := hu
    clear hb hx1 hx2 J3
    have c2 : wr.cell? ⟨q, 2, none⟩ = some (.slice a N c) := (H0.out.1.later HW.out.1).blk.cell 2
    by_cases hlt : k < N
    · have hlt' : (k : Int) < (N : Int) := by omega
      have hk0 : (0 : Int) ≤ (k : Int) := by omega
      have hwk : IntKind.wrap .i64 ((k : Int) + 1) = (k : Int) + 1 := by rw [IntKind.wrap_i64]; omega
      obtain ⟨g, hg⟩ := H0.out.2.2.1 (by omega)
      subst hg
      obtain ⟨x, hx⟩ : ∃ x, s.l[k]? = some x := ⟨s.l[k]'(by rw [← H0.out.2.1]; exact hlt), List.getElem?_eq_getElem _⟩
      have HX : Hid (s.l[k]? = some x ∧ Tb.flat (s.l.take (k + 1)) = Tb.flat (s.l.take k) ++ Pk.txt x.top.data.toList ++ Pk.be8 x.shard ∧ x.top.size ≤ 40) := ⟨hx, by
        rw [List.take_add_one, hx, Tb.flat_app]
        simp [Tb.flat, Tb.rec1], by
        have := (Tb.name_len (H0.out.2.2.2.ok x (List.mem_of_getElem? hx)).nm).2
        rw [Pa.sz_list] at this
        exact this⟩
      have HLN : Hid (((Pk.be8 s.shards ++ Pk.be8 s.version ++ Pk.be8 (N : Int)) ++ Tb.flat (s.l.take k)).length ≤ 24 + 56 * 50) := (show ((Pk.be8 s.shards ++ Pk.be8 s.version ++ Pk.be8 (N : Int)) ++ Tb.flat (s.l.take k)).length ≤ 24 + 56 * 50 by
        have h1 := Tb.flat_len (n := s.shards) (l := s.l.take k) (fun y hy => H0.out.2.2.2.ok y (List.mem_of_mem_take hy))
        rw [List.length_append, List.length_append, List.length_append, Pk.be8_len, Pk.be8_len, Pk.be8_len]
        rw [List.length_take] at h1
        omega)
      clear hx
      go_upto_region 5 with fail
      refine wp_region_held_drew (S := fun w' => Below w.heap.size w w') (by kernel_rfl) HW.out.1.drew (fun _ => ?_)
      have Jt1 : Hid (Below w.heap.size w wr.drew ∧ Bs wr.drew (.slice ua un uc) ((Pk.be8 s.shards ++ Pk.be8 s.version ++ Pk.be8 (N : Int)) ++ Tb.flat (s.l.take k))) := ⟨HW.out.1.drew, HW.out.2.below (Below.refl _ _).drew⟩
      have HCL : Hid (∀ w', Below w.heap.size w w' → w'.cell? ⟨q, 2, none⟩ = some (.slice (some ⟨g, 0, none⟩) N c) ∧ w'.cell? ⟨g, k * 2, none⟩ = some (.string x.top) ∧ w'.cell? ⟨g, k * 2 + 1, none⟩ = some (.int .i64 x.shard)) := fun w' hb => by
        have hr := (H0.out.1.later hb).row
        rw [← H0.out.2.1] at hr
        exact ⟨(H0.out.1.later hb).blk.cell 2, row_at16 hr HX.out.1⟩
      clear HW c2
      generalize wr.drew = t1 at *
      refine' take_at (i := 0) (d := 30) (v := _) rfl rfl (by kernel_rfl) (by kernel_rfl) (by kernel_rfl) (fun _ _ _ h => h) (Or.inl ⟨by rfl, ?h0⟩) (Jt1.out.1) ?_
      case h0 =>
        intro w hSw
        obtain ⟨e0, e1, e2⟩ := HCL.out w hSw
        go_simp
        with_reducible rfl
      simp only [List.setIfInBounds_toArray, List.set_cons_zero, List.set_cons_succ]
      refine' take_at (i := 1) (d := 31) (v := _) rfl rfl (by kernel_rfl) (by kernel_rfl) (by kernel_rfl) (fun _ _ _ h => h) (Or.inl ⟨by rfl, ?h1⟩) (Jt1.out.1) ?_
      case h1 =>
        intro w hSw
        obtain ⟨e0, e1, e2⟩ := HCL.out w hSw
        go_simp
        with_reducible rfl
      simp only [List.setIfInBounds_toArray, List.set_cons_zero, List.set_cons_succ]
      refine' take_at (i := 2) (d := 32) (v := _) rfl rfl (by kernel_rfl) (by kernel_rfl) (by kernel_rfl) (fun _ _ _ h => h) (Or.inl ⟨by rfl, ?h2⟩) (Jt1.out.1) ?_
      case h2 =>
        intro w hSw
        obtain ⟨e0, e1, e2⟩ := HCL.out w hSw
        go_simp
        with_reducible rfl
      simp only [List.setIfInBounds_toArray, List.set_cons_zero, List.set_cons_succ]
      refine' take_at (i := 3) (d := 33) (v := _) rfl rfl (by kernel_rfl) (by kernel_rfl) (by kernel_rfl) (fun _ _ _ h => h) (Or.inl ⟨by rfl, ?h3⟩) (Jt1.out.1) ?_
      case h3 =>
        intro w hSw
        obtain ⟨e0, e1, e2⟩ := HCL.out w hSw
        go_simp
        with_reducible rfl
      simp only [List.setIfInBounds_toArray, List.set_cons_zero, List.set_cons_succ]
      refine' take_at (i := 4) (d := 34) (v := _) rfl rfl (by kernel_rfl) (by kernel_rfl) (by kernel_rfl) (fun _ _ _ h => h) (Or.inl ⟨by rfl, ?h4⟩) (Jt1.out.1) ?_
      case h4 =>
        intro w hSw
        obtain ⟨e0, e1, e2⟩ := HCL.out w hSw
        go_simp
        with_reducible rfl
      simp only [List.setIfInBounds_toArray, List.set_cons_zero, List.set_cons_succ]
      refine' take_at (i := 5) (d := 35) (v := _) rfl rfl (by kernel_rfl) (by kernel_rfl) (by kernel_rfl) (fun _ _ _ h => h) (Or.inl ⟨by rfl, ?h5⟩) (Jt1.out.1) ?_
      case h5 =>
        intro w hSw
        obtain ⟨e0, e1, e2⟩ := HCL.out w hSw
        go_simp
        with_reducible rfl
      simp only [List.setIfInBounds_toArray, List.set_cons_zero, List.set_cons_succ]
      refine' take_at (i := 6) (d := 36) (v := _) rfl rfl (by kernel_rfl) (by kernel_rfl) (by kernel_rfl) (fun _ _ _ h => h) (Or.inl ⟨by rfl, ?h6⟩) (Jt1.out.1) ?_
      case h6 =>
        intro w hSw
        obtain ⟨e0, e1, e2⟩ := HCL.out w hSw
        go_simp
        with_reducible rfl
      simp only [List.setIfInBounds_toArray, List.set_cons_zero, List.set_cons_succ]
      refine' take_at (i := 7) (d := 37) (v := _) rfl rfl (by kernel_rfl) (by kernel_rfl) (by kernel_rfl) (fun _ _ _ h => h) (Or.inl ⟨by rfl, ?h7⟩) (Jt1.out.1) ?_
      case h7 =>
        intro w hSw
        obtain ⟨e0, e1, e2⟩ := HCL.out w hSw
        go_simp
        with_reducible rfl
      simp only [List.setIfInBounds_toArray, List.set_cons_zero, List.set_cons_succ]
      refine' take_at (i := 8) (d := 38) (v := _) rfl rfl (by kernel_rfl) (by kernel_rfl) (by kernel_rfl) (fun _ _ _ h => h) (Or.inl ⟨by rfl, ?h8⟩) (Jt1.out.1) ?_
      case h8 =>
        intro w hSw
        obtain ⟨e0, e1, e2⟩ := HCL.out w hSw
        go_simp
        with_reducible rfl
      simp only [List.setIfInBounds_toArray, List.set_cons_zero, List.set_cons_succ]
      refine' take_at (i := 10) (d := 40) (v := _) rfl rfl (by kernel_rfl) (by kernel_rfl) (by kernel_rfl) (fun _ _ _ h => h) (Or.inl ⟨by rfl, ?h10⟩) (Jt1.out.1) ?_
      case h10 =>
        intro w hSw
        obtain ⟨e0, e1, e2⟩ := HCL.out w hSw
        go_simp
        with_reducible rfl
      simp only [List.setIfInBounds_toArray, List.set_cons_zero, List.set_cons_succ]
      refine' take_at (i := 11) (d := 41) (v := _) rfl rfl (by kernel_rfl) (by kernel_rfl) (by kernel_rfl) (fun _ _ _ h => h) (Or.inl ⟨by rfl, ?h11⟩) (Jt1.out.1) ?_
      case h11 =>
        intro w hSw
        obtain ⟨e0, e1, e2⟩ := HCL.out w hSw
        go_simp
        with_reducible rfl
      simp only [List.setIfInBounds_toArray, List.set_cons_zero, List.set_cons_succ]
      refine' take_at (i := 12) (d := 42) (v := _) rfl rfl (by kernel_rfl) (by kernel_rfl) (by kernel_rfl) (fun _ _ _ h => h) (Or.inl ⟨by rfl, ?h12⟩) (Jt1.out.1) ?_
      case h12 =>
        intro w hSw
        obtain ⟨e0, e1, e2⟩ := HCL.out w hSw
        go_simp
        with_reducible rfl
      simp only [List.setIfInBounds_toArray, List.set_cons_zero, List.set_cons_succ]
      refine' take_at (i := 13) (d := 43) (v := _) rfl rfl (by kernel_rfl) (by kernel_rfl) (by kernel_rfl) (fun _ _ _ h => h) (Or.inl ⟨by rfl, ?h13⟩) (Jt1.out.1) ?_
      case h13 =>
        intro w hSw
        obtain ⟨e0, e1, e2⟩ := HCL.out w hSw
        go_simp
        with_reducible rfl
      simp only [List.setIfInBounds_toArray, List.set_cons_zero, List.set_cons_succ]
      refine' take_at (i := 14) (d := 44) (v := _) rfl rfl (by kernel_rfl) (by kernel_rfl) (by kernel_rfl) (fun _ _ _ h => h) (Or.inl ⟨by rfl, ?h14⟩) (Jt1.out.1) ?_
      case h14 =>
        intro w hSw
        obtain ⟨e0, e1, e2⟩ := HCL.out w hSw
        go_simp
        with_reducible rfl
      simp only [List.setIfInBounds_toArray, List.set_cons_zero, List.set_cons_succ]
      refine' take_at (i := 15) (d := 45) (v := _) rfl rfl (by kernel_rfl) (by kernel_rfl) (by kernel_rfl) (fun _ _ _ h => h) (Or.inl ⟨by rfl, ?h15⟩) (Jt1.out.1) ?_
      case h15 =>
        intro w hSw
        obtain ⟨e0, e1, e2⟩ := HCL.out w hSw
        go_simp
        with_reducible rfl
      simp only [List.setIfInBounds_toArray, List.set_cons_zero, List.set_cons_succ]
      refine' take_at (i := 16) (d := 46) (v := _) rfl rfl (by kernel_rfl) (by kernel_rfl) (by kernel_rfl) (fun _ _ _ h => h) (Or.inl ⟨by rfl, ?h16⟩) (Jt1.out.1) ?_
      case h16 =>
        intro w hSw
        obtain ⟨e0, e1, e2⟩ := HCL.out w hSw
        go_simp
        with_reducible rfl
      simp only [List.setIfInBounds_toArray, List.set_cons_zero, List.set_cons_succ]
      refine' take_at (i := 17) (d := 47) (v := _) rfl rfl (by kernel_rfl) (by kernel_rfl) (by kernel_rfl) (fun _ _ _ h => h) (Or.inl ⟨by rfl, ?h17⟩) (Jt1.out.1) ?_
      case h17 =>
        intro w hSw
        obtain ⟨e0, e1, e2⟩ := HCL.out w hSw
        go_simp
        with_reducible rfl
      simp only [List.setIfInBounds_toArray, List.set_cons_zero, List.set_cons_succ]
      refine wpAnyH_ready (rs := [9]) (by kernel_rfl) (by simp) ?_
      refine AllReadyH.cons (o := _) rfl (fun KQ hKQ => ?_) AllReadyH.nil
      go_simp
      refine (Pw.refTxt_any _ _ x.top t1 Jt1.out.2 (by have := HLN.out; omega) (by have := HX.out.2.2; omega)).mono ?_
      rintro e t2 ⟨v9, rfl, hv9, hb9⟩
      have Jt2 : Hid (Below w.heap.size w t2 ∧ Bs t2 v9 (((Pk.be8 s.shards ++ Pk.be8 s.version ++ Pk.be8 (N : Int)) ++ Tb.flat (s.l.take k)) ++ Pk.txt x.top.data.toList)) := ⟨Jt1.out.1.trans (hb9.mono Jt1.out.1.size), hv9⟩
      obtain ⟨at2, nt2, ct2, rfl, hx1, hx2⟩ := hv9
      clear hb9 Jt1 hx1 hx2
      simp only []
      refine hKQ.out _ _ Jt2.out.1 (fun _ => ?_)
      clear hKQ KQ
      refine wpAnyH_ready (rs := [18]) (by kernel_rfl) (by simp) ?_
      refine AllReadyH.cons (o := _) rfl (fun KQ hKQ => ?_) AllReadyH.nil
      go_simp
      refine (Pw.refI64_bs _ _ x.shard t2 Jt2.out.2 (by
        have h1 := HLN.out
        have h2 := HX.out.2.2
        have h3 : (Pk.txt x.top.data.toList).length = 8 + x.top.size := by unfold Pk.txt; rw [List.length_append, Pk.be8_len, Pa.sz_list]
        rw [List.length_append, h3]
        omega)).mono ?_
      rintro e t3 ⟨v9, rfl, hv9, hb9⟩
      have Jt3 : Hid (Below w.heap.size w t3 ∧ Bs t3 v9 (((Pk.be8 s.shards ++ Pk.be8 s.version ++ Pk.be8 (N : Int)) ++ Tb.flat (s.l.take k)) ++ Pk.txt x.top.data.toList ++ Pk.be8 x.shard)) := ⟨Jt2.out.1.trans (hb9.mono Jt2.out.1.size), hv9⟩
      obtain ⟨at3, nt3, ct3, rfl, hx1, hx2⟩ := hv9
      clear hb9 Jt2 hx1 hx2
      simp only []
      refine hKQ.out _ _ Jt3.out.1 (fun _ => ?_)
      clear hKQ KQ
      refine' take_at (i := 19) (d := 3) (v := _) rfl rfl (by kernel_rfl) (by kernel_rfl) (by kernel_rfl) (fun _ _ _ h => h) (Or.inl ⟨by rfl, ?h19⟩) (Jt3.out.1) ?_
      case h19 =>
        intro w hSw
        clear hSw
        go_simp
        with_reducible rfl
      simp only [List.setIfInBounds_toArray, List.set_cons_zero, List.set_cons_succ]
      refine wpAnyH_done (by kernel_rfl) ?_ _
      have HN : Hid (Bs t3 (.slice at3 nt3 ct3) ((Pk.be8 s.shards ++ Pk.be8 s.version ++ Pk.be8 (N : Int)) ++ Tb.flat (s.l.take (k + 1)))) := by
        rw [HX.out.2.1]
        have h := Jt3.out.2
        simp only [List.append_assoc] at h ⊢
        exact h
      go_wp2
      go_roundw
      case rel => exact ⟨k + 1, by omega, by go_num, Jt3.out.1, HN.out⟩
      case measure => simp [intOf]; omega
    · have hlt' : ¬ (k : Int) < (N : Int) := by omega
      obtain rfl : k = N := by omega
      have HE : Hid (Bs wr (.slice ua un uc) (Tb.bytes s)) := by
        have h := HW.out.2
        rw [List.take_of_length_le (by rw [← H0.out.2.1]; exact Nat.le_refl _)] at h
        have e : Tb.bytes s = Pk.be8 s.shards ++ Pk.be8 s.version ++ Pk.be8 (k : Int) ++ Tb.flat s.l := by
          unfold Tb.bytes
          rw [← H0.out.2.1]
          simp
        rw [e]
        exact h
      go_wp2
      go_ret
      exact ⟨_, rfl, HE.out, HW.out.1⟩
end Go.Proofs.YtpjdjobdbandhaaDoor
