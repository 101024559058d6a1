/- What slices.BinarySearchFunc finds of watches that rise. -/
import Derived.Test.YtjejpkognjedpaaDoorWOrd13
namespace Go.Proofs.YtjejpkognjedpaaDoor
open Go.RowKit

/-- A watch's cells in a row. -/
theorem row_at13 {w : World} {B g N c : Nat} {l : List Hq.Wt} (h : w.ownsRow B 54 3 (.slice (some ⟨g, 0, none⟩) N c) N (wcs l)) {j : Nat} {x : Hq.Wt} (hx : l[j]? = some x) : w.cell? ⟨g, j * 3, none⟩ = some (.int .i64 x.sess) ∧ w.cell? ⟨g, j * 3 + 1, none⟩ = some (.int .i64 x.kind) ∧ w.cell? ⟨g, j * 3 + 2, none⟩ = some (.string x.path) := by
  have hj := (List.getElem?_eq_some_iff.1 hx).1
  have hN : l.length * 3 = N * 3 := by rw [← wcs_len]; exact h.1
  have key : ∀ i u, i < 3 → (wc x)[i]? = some u → w.cell? ⟨g, j * 3 + i, none⟩ = some u := fun i u hi hu => by
    rw [h.cellAt _ (by omega)]
    exact wcs_cell l j x i u hx hu
  exact ⟨key 0 _ (by decide) rfl, key 1 _ (by decide) rfl, key 2 _ (by decide) rfl⟩

theorem enters13 : ∀ args w, (callFunc 20 args).run Tryd.prog w = .ok (.enter 20 args) w := enters_of Tryd.func20 (by kernel_rfl) rfl

set_option maxRecDepth 20000 in
set_option maxHeartbeats 4000000 in
theorem search_any13 (g N c : Nat) (l : List Hq.Wt) (x : Hq.Wt) (w : World) (h : w.ownsRow 0 54 3 (.slice (some ⟨g, 0, none⟩) N c) N (wcs l)) (hN : N = l.length) (hl : N ≤ 1000) (hr : Hq.Rises l) :
    Calls Tryd.prog 19 #[.slice (some ⟨g, 0, none⟩) N c, wv x, .func (.func 20) #[] #[]] w fun e w' => e = .returned (.tuple #[.int .i64 (Hq.pos l x : Int), .bool (Hq.has l x)]) ∧ Below w.heap.size w w' := by
  obtain ⟨p, hp⟩ : ∃ p, p = Hq.pos l x := ⟨_, rfl⟩
  have hpN : p ≤ N := by rw [hp, hN]; exact Hq.pos_le l x
  obtain ⟨b, hb⟩ : ∃ b, b = w.heap.size := ⟨_, rfl⟩
  have H0 : Hid (w.ownsRow 0 54 3 (.slice (some ⟨g, 0, none⟩) N c) N (wcs l) ∧ N = l.length ∧ p = Hq.pos l x ∧ Hq.Rises l ∧ (∀ w', Below w.heap.size w w' → w'.ownsRow 0 54 3 (.slice (some ⟨g, 0, none⟩) N c) N (wcs l))) := ⟨h, hN, hp, hr, fun w' hb => row_stays h fun k hk => hb.block k (h.lt k hk).2⟩
  have HX : Hid (Below w.heap.size w (w.alloc (.cells #[.int .i64 x.sess, .int .i64 x.kind, .string x.path] 54)) ∧ Cb (w.alloc (.cells #[.int .i64 x.sess, .int .i64 x.kind, .string x.path] 54)) b (wc x) 54) := ⟨(Below.refl _ w).alloc (Nat.le_refl _) _, by rw [hb]; exact Cb.made w _ _⟩
  rw [← hp]
  clear h hN hp hr
  unfold wv
  go_enter Tryd.func19, Tryd.ntmps19
  go_upto_region 3 with fail
  rw [← hb]
  clear hb
  generalize (w.alloc (.cells #[.int .i64 x.sess, .int .i64 x.kind, .string x.path] 54)) = w0 at *
  go_wp2
  go_loopw [9, 10] (fun i j wx => ∃ lo hi : Nat, i = .int .i64 (lo : Int) ∧ j = .int .i64 (hi : Int) ∧ lo ≤ p ∧ p ≤ hi ∧ hi ≤ N ∧ Below w.heap.size w wx ∧ Cb wx b (wc x) 54) (fun i j _ => (intOf j).toNat - (intOf i).toNat)
  case atStart => exact ⟨0, N, rfl, rfl, Nat.zero_le _, hpN, Nat.le_refl _, HX.out.1, HX.out.2⟩
  case round =>
    obtain ⟨lo, hi, rfl, rfl, h1, h2, h3, hbw, hcb⟩ := hrel
    have HW : Hid (Below w.heap.size w wr ∧ Cb wr b (wc x) 54) := ⟨hbw, hcb⟩
    clear hbw hcb HX
    by_cases hlt : lo < hi
    · have hlt' : (lo : Int) < (hi : Int) := by omega
      obtain ⟨m, hm⟩ : ∃ m, m = (lo + hi) / 2 := ⟨_, rfl⟩
      have hm1 : m < N := by omega
      have HMZ : Hid (((lo : Int) + (hi : Int)) / 2 = (m : Int) ∧ m = (lo + hi) / 2) := ⟨by omega, hm⟩
      clear hm
      go_upto_region 5 with fail
      rw [HMZ.out.1]
      obtain ⟨y, hy⟩ : ∃ y, l[m]? = some y := ⟨l[m]'(by rw [← H0.out.2.1]; exact hm1), List.getElem?_eq_getElem _⟩
      have HY : Hid (l[m]? = some y) := hy
      clear hy
      have m0 : (0 : Int) ≤ (m : Int) := by omega
      have mN : (m : Int) < (N : Int) := by omega
      obtain ⟨z, hz⟩ : ∃ z, z = cmpW y x := ⟨_, rfl⟩
      have HZ : Hid (z = cmpW y x ∧ (z < 0 → m < p) ∧ (¬ z < 0 → p ≤ m)) := by
        have h1 : decide (z < 0) = Hq.lt y x := by rw [hz]; exact cmpW_neg y x
        refine ⟨hz, fun h => ?_, fun h => ?_⟩
        · rcases Nat.lt_or_ge m p with h4 | h4
          · exact h4
          · have h5 := Hq.pos_high H0.out.2.2.2.1 (by rw [← H0.out.2.2.1]; exact h4) HY.out
            rw [h5] at h1
            simp at h1
            omega
        · rcases Nat.lt_or_ge m p with h4 | h4
          · have h5 := Hq.pos_low (by rw [← H0.out.2.2.1]; exact h4) HY.out
            rw [h5] at h1
            simp at h1
            omega
          · exact h4
      clear hz
      have HS : Hid (∀ w', Below w.heap.size w w' → Cb w' b (wc x) 54 → w'.cell? ⟨g, m * 3, none⟩ = some (.int .i64 y.sess) ∧ w'.cell? ⟨g, m * 3 + 1, none⟩ = some (.int .i64 y.kind) ∧ w'.cell? ⟨g, m * 3 + 2, none⟩ = some (.string y.path) ∧ w'.cell? ⟨b, 0, none⟩ = some (.int .i64 x.sess) ∧ w'.cell? ⟨b, 1, none⟩ = some (.int .i64 x.kind) ∧ w'.cell? ⟨b, 2, none⟩ = some (.string x.path)) := fun w' hb hc => by
        obtain ⟨r0, r1, r2⟩ := row_at13 (H0.out.2.2.2.2 w' hb) HY.out
        exact ⟨r0, r1, r2, hc.cell 0, hc.cell 1, hc.cell 2⟩
      refine wp_region_held_drew (S := fun w' => w'.cell? ⟨g, m * 3, none⟩ = some (.int .i64 y.sess) ∧ w'.cell? ⟨g, m * 3 + 1, none⟩ = some (.int .i64 y.kind) ∧ w'.cell? ⟨g, m * 3 + 2, none⟩ = some (.string y.path) ∧ w'.cell? ⟨b, 0, none⟩ = some (.int .i64 x.sess) ∧ w'.cell? ⟨b, 1, none⟩ = some (.int .i64 x.kind) ∧ w'.cell? ⟨b, 2, none⟩ = some (.string x.path)) (by kernel_rfl) (HS.out _ HW.out.1.drew HW.out.2) (fun _ => ?_)
      have HD : Hid (Below w.heap.size w wr.drew ∧ Cb wr.drew b (wc x) 54) := ⟨HW.out.1.drew, HW.out.2⟩
      clear HW
      generalize wr.drew = wX at *
      refine' take_at (i := 0) (d := 24) (v := _) rfl rfl (by kernel_rfl) (by kernel_rfl) (by kernel_rfl) (fun _ _ _ h => h) (Or.inl ⟨by rfl, ?h0⟩) (HS.out _ HD.out.1 HD.out.2) ?_
      case h0 =>
        intro w hSw
        obtain ⟨s1, s2, s3, s4, s5, s6⟩ := hSw
        go_simp
        with_reducible rfl
      simp only [List.setIfInBounds_toArray, List.set_cons_zero, List.set_cons_succ]
      refine' take_at (i := 1) (d := 25) (v := _) rfl rfl (by kernel_rfl) (by kernel_rfl) (by kernel_rfl) (fun _ _ _ h => h) (Or.inl ⟨by rfl, ?h1⟩) (HS.out _ HD.out.1 HD.out.2) ?_
      case h1 =>
        intro w hSw
        obtain ⟨s1, s2, s3, s4, s5, s6⟩ := hSw
        go_simp
        with_reducible rfl
      simp only [List.setIfInBounds_toArray, List.set_cons_zero, List.set_cons_succ]
      refine' take_at (i := 2) (d := 26) (v := _) rfl rfl (by kernel_rfl) (by kernel_rfl) (by kernel_rfl) (fun _ _ _ h => h) (Or.inl ⟨by rfl, ?h2⟩) (HS.out _ HD.out.1 HD.out.2) ?_
      case h2 =>
        intro w hSw
        obtain ⟨s1, s2, s3, s4, s5, s6⟩ := hSw
        go_simp
        with_reducible rfl
      simp only [List.setIfInBounds_toArray, List.set_cons_zero, List.set_cons_succ]
      refine' take_at (i := 3) (d := 27) (v := _) rfl rfl (by kernel_rfl) (by kernel_rfl) (by kernel_rfl) (fun _ _ _ h => h) (Or.inl ⟨by rfl, ?h3⟩) (HS.out _ HD.out.1 HD.out.2) ?_
      case h3 =>
        intro w hSw
        obtain ⟨s1, s2, s3, s4, s5, s6⟩ := hSw
        go_simp
        with_reducible rfl
      simp only [List.setIfInBounds_toArray, List.set_cons_zero, List.set_cons_succ]
      refine' take_at (i := 4) (d := 28) (v := _) rfl rfl (by kernel_rfl) (by kernel_rfl) (by kernel_rfl) (fun _ _ _ h => h) (Or.inl ⟨by rfl, ?h4⟩) (HS.out _ HD.out.1 HD.out.2) ?_
      case h4 =>
        intro w hSw
        obtain ⟨s1, s2, s3, s4, s5, s6⟩ := hSw
        go_simp
        with_reducible rfl
      simp only [List.setIfInBounds_toArray, List.set_cons_zero, List.set_cons_succ]
      refine' take_at (i := 5) (d := 29) (v := _) rfl rfl (by kernel_rfl) (by kernel_rfl) (by kernel_rfl) (fun _ _ _ h => h) (Or.inl ⟨by rfl, ?h5⟩) (HS.out _ HD.out.1 HD.out.2) ?_
      case h5 =>
        intro w hSw
        obtain ⟨s1, s2, s3, s4, s5, s6⟩ := hSw
        go_simp
        with_reducible rfl
      simp only [List.setIfInBounds_toArray, List.set_cons_zero, List.set_cons_succ]
      refine wpAnyH_ready (rs := [6]) (by kernel_rfl) (by simp) ?_
      refine AllReadyH.cons (o := _) rfl (fun KQ hKQ => ?_) AllReadyH.nil
      go_simp
      refine (order_any13 y x wX).mono ?_
      rintro e w2 ⟨rfl, hb2⟩
      have H2 : Hid (Below w.heap.size w w2 ∧ Cb w2 b (wc x) 54) := ⟨HD.out.1.trans (hb2.mono HD.out.1.size), HD.out.2.below hb2⟩
      clear hb2
      refine hKQ.out _ _ (HS.out _ H2.out.1 H2.out.2) (fun _ => ?_)
      clear hKQ KQ
      rw [← HZ.out.1]
      refine' take_at (i := 7) (d := 31) (v := _) rfl rfl (by kernel_rfl) (by kernel_rfl) (by kernel_rfl) (fun _ _ _ h => h) (Or.inl ⟨by rfl, ?h7⟩) (HS.out _ H2.out.1 H2.out.2) ?_
      case h7 =>
        intro w hSw
        clear hSw
        go_simp
        with_reducible rfl
      simp only [List.setIfInBounds_toArray, List.set_cons_zero, List.set_cons_succ]
      refine wpAnyH_done (by kernel_rfl) ?_ _
      by_cases hz : z < 0
      · have hmp : m < p := HZ.out.2.1 hz
        have hwk : IntKind.wrap .i64 ((m : Int) + 1) = (m : Int) + 1 := by rw [IntKind.wrap_i64]; omega
        go_wp2
        go_roundw
        case rel => exact ⟨m + 1, hi, by go_num, rfl, by omega, h2, h3, H2.out.1, H2.out.2⟩
        case measure => have := HMZ.out.2; simp [intOf]; omega
      · have hmp : p ≤ m := HZ.out.2.2 hz
        go_wp2
        go_roundw
        case rel => exact ⟨lo, m, rfl, rfl, h1, hmp, by omega, H2.out.1, H2.out.2⟩
        case measure => have := HMZ.out.2; simp [intOf]; omega
    · have hlt' : ¬ (lo : Int) < (hi : Int) := by omega
      obtain rfl : lo = p := by omega
      clear h1 h2
      by_cases hn : lo < N
      · have hn' : (lo : Int) < (N : Int) := by omega
        have hn0 : (0 : Int) ≤ (lo : Int) := by omega
        obtain ⟨y, hy⟩ : ∃ y, l[lo]? = some y := ⟨l[lo]'(by rw [← H0.out.2.1]; exact hn), List.getElem?_eq_getElem _⟩
        have HY : Hid (l[lo]? = some y) := hy
        obtain ⟨z, hz⟩ : ∃ z, z = cmpW y x := ⟨_, rfl⟩
        have HZ : Hid (z = cmpW y x ∧ Hq.has l x = (z == 0)) := by
          refine ⟨hz, ?_⟩
          have h1 := Hq.pos_at (x := x) H0.out.2.2.2.1
          rw [← H0.out.2.2.1, hy] at h1
          have h2 : (z == 0) = true ↔ y = x := by rw [beq_iff_eq, hz]; exact cmpW_zero y x
          cases e : (z == 0) with
          | true => exact h1.2 (by rw [h2.1 e])
          | false =>
            cases e2 : Hq.has l x with
            | false => rfl
            | true => rw [h2.2 (Option.some.inj (h1.1 e2))] at e; cases e
        clear hy hz
        have HS : Hid (∀ w', Below w.heap.size w w' → Cb w' b (wc x) 54 → w'.cell? ⟨g, lo * 3, none⟩ = some (.int .i64 y.sess) ∧ w'.cell? ⟨g, lo * 3 + 1, none⟩ = some (.int .i64 y.kind) ∧ w'.cell? ⟨g, lo * 3 + 2, none⟩ = some (.string y.path) ∧ w'.cell? ⟨b, 0, none⟩ = some (.int .i64 x.sess) ∧ w'.cell? ⟨b, 1, none⟩ = some (.int .i64 x.kind) ∧ w'.cell? ⟨b, 2, none⟩ = some (.string x.path)) := fun w' hb hc => by
          obtain ⟨r0, r1, r2⟩ := row_at13 (H0.out.2.2.2.2 w' hb) HY.out
          exact ⟨r0, r1, r2, hc.cell 0, hc.cell 1, hc.cell 2⟩
        go_upto_region 8 with fail
        refine wp_region_held_drew (S := fun w' => w'.cell? ⟨g, lo * 3, none⟩ = some (.int .i64 y.sess) ∧ w'.cell? ⟨g, lo * 3 + 1, none⟩ = some (.int .i64 y.kind) ∧ w'.cell? ⟨g, lo * 3 + 2, none⟩ = some (.string y.path) ∧ w'.cell? ⟨b, 0, none⟩ = some (.int .i64 x.sess) ∧ w'.cell? ⟨b, 1, none⟩ = some (.int .i64 x.kind) ∧ w'.cell? ⟨b, 2, none⟩ = some (.string x.path)) (by kernel_rfl) (HS.out _ HW.out.1.drew HW.out.2) (fun _ => ?_)
        have HD : Hid (Below w.heap.size w wr.drew ∧ Cb wr.drew b (wc x) 54) := ⟨HW.out.1.drew, HW.out.2⟩
        clear HW
        generalize wr.drew = wX at *
        refine' take_at (i := 0) (d := 35) (v := _) rfl rfl (by kernel_rfl) (by kernel_rfl) (by kernel_rfl) (fun _ _ _ h => h) (Or.inl ⟨by rfl, ?h0⟩) (HS.out _ HD.out.1 HD.out.2) ?_
        case h0 =>
          intro w hSw
          obtain ⟨s1, s2, s3, s4, s5, s6⟩ := hSw
          go_simp
          with_reducible rfl
        simp only [List.setIfInBounds_toArray, List.set_cons_zero, List.set_cons_succ]
        refine' take_at (i := 1) (d := 36) (v := _) rfl rfl (by kernel_rfl) (by kernel_rfl) (by kernel_rfl) (fun _ _ _ h => h) (Or.inl ⟨by rfl, ?h1⟩) (HS.out _ HD.out.1 HD.out.2) ?_
        case h1 =>
          intro w hSw
          obtain ⟨s1, s2, s3, s4, s5, s6⟩ := hSw
          go_simp
          with_reducible rfl
        simp only [List.setIfInBounds_toArray, List.set_cons_zero, List.set_cons_succ]
        refine' take_at (i := 2) (d := 37) (v := _) rfl rfl (by kernel_rfl) (by kernel_rfl) (by kernel_rfl) (fun _ _ _ h => h) (Or.inl ⟨by rfl, ?h2⟩) (HS.out _ HD.out.1 HD.out.2) ?_
        case h2 =>
          intro w hSw
          obtain ⟨s1, s2, s3, s4, s5, s6⟩ := hSw
          go_simp
          with_reducible rfl
        simp only [List.setIfInBounds_toArray, List.set_cons_zero, List.set_cons_succ]
        refine' take_at (i := 3) (d := 38) (v := _) rfl rfl (by kernel_rfl) (by kernel_rfl) (by kernel_rfl) (fun _ _ _ h => h) (Or.inl ⟨by rfl, ?h3⟩) (HS.out _ HD.out.1 HD.out.2) ?_
        case h3 =>
          intro w hSw
          obtain ⟨s1, s2, s3, s4, s5, s6⟩ := hSw
          go_simp
          with_reducible rfl
        simp only [List.setIfInBounds_toArray, List.set_cons_zero, List.set_cons_succ]
        refine' take_at (i := 4) (d := 39) (v := _) rfl rfl (by kernel_rfl) (by kernel_rfl) (by kernel_rfl) (fun _ _ _ h => h) (Or.inl ⟨by rfl, ?h4⟩) (HS.out _ HD.out.1 HD.out.2) ?_
        case h4 =>
          intro w hSw
          obtain ⟨s1, s2, s3, s4, s5, s6⟩ := hSw
          go_simp
          with_reducible rfl
        simp only [List.setIfInBounds_toArray, List.set_cons_zero, List.set_cons_succ]
        refine' take_at (i := 5) (d := 40) (v := _) rfl rfl (by kernel_rfl) (by kernel_rfl) (by kernel_rfl) (fun _ _ _ h => h) (Or.inl ⟨by rfl, ?h5⟩) (HS.out _ HD.out.1 HD.out.2) ?_
        case h5 =>
          intro w hSw
          obtain ⟨s1, s2, s3, s4, s5, s6⟩ := hSw
          go_simp
          with_reducible rfl
        simp only [List.setIfInBounds_toArray, List.set_cons_zero, List.set_cons_succ]
        refine' take_at (i := 6) (d := 41) (v := _) rfl rfl (by kernel_rfl) (by kernel_rfl) (by kernel_rfl) (fun _ _ _ h => h) (Or.inl ⟨by rfl, ?h6⟩) (HS.out _ HD.out.1 HD.out.2) ?_
        case h6 =>
          intro w hSw
          obtain ⟨s1, s2, s3, s4, s5, s6⟩ := hSw
          go_simp
          with_reducible rfl
        simp only [List.setIfInBounds_toArray, List.set_cons_zero, List.set_cons_succ]
        refine' take_at (i := 7) (d := 42) (v := _) rfl rfl (by kernel_rfl) (by kernel_rfl) (by kernel_rfl) (fun _ _ _ h => h) (Or.inl ⟨by rfl, ?h7⟩) (HS.out _ HD.out.1 HD.out.2) ?_
        case h7 =>
          intro w hSw
          obtain ⟨s1, s2, s3, s4, s5, s6⟩ := hSw
          go_simp
          with_reducible rfl
        simp only [List.setIfInBounds_toArray, List.set_cons_zero, List.set_cons_succ]
        refine' take_at (i := 8) (d := 43) (v := _) rfl rfl (by kernel_rfl) (by kernel_rfl) (by kernel_rfl) (fun _ _ _ h => h) (Or.inl ⟨by rfl, ?h8⟩) (HS.out _ HD.out.1 HD.out.2) ?_
        case h8 =>
          intro w hSw
          obtain ⟨s1, s2, s3, s4, s5, s6⟩ := hSw
          go_simp
          with_reducible rfl
        simp only [List.setIfInBounds_toArray, List.set_cons_zero, List.set_cons_succ]
        refine' take_at (i := 9) (d := 44) (v := _) rfl rfl (by kernel_rfl) (by kernel_rfl) (by kernel_rfl) (fun _ _ _ h => h) (Or.inl ⟨by rfl, ?h9⟩) (HS.out _ HD.out.1 HD.out.2) ?_
        case h9 =>
          intro w hSw
          obtain ⟨s1, s2, s3, s4, s5, s6⟩ := hSw
          go_simp
          with_reducible rfl
        simp only [List.setIfInBounds_toArray, List.set_cons_zero, List.set_cons_succ]
        refine' take_at (i := 10) (d := 45) (v := _) rfl rfl (by kernel_rfl) (by kernel_rfl) (by kernel_rfl) (fun _ _ _ h => h) (Or.inl ⟨by rfl, ?h10⟩) (HS.out _ HD.out.1 HD.out.2) ?_
        case h10 =>
          intro w hSw
          obtain ⟨s1, s2, s3, s4, s5, s6⟩ := hSw
          go_simp
          with_reducible rfl
        simp only [List.setIfInBounds_toArray, List.set_cons_zero, List.set_cons_succ]
        refine wpAnyH_ready (rs := [11]) (by kernel_rfl) (by simp) ?_
        refine AllReadyH.cons (o := _) rfl (fun KQ hKQ => ?_) AllReadyH.nil
        go_simp
        refine (order_any13 y x wX).mono ?_
        rintro e w2 ⟨rfl, hb2⟩
        have H2 : Hid (Below w.heap.size w w2 ∧ Cb w2 b (wc x) 54) := ⟨HD.out.1.trans (hb2.mono HD.out.1.size), HD.out.2.below hb2⟩
        clear hb2
        refine hKQ.out _ _ (HS.out _ H2.out.1 H2.out.2) (fun _ => ?_)
        clear hKQ KQ
        rw [← HZ.out.1]
        refine' take_at (i := 12) (d := 47) (v := _) rfl rfl (by kernel_rfl) (by kernel_rfl) (by kernel_rfl) (fun _ _ _ h => h) (Or.inl ⟨by rfl, ?h12⟩) (HS.out _ H2.out.1 H2.out.2) ?_
        case h12 =>
          intro w hSw
          clear hSw
          go_simp
          with_reducible rfl
        simp only [List.setIfInBounds_toArray, List.set_cons_zero, List.set_cons_succ]
        refine' take_at (i := 13) (d := 48) (v := _) rfl rfl (by kernel_rfl) (by kernel_rfl) (by kernel_rfl) (fun _ _ _ h => h) (Or.inl ⟨by rfl, ?h13⟩) (HS.out _ H2.out.1 H2.out.2) ?_
        case h13 =>
          intro w hSw
          clear hSw
          go_simp
          with_reducible rfl
        simp only [List.setIfInBounds_toArray, List.set_cons_zero, List.set_cons_succ]
        refine' take_at (i := 14) (d := 6) (v := _) rfl rfl (by kernel_rfl) (by kernel_rfl) (by kernel_rfl) (fun _ _ _ h => h) (Or.inl ⟨by rfl, ?h14⟩) (HS.out _ H2.out.1 H2.out.2) ?_
        case h14 =>
          intro w hSw
          clear hSw
          go_simp
          with_reducible rfl
        simp only [List.setIfInBounds_toArray, List.set_cons_zero, List.set_cons_succ]
        refine' take_at (i := 15) (d := 7) (v := _) rfl rfl (by kernel_rfl) (by kernel_rfl) (by kernel_rfl) (fun _ _ _ h => h) (Or.inl ⟨by rfl, ?h15⟩) (HS.out _ H2.out.1 H2.out.2) ?_
        case h15 =>
          intro w hSw
          clear hSw
          go_simp
          with_reducible rfl
        simp only [List.setIfInBounds_toArray, List.set_cons_zero, List.set_cons_succ]
        refine wpAnyH_done (by kernel_rfl) ?_ _
        go_wp2
        go_ret2
        exact ⟨by rw [HZ.out.2]; rfl, H2.out.1⟩
      · have hn' : ¬ (lo : Int) < (N : Int) := by omega
        have HF : Hid (Hq.has l x = false) := by
          have h1 := Hq.pos_at (x := x) H0.out.2.2.2.1
          have h2 : Hq.has l x = false := by
            cases e : Hq.has l x with
            | false => rfl
            | true =>
              have h3 := (List.getElem?_eq_some_iff.1 (h1.1 e)).1
              rw [← H0.out.2.2.1, ← H0.out.2.1] at h3
              omega
          exact h2
        go_upto_region 8 with fail
        go_quiet (fail)
        have HB : Hid (Below w.heap.size w (wr.drewN nq)) := below_drewN HW.out.1 _
        go_wp2
        go_ret2
        exact ⟨by rw [HF.out]; rfl, HB.out⟩
theorem search_none13 (x : Hq.Wt) (w : World) :
    Calls Tryd.prog 19 #[.slice none 0 0, wv x, .func (.func 20) #[] #[]] w fun e w' => e = .returned (.tuple #[.int .i64 0, .bool false]) ∧ Below w.heap.size w w' := by
  have HX : Hid (Below w.heap.size w (w.alloc (.cells #[.int .i64 x.sess, .int .i64 x.kind, .string x.path] 54))) := (Below.refl _ w).alloc (Nat.le_refl _) _
  unfold wv
  go_enter Tryd.func19, Tryd.ntmps19
  go_upto_region 3 with fail
  generalize (w.alloc (.cells #[.int .i64 x.sess, .int .i64 x.kind, .string x.path] 54)) = w0 at *
  go_wp2
  go_loopw [9, 10] (fun i j wx => i = .int .i64 0 ∧ j = .int .i64 0 ∧ Below w.heap.size w wx) (fun _ _ _ => 0)
  case atStart => exact ⟨rfl, rfl, HX.out⟩
  case round =>
    obtain ⟨rfl, rfl, hb⟩ := hrel
    have HB : Hid (Below w.heap.size w wr) := hb
    clear hb
    go_upto_region 8 with fail
    go_quiet (fail)
    have HB2 : Hid (Below w.heap.size w (wr.drewN nq)) := below_drewN HB.out _
    go_wp2
    go_ret2
    exact ⟨rfl, HB2.out⟩
end Go.Proofs.YtjejpkognjedpaaDoor
