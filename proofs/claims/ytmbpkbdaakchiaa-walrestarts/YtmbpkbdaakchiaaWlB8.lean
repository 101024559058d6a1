/- What the landed log answers to Sync and At: their walks. -/
import Derived.Test.YtmbpkbdaakchiaaWlA8
namespace Go.Proofs.Ytmbpkbdaakchiaa
open Go.RowKit

set_option maxRecDepth 20000 in
set_option maxHeartbeats 2000000 in
theorem syncW_any (ql qd : Nat) (g : Wq.Lg) (st : Dq.St) (F G : Nat → Prop) (v : Value) (us : List Value) (w : World) (hd : DkD w qd st F) (hg : WlU w ql qd g G v us ((Fr.frames g.recs).length : Int)) (ha : ∀ k, F k → ¬ G k) (hf : Fine st) :
    Calls Try.prog 17 #[dptr ql] w fun e w' => e = .returned (.int .i64 (Wq.sync g st).1) ∧ Post8 DkD WlD w ql qd F G (Wq.sync g st).2.1 (Wq.sync g st).2.2 w' := by
  have HD : Hid (DkD w qd st F ∧ WlU w ql qd g G v us ((Fr.frames g.recs).length : Int) ∧ (∀ k, F k → ¬ G k) ∧ Fine st) := ⟨hd, hg, ha, hf⟩
  have HO : Hid (Calls Try.prog 27 #[dptr ql] w fun e w' => e = .returned (.bool (dn g st)) ∧ ∃ n, w' = w.drewN n) := isDone_any ql qd g st F G v us _ w hd hg
  clear hd hg ha hf
  cases ho : dn g st with
  | true =>
    have HX : Hid (Wq.sync g st = (10, { g with done := true }, st) ∧ Wq.off g st = true) := ⟨Wq.sync_dead (dn_off ho), dn_off ho⟩
    rw [HX.out.1]
    rw [ho] at HO
    clear ho
    go_enter Try.func17, Try.ntmps17
    go_wp2_with fail
    refine HO.out.mono ?_
    rintro e w1 ⟨rfl, n9, hw1⟩
    have HB : Hid (Below w.heap.size w w1) := by rw [hw1]; exact below_drewN (Below.refl _ _) _
    have HD1 : Hid (DkD w1 qd st F ∧ WlU w1 ql qd g G v us ((Fr.frames g.recs).length : Int)) := ⟨HD.out.1.below HB.out, HD.out.2.1.below HB.out⟩
    clear hw1
    go_wp2
    go_ret
    exact ⟨rfl, (post_dead HD1.out.1 ⟨v, us, HD1.out.2⟩ HD.out.2.2.1 HX.out.2).before (Moved.of_below _ HB.out)⟩
  | false =>
    rw [ho] at HO
    cases hoff : st.off with
    | true =>
      have HX : Hid (Wq.sync g st = (10, { g with done := true }, st) ∧ Dq.sync st Wq.logN = (10, st)) := by
        refine ⟨Wq.sync_dead (Wq.off_power hoff), ?_⟩
        unfold Dq.sync Dq.err
        rw [hoff]
        rfl
      rw [HX.out.1]
      clear ho hoff
      go_enter Try.func17, Try.ntmps17
      go_wp2_with fail
      refine HO.out.mono ?_
      rintro e w1 ⟨rfl, n9, hw1⟩
      have HB : Hid (Below w.heap.size w w1) := by rw [hw1]; exact below_drewN (Below.refl _ _) _
      have HD1 : Hid (DkD w1 qd st F ∧ WlU w1 ql qd g G v us ((Fr.frames g.recs).length : Int)) := ⟨HD.out.1.below HB.out, HD.out.2.1.below HB.out⟩
      clear hw1
      have l0 : w1.cell? ⟨ql, 0, none⟩ = some (dptr qd) := HD1.out.2.blk.cell 0
      go_wp2_with fail
      refine (specs_any7.sync qd st F Wq.logN w1 HD1.out.1 HD.out.2.2.2).mono ?_
      rintro e w2 ⟨F2, rfl, h1, h2⟩
      rw [HX.out.2] at h1 ⊢
      have hoth := HD1.out.2.other h2 HD.out.2.2.1
      have HD2 : Hid (DkD w2 qd st F2 ∧ WlU w2 ql qd g G v us ((Fr.frames g.recs).length : Int) ∧ (∀ k, F2 k → ¬ G k) ∧ Moved w w2 (both F G) (both F2 G)) := ⟨h1, hoth.1, hoth.2, (Moved.of_below _ HB.out).trans h2.both_l⟩
      clear h1 h2 hoth l0
      go_wp2_with fail
      refine (ifThere_any 10 w2).mono ?_
      rintro e w3 ⟨rfl, hw3⟩
      rw [hw3, if_neg (by decide)]
      clear hw3 w3
      go_wp2_with fail
      refine (fail_any8 ql qd g G v us _ 10 w2 HD2.out.2.1).mono ?_
      rintro e w3 ⟨rfl, hw3⟩
      have HP : Hid (Post8 DkD WlD w ql qd F G { g with done := true } st w3) := by
        rw [hw3]
        exact (post_done HD2.out.1 HD2.out.2.1 HD2.out.2.2.1).before HD2.out.2.2.2
      clear hw3
      go_wp2
      go_ret
      exact ⟨rfl, HP.out⟩
    | false =>
      have HX : Hid (Wq.sync g st = (0, g, (Dq.sync st Wq.logN).2) ∧ ((Dq.sync st Wq.logN).1 = 0 ∨ (Dq.sync st Wq.logN).1 = 4)) := by
        rw [dn_on hoff] at ho
        refine ⟨by unfold Wq.sync; rw [ho]; rfl, ?_⟩
        rcases Wq.err_on hoff Wq.may_log with h | h
        · left; unfold Dq.sync; rw [h]; rfl
        · right; unfold Dq.sync; rw [h]; rfl
      rw [HX.out.1]
      clear ho hoff
      go_enter Try.func17, Try.ntmps17
      go_wp2_with fail
      refine HO.out.mono ?_
      rintro e w1 ⟨rfl, n9, hw1⟩
      have HB : Hid (Below w.heap.size w w1) := by rw [hw1]; exact below_drewN (Below.refl _ _) _
      have HD1 : Hid (DkD w1 qd st F ∧ WlU w1 ql qd g G v us ((Fr.frames g.recs).length : Int)) := ⟨HD.out.1.below HB.out, HD.out.2.1.below HB.out⟩
      clear hw1
      have l0 : w1.cell? ⟨ql, 0, none⟩ = some (dptr qd) := HD1.out.2.blk.cell 0
      go_wp2_with fail
      refine (specs_any7.sync qd st F Wq.logN w1 HD1.out.1 HD.out.2.2.2).mono ?_
      rintro e w2 ⟨F2, rfl, h1, h2⟩
      have hoth := HD1.out.2.other h2 HD.out.2.2.1
      have HP : Hid (Post8 DkD WlD w ql qd F G g (Dq.sync st Wq.logN).2 w2) := post_of h1 ⟨v, us, hoth.1⟩ hoth.2 ((Moved.of_below _ HB.out).trans h2.both_l)
      clear h1 h2 hoth l0
      obtain ⟨z, hz⟩ : ∃ z, z = (Dq.sync st Wq.logN).1 := ⟨_, rfl⟩
      have HZ : Hid ((if z = 4 then 0 else z) = 0) := by
        have h : (if z = 4 then 0 else z) = 0 := by
          rcases HX.out.2 with h | h
          · rw [hz, h]; rfl
          · rw [hz, h]; rfl
        exact h
      rw [← hz]
      clear hz
      go_wp2_with fail
      refine (ifThere_any z w2).mono ?_
      rintro e w3 ⟨rfl, hw3⟩
      rw [hw3, HZ.out]
      clear hw3 w3
      go_wp2
      go_ret
      exact ⟨rfl, HP.out⟩

theorem at_bad {w w' : World} {ql qd : Nat} {g g' : Wq.Lg} {st : Dq.St} {F G : Nat → Prop} {z : Int} (hd : DkD w' qd st F) (hg : WlD w' ql qd g G) (ha : ∀ k, F k → ¬ G k) (hl : Wq.Like g g' st) (hm : Moved w w' (both F G) (both F G)) :
    ∃ F' G' g2 v, Ending.returned (.tuple #[.slice none 0 0, .int .i64 z]) = .returned (.tuple #[v, .int .i64 z]) ∧ Bs w' v [] ∧ Apart F' v [] ∧ Apart G' v [] ∧ DkD w' qd st F' ∧ WlD w' ql qd g2 G' ∧ Wq.Like g2 g' st ∧ (∀ k, F' k → ¬ G' k) ∧ Moved w w' (both F G) (both F' G') :=
  ⟨F, G, g, _, rfl, Bs.nil _, fun h => absurd h (by decide), fun h => absurd h (by decide), hd, hg, hl, ha, hm⟩

set_option maxRecDepth 20000 in
set_option maxHeartbeats 4000000 in
theorem atW_any (ql qd : Nat) (g : Wq.Lg) (st : Dq.St) (F G : Nat → Prop) (v : Value) (us : List Value) (n : Int) (w : World) (hd : DkD w qd st F) (hg : WlU w ql qd g G v us ((Fr.frames g.recs).length : Int)) (ha : ∀ k, F k → ¬ G k) (hoff : st.off = false) (n1 : -9223372036854775808 ≤ n) (n2 : n ≤ 9223372036854775807) :
    Calls Try.prog 12 #[dptr ql, .int .i64 n] w fun e w' => ∃ F' G' g2 v, e = .returned (.tuple #[v, .int .i64 (Wq.at_ g st n).2.1]) ∧ Bs w' v (Wq.at_ g st n).1 ∧ Apart F' v (Wq.at_ g st n).1 ∧ Apart G' v (Wq.at_ g st n).1 ∧ DkD w' qd st F' ∧ WlD w' ql qd g2 G' ∧ Wq.Like g2 (Wq.at_ g st n).2.2 st ∧ (∀ k, F' k → ¬ G' k) ∧ Moved w w' (both F G) (both F' G') := by
  have HD : Hid (DkD w qd st F ∧ WlU w ql qd g G v us ((Fr.frames g.recs).length : Int) ∧ (∀ k, F k → ¬ G k)) := ⟨hd, hg, ha⟩
  have HO : Hid (Calls Try.prog 27 #[dptr ql] w fun e w' => e = .returned (.bool (dn g st)) ∧ ∃ n, w' = w.drewN n) := isDone_any ql qd g st F G v us _ w hd hg
  obtain ⟨av, cv, rfl, hcv⟩ := row_slice hg.own
  have hlo := hg.fine.lo
  have hhi := hg.fine.hi
  have hl := hg.fine.len
  clear hd hg ha
  rw [dn_on hoff] at HO
  clear hoff
  cases ho : Wq.off g st with
  | true =>
    have HX : Hid (Wq.at_ g st n = ([], 10, { g with done := true }) ∧ Wq.off g st = true) := by
      have h : Wq.at_ g st n = ([], 10, { g with done := true }) := by unfold Wq.at_; rw [if_pos ho]
      exact ⟨h, ho⟩
    rw [HX.out.1]
    rw [ho] at HO
    clear ho
    go_enter Try.func12, Try.ntmps12
    go_wp2_with fail
    refine HO.out.mono ?_
    rintro e w1 ⟨rfl, n9, hw1⟩
    have HB : Hid (Below w.heap.size w w1) := by rw [hw1]; exact below_drewN (Below.refl _ _) _
    have HD1 : Hid (DkD w1 qd st F ∧ WlU w1 ql qd g G (.slice av g.recs.length cv) us ((Fr.frames g.recs).length : Int)) := ⟨HD.out.1.below HB.out, HD.out.2.1.below HB.out⟩
    clear hw1
    go_wp2
    go_ret2
    exact at_bad HD1.out.1 ⟨_, us, HD1.out.2⟩ HD.out.2.2 ⟨rfl, rfl, rfl, by rw [HX.out.2, Wq.off_true]⟩ (Moved.of_below _ HB.out)
  | false =>
    rw [ho] at HO
    have HOF : Hid (Wq.off g st = false) := ho
    clear ho
    obtain ⟨m, hm⟩ : ∃ m, m = g.recs.length := ⟨_, rfl⟩
    obtain ⟨f, hf⟩ : ∃ f, f = g.first := ⟨_, rfl⟩
    have HMF : Hid (m = g.recs.length ∧ f = g.first) := ⟨hm, hf⟩
    have HNX : Hid (Wq.next g = f + (m : Int)) := by
      have h : Wq.next g = f + (m : Int) := by rw [hm, hf]; rfl
      exact h
    rw [← hm] at hl hcv
    rw [← hf] at hlo hhi
    rw [← hm] at HD
    clear hm hf
    by_cases c1 : n < f
    · have HX : Hid (Wq.at_ g st n = ([], 4, g)) := by
        have h : Wq.at_ g st n = ([], 4, g) := by unfold Wq.at_; rw [HOF.out, ← HMF.out.1, ← HMF.out.2]; simp [c1]
        exact h
      rw [HX.out]
      have c1b : decide (n < f) = true := by simp [c1]
      go_enter Try.func12, Try.ntmps12
      go_wp2_with fail
      refine HO.out.mono ?_
      rintro e w1 ⟨rfl, n9, hw1⟩
      have HB : Hid (Below w.heap.size w w1) := by rw [hw1]; exact below_drewN (Below.refl _ _) _
      have HD1 : Hid (DkD w1 qd st F ∧ WlU w1 ql qd g G (.slice av m cv) us ((Fr.frames g.recs).length : Int)) := ⟨HD.out.1.below HB.out, HD.out.2.1.below HB.out⟩
      clear hw1
      go_wp2_with fail
      refine (first_any8 ql qd g G (.slice av m cv) us _ w1 HD1.out.2).mono ?_
      rintro e w2 ⟨rfl, hw2⟩
      rw [hw2, ← HMF.out.2]
      clear hw2 w2
      go_wp2
      go_ret2
      exact at_bad HD1.out.1 ⟨_, us, HD1.out.2⟩ HD.out.2.2 (Wq.Like.refl _ _) (Moved.of_below _ HB.out)
    have c1b : decide (n < f) = false := by simp [c1]
    by_cases c2 : (m : Int) ≤ n - f
    · have HX : Hid (Wq.at_ g st n = ([], 4, g)) := by
        have h : Wq.at_ g st n = ([], 4, g) := by unfold Wq.at_; rw [HOF.out, ← HMF.out.1, ← HMF.out.2]; simp [c2]
        exact h
      rw [HX.out]
      have c3 : f + (m : Int) ≤ n := by omega
      go_enter Try.func12, Try.ntmps12
      go_wp2_with fail
      refine HO.out.mono ?_
      rintro e w1 ⟨rfl, n9, hw1⟩
      have HB : Hid (Below w.heap.size w w1) := by rw [hw1]; exact below_drewN (Below.refl _ _) _
      have HD1 : Hid (DkD w1 qd st F ∧ WlU w1 ql qd g G (.slice av m cv) us ((Fr.frames g.recs).length : Int)) := ⟨HD.out.1.below HB.out, HD.out.2.1.below HB.out⟩
      clear hw1
      go_wp2_with fail
      refine (first_any8 ql qd g G (.slice av m cv) us _ w1 HD1.out.2).mono ?_
      rintro e w2 ⟨rfl, hw2⟩
      rw [hw2, ← HMF.out.2]
      clear hw2 w2
      go_wp2_with fail
      refine (next_any8 ql qd g G (.slice av m cv) us _ w1 HD1.out.2).mono ?_
      rintro e w2 ⟨rfl, n8, hw2⟩
      rw [HNX.out]
      have HB2 : Hid (Below w1.heap.size w1 w2) := by rw [hw2]; exact below_drewN (Below.refl _ _) _
      clear hw2
      go_wp2
      go_ret2
      exact at_bad (HD1.out.1.below HB2.out) ⟨_, us, HD1.out.2.below HB2.out⟩ HD.out.2.2 (Wq.Like.refl _ _) (Moved.of_below _ (HB.out.trans (HB2.out.mono HB.out.size)))
    obtain ⟨j, hj⟩ : ∃ j : Nat, n - f = (j : Int) := ⟨(n - f).toNat, by omega⟩
    have hjm : j < m := by omega
    obtain ⟨x, hx⟩ : ∃ x, g.recs[j]? = some x := ⟨g.recs[j]'(by rw [← HMF.out.1]; exact hjm), List.getElem?_eq_getElem _⟩
    have HX : Hid (Wq.at_ g st n = (x, 0, g)) := by
      have h : Wq.at_ g st n = (x, 0, g) := by
        unfold Wq.at_
        rw [HOF.out, ← HMF.out.1, ← HMF.out.2, hj]
        simp only [Int.toNat_natCast, hx]
        have h3 : ¬ ((m : Int) ≤ (j : Int)) := by omega
        simp [c1, h3]
      exact h
    rw [HX.out]
    have HXJ : Hid (g.recs[j]? = some x) := hx
    have c3 : ¬ f + (m : Int) ≤ n := by omega
    clear hx
    go_enter Try.func12, Try.ntmps12
    go_wp2_with fail
    refine HO.out.mono ?_
    rintro e w1 ⟨rfl, n9, hw1⟩
    have HB : Hid (Below w.heap.size w w1) := by rw [hw1]; exact below_drewN (Below.refl _ _) _
    have HD1 : Hid (DkD w1 qd st F ∧ WlU w1 ql qd g G (.slice av m cv) us ((Fr.frames g.recs).length : Int)) := ⟨HD.out.1.below HB.out, HD.out.2.1.below HB.out⟩
    clear hw1
    go_wp2_with fail
    refine (first_any8 ql qd g G (.slice av m cv) us _ w1 HD1.out.2).mono ?_
    rintro e w2 ⟨rfl, hw2⟩
    rw [hw2, ← HMF.out.2]
    clear hw2 w2
    go_wp2_with fail
    refine (next_any8 ql qd g G (.slice av m cv) us _ w1 HD1.out.2).mono ?_
    rintro e w2 ⟨rfl, n8, hw2⟩
    rw [HNX.out]
    have HB2 : Hid (Below w.heap.size w w2.drew) := by rw [hw2]; exact (below_drewN HB.out _).drew
    clear hw2
    obtain ⟨u, hu⟩ : ∃ u, us[j]? = some u := ⟨us[j]'(by have h := HD1.out.2.ulen; rw [h, ← HMF.out.1]; exact hjm), List.getElem?_eq_getElem _⟩
    obtain ⟨gg, hav⟩ : ∃ gg, av = some ⟨gg, 0, none⟩ := by
      rcases HD1.out.2.own.2 with ⟨e, h0⟩ | ⟨gg, cap, cur, e, _⟩
      · have := HMF.out.1; omega
      · simp only [Value.slice.injEq] at e
        exact ⟨gg, e.1⟩
    subst hav
    have HU : Hid (us[j]? = some u) := hu
    clear hu
    have HWU : Hid (∀ w', Below w.heap.size w w' → w'.cell? ⟨ql, 3, none⟩ = some (.int .i64 f) ∧ w'.cell? ⟨ql, 4, none⟩ = some (.slice (some ⟨gg, 0, none⟩) m cv) ∧ w'.cell? ⟨gg, j, none⟩ = some u) := fun w' hb => by
      have hW := HD.out.2.1.below hb
      refine ⟨by rw [HMF.out.2]; exact hW.blk.cell 3, hW.blk.cell 4, ?_⟩
      have hO := hW.own
      rw [← HMF.out.1] at hO
      rw [hO.cellAt j (by omega), HU.out]
    have hj0 : (0 : Int) ≤ (j : Int) := by omega
    have hjm2 : (j : Int) < (m : Int) := by omega
    have hwj : IntKind.wrap .i64 (j : Int) = (j : Int) := by rw [IntKind.wrap_i64]; omega
    clear c1b n1 n2
    go_wp2_with fail
    refine wp_region_held_drew (S := fun w' => w'.cell? ⟨ql, 3, none⟩ = some (.int .i64 f) ∧ w'.cell? ⟨ql, 4, none⟩ = some (.slice (some ⟨gg, 0, none⟩) m cv) ∧ w'.cell? ⟨gg, j, none⟩ = some u) (by kernel_rfl) (HWU.out _ HB2.out) (fun _ => ?_)
    have HS1 : Hid (w2.drew.cell? ⟨ql, 3, none⟩ = some (.int .i64 f) ∧ w2.drew.cell? ⟨ql, 4, none⟩ = some (.slice (some ⟨gg, 0, none⟩) m cv) ∧ w2.drew.cell? ⟨gg, j, none⟩ = some u) := HWU.out _ HB2.out
    generalize w2.drew = wX at *
    refine' take_at (i := 0) (d := 18) (v := _) rfl rfl (by kernel_rfl) (by kernel_rfl) (by kernel_rfl) (fun _ _ _ h => h) (Or.inl ⟨by rfl, ?h0⟩) (HS1.out) ?_
    case h0 => intro w hSw; obtain ⟨s3, s4, s5⟩ := hSw; go_simp; with_reducible rfl
    simp only [List.setIfInBounds_toArray, List.set_cons_zero, List.set_cons_succ]
    refine' take_at (i := 1) (d := 19) (v := _) rfl rfl (by kernel_rfl) (by kernel_rfl) (by kernel_rfl) (fun _ _ _ h => h) (Or.inl ⟨by rfl, ?h1⟩) (HS1.out) ?_
    case h1 => intro w hSw; obtain ⟨s3, s4, s5⟩ := hSw; go_simp; with_reducible rfl
    simp only [List.setIfInBounds_toArray, List.set_cons_zero, List.set_cons_succ]
    refine' take_at (i := 2) (d := 20) (v := _) rfl rfl (by kernel_rfl) (by kernel_rfl) (by kernel_rfl) (fun _ _ _ h => h) (Or.inl ⟨by rfl, ?h2⟩) (HS1.out) ?_
    case h2 => intro w hSw; obtain ⟨s3, s4, s5⟩ := hSw; go_simp; with_reducible rfl
    simp only [List.setIfInBounds_toArray, List.set_cons_zero, List.set_cons_succ]
    refine' take_at (i := 3) (d := 21) (v := _) rfl rfl (by kernel_rfl) (by kernel_rfl) (by kernel_rfl) (fun _ _ _ h => h) (Or.inl ⟨by rfl, ?h3⟩) (HS1.out) ?_
    case h3 => intro w hSw; obtain ⟨s3, s4, s5⟩ := hSw; go_simp; with_reducible rfl
    simp only [List.setIfInBounds_toArray, List.set_cons_zero, List.set_cons_succ]
    refine' take_at (i := 4) (d := 22) (v := _) rfl rfl (by kernel_rfl) (by kernel_rfl) (by kernel_rfl) (fun _ _ _ h => h) (Or.inl ⟨by rfl, ?h4⟩) (HS1.out) ?_
    case h4 => intro w hSw; obtain ⟨s3, s4, s5⟩ := hSw; go_simp; with_reducible rfl
    simp only [List.setIfInBounds_toArray, List.set_cons_zero, List.set_cons_succ]
    refine' take_at (i := 5) (d := 23) (v := _) rfl rfl (by kernel_rfl) (by kernel_rfl) (by kernel_rfl) (fun _ _ _ h => h) (Or.inl ⟨by rfl, ?h5⟩) (HS1.out) ?_
    case h5 => intro w hSw; obtain ⟨s3, s4, s5⟩ := hSw; go_simp; with_reducible rfl
    simp only [List.setIfInBounds_toArray, List.set_cons_zero, List.set_cons_succ]
    refine' take_at (i := 6) (d := 24) (v := _) rfl rfl (by kernel_rfl) (by kernel_rfl) (by kernel_rfl) (fun _ _ _ h => h) (Or.inl ⟨by rfl, ?h6⟩) (HS1.out) ?_
    case h6 => intro w hSw; obtain ⟨s3, s4, s5⟩ := hSw; go_simp; with_reducible rfl
    simp only [List.setIfInBounds_toArray, List.set_cons_zero, List.set_cons_succ]
    refine' take_at (i := 7) (d := 25) (v := _) rfl rfl (by kernel_rfl) (by kernel_rfl) (by kernel_rfl) (fun _ _ _ h => h) (Or.inl ⟨by rfl, ?h7⟩) (HS1.out) ?_
    case h7 => intro w hSw; obtain ⟨s3, s4, s5⟩ := hSw; go_simp; with_reducible rfl
    simp only [List.setIfInBounds_toArray, List.set_cons_zero, List.set_cons_succ]
    refine' take_at (i := 8) (d := 26) (v := _) rfl rfl (by kernel_rfl) (by kernel_rfl) (by kernel_rfl) (fun _ _ _ h => h) (Or.inl ⟨by rfl, ?h8⟩) (HS1.out) ?_
    case h8 => intro w hSw; obtain ⟨s3, s4, s5⟩ := hSw; go_simp; with_reducible rfl
    simp only [List.setIfInBounds_toArray, List.set_cons_zero, List.set_cons_succ]
    refine' take_at (i := 9) (d := 27) (v := _) rfl rfl (by kernel_rfl) (by kernel_rfl) (by kernel_rfl) (fun _ _ _ h => h) (Or.inl ⟨by rfl, ?h9⟩) (HS1.out) ?_
    case h9 => intro w hSw; obtain ⟨s3, s4, s5⟩ := hSw; go_simp; with_reducible rfl
    simp only [List.setIfInBounds_toArray, List.set_cons_zero, List.set_cons_succ]
    refine' take_at (i := 10) (d := 28) (v := _) rfl rfl (by kernel_rfl) (by kernel_rfl) (by kernel_rfl) (fun _ _ _ h => h) (Or.inl ⟨by rfl, ?h10⟩) (HS1.out) ?_
    case h10 => intro w hSw; obtain ⟨s3, s4, s5⟩ := hSw; go_simp; with_reducible rfl
    simp only [List.setIfInBounds_toArray, List.set_cons_zero, List.set_cons_succ]
    refine' take_at (i := 11) (d := 29) (v := _) rfl rfl (by kernel_rfl) (by kernel_rfl) (by kernel_rfl) (fun _ _ _ h => h) (Or.inl ⟨by rfl, ?h11⟩) (HS1.out) ?_
    case h11 => intro w hSw; obtain ⟨s3, s4, s5⟩ := hSw; go_simp; with_reducible rfl
    simp only [List.setIfInBounds_toArray, List.set_cons_zero, List.set_cons_succ]
    refine wpAnyH_ready (rs := [12]) (by kernel_rfl) (by simp) ?_
    refine AllReadyH.cons (o := _) rfl (fun K hK => ?_) AllReadyH.nil
    go_simp
    obtain ⟨au, cu, hu2, hcu⟩ := row_slice (HD.out.2.1.rows j u x HU.out HXJ.out).1
    have HBU : Hid (Bs wX u x) := Bs.own ((HD.out.2.1.below HB2.out).rows j u x HU.out HXJ.out).1
    refine (clone_any7 u x wX HBU.out (by have h := HD.out.2.1.fine.recs x (List.mem_of_getElem? HXJ.out); omega)).mono ?_
    rintro e w3 ⟨vc, rfl, hoc, hbc⟩
    have HB4 : Hid (Below w.heap.size w w3) := HB2.out.trans (hbc.mono HB2.out.size)
    have HVC : Hid (w3.ownsRow wX.heap.size 5 1 vc x.length (bc x)) := hoc
    obtain ⟨ac, cc, rfl, _⟩ := row_slice hoc
    clear hoc hbc hu2 hcu
    refine hK.out _ _ (HWU.out _ HB4.out) (fun _ => ?_)
    clear hK K
    refine' take_at (i := 13) (d := 4) (v := _) rfl rfl (by kernel_rfl) (by kernel_rfl) (by kernel_rfl) (fun _ _ _ h => h) (Or.inl ⟨by rfl, ?h13⟩) (HWU.out _ HB4.out) ?_
    case h13 => intro w hSw; go_simp; with_reducible rfl
    simp only [List.setIfInBounds_toArray, List.set_cons_zero, List.set_cons_succ]
    refine' take_at (i := 14) (d := 5) (v := _) rfl rfl (by kernel_rfl) (by kernel_rfl) (by kernel_rfl) (fun _ _ _ h => h) (Or.inl ⟨by rfl, ?h14⟩) (HWU.out _ HB4.out) ?_
    case h14 => intro w hSw; go_simp; with_reducible rfl
    simp only [List.setIfInBounds_toArray, List.set_cons_zero, List.set_cons_succ]
    refine wpAnyH_done (by kernel_rfl) ?_ _
    go_wp2
    go_ret2
    have hfar : ∀ k, (Value.slice ac x.length cc).ownBlock = some k → w.heap.size ≤ k := fun k e => Nat.le_trans HB2.out.size (HVC.out.lt k e).1
    exact ⟨F, G, g, _, rfl, Bs.own HVC.out, fun _ k e hF => by have h1 := hfar k e; have h2 := HD.out.1.lt hF; omega, fun _ k e hG => by have h1 := hfar k e; have h2 := HD.out.2.1.glt k hG; omega, HD.out.1.below HB4.out, ⟨_, us, HD.out.2.1.below HB4.out⟩, Wq.Like.refl _ _, HD.out.2.2, Moved.of_below _ HB4.out⟩
end Go.Proofs.Ytmbpkbdaakchiaa
