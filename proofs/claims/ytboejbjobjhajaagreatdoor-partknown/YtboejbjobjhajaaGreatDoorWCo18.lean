/- What the landed share's copied makes: Ops in a row of their own. -/
import Derived.Test.YtboejbjobjhajaaGreatDoorWRf18
import Derived.Test.YtboejbjobjhajaaGreatDoorPlainT
import Derived.Lib.SliceRun
namespace Go.Proofs.YtboejbjobjhajaaGreatDoor
open Go.RowKit
theorem cell_same18 {w : World} {B s n g cap i : Nat} {e : TypeId} {xs : List Value} {u : Value} (h : w.ownsRow B e s (.slice (some ⟨g, 0, none⟩) n cap) n xs) (hu : xs[i]? = some u) : w.setCell ⟨g, i, none⟩ u = w := by
  have hi := (List.getElem?_eq_some_iff.1 hu).1
  rcases h with ⟨hl, ⟨e1, _⟩ | ⟨g', cap', cur, e1, _, hb, hc, _, hsz, ht⟩⟩
  · cases e1
  · simp only [Value.slice.injEq, Option.some.injEq, Addr.mk.injEq, and_true, true_and] at e1
    obtain ⟨rfl, rfl⟩ := e1
    rw [setCell_eq_setRow w g i cur e (0, 0) u hb]
    have h2 : cur[i]? = some u := by
      rw [← ht, List.getElem?_take] at hu
      split at hu
      · rw [← hu, Array.getElem?_toList]
      · cases hu
    have h3 : cur.setIfInBounds i u = cur := by
      apply Array.ext
      · simp
      · intro k h4 h5
        rw [Array.getElem_setIfInBounds]
        split
        · rename_i hk
          subst hk
          rw [Array.getElem?_eq_getElem h5] at h2
          exact (Option.some.inj h2).symm
        · rfl
    rw [h3]
    exact setRow_self hb
set_option maxRecDepth 20000 in
set_option maxHeartbeats 2000000 in
theorem clone_any18 (v : Value) (os : List O) (w : World) (hv : Ol w v os) (hne : os ≠ []) (hl : os.length ≤ 900) :
    Calls Tryz.prog 96 #[v] w fun e w' => ∃ g c, e = .returned (.slice (some ⟨g, 0, none⟩) os.length c) ∧ w'.ownsRow w.heap.size 30 5 (.slice (some ⟨g, 0, none⟩) os.length c) os.length (os.flatMap oc) ∧ Below w.heap.size w w' := by
  have hv2 := hv
  obtain ⟨av, N, c, rfl, hN, _, _, hs⟩ := hv2
  obtain ⟨g0, b0, rfl, _⟩ := hs 0 (os[0]'(List.length_pos_iff.2 hne)) (List.getElem?_eq_getElem _)
  have HV : Hid (Ol w (.slice (some ⟨g0, b0, none⟩) N c) os ∧ os.length ≤ 900 ∧ os ≠ []) := ⟨hv, hl, hne⟩
  clear hv hN hl
  have hq : ∀ W : World, (binOp .eql 39 (.slice (some ⟨g0, b0, none⟩) N c) (.slice none 0 0)).run Tryz.prog W = .ok (.bool false) W := fun W => Lib.run_eql_slice_nil W _ _ (some ⟨g0, b0, none⟩) N c 0 0 Tryz.underlying39
  have HB : Hid (Below w.heap.size w (w.alloc (.cells #[] 30))) := (Below.refl _ w).alloc (Nat.le_refl _) _
  go_enter Tryz.func96, Tryz.ntmps96
  go_wp2_with (at_builtin; refine append_ops rfl _ _ rfl w.heap.size (.slice (some ⟨w.heap.size, 0, none⟩) 0 0) (.slice (some ⟨g0, b0, none⟩) N c) [] os (w.alloc (.cells #[] 30)) rfl rfl (World.ownsRow_made w #[] 0 (Nat.le_refl _) (by decide) rfl) (by simp) (HV.out.1.below ((Below.refl _ w).alloc (Nat.le_refl _) _)) (by have := HV.out.2.1; simp only [List.length_nil]; omega) ?_)
  intro v' w2 hrow hb
  have H2 : Hid (w2.ownsRow w.heap.size 30 5 v' os.length (os.flatMap oc) ∧ Below w.heap.size w w2) := ⟨hrow, HB.out.trans hb⟩
  clear hrow hb
  go_wp2
  go_ret
  obtain ⟨a, cc, e, _, hg⟩ := row_form H2.out.1
  obtain ⟨g, rfl⟩ := hg (List.length_pos_iff.2 HV.out.2.2)
  refine ⟨g, cc, by rw [← e]; rfl, ?_, H2.out.2⟩
  have h1 := H2.out.1
  rw [e] at h1
  exact h1
set_option maxRecDepth 20000 in
set_option maxHeartbeats 8000000 in
theorem copied_any18 (v : Value) (os : List O) (w : World) (hv : Ol w v os) (hne : os ≠ []) (hl : os.length ≤ 900) (hz : ∀ o ∈ os, o.path.size ≤ 200 ∧ o.data.size ≤ 1000) :
    Calls Tryz.prog 48 #[v] w fun e w' => ∃ g c, e = .returned (.slice (some ⟨g, 0, none⟩) os.length c) ∧ w'.ownsRow w.heap.size 30 5 (.slice (some ⟨g, 0, none⟩) os.length c) os.length (os.flatMap oc) ∧ Below w.heap.size w w' := by
  have HV : Hid (os.length ≤ 900 ∧ (∀ o ∈ os, o.path.size ≤ 200 ∧ o.data.size ≤ 1000)) := ⟨hl, hz⟩
  have HC : Hid (Calls Tryz.prog 96 #[v] w fun e w' => ∃ g c, e = .returned (.slice (some ⟨g, 0, none⟩) os.length c) ∧ w'.ownsRow w.heap.size 30 5 (.slice (some ⟨g, 0, none⟩) os.length c) os.length (os.flatMap oc) ∧ Below w.heap.size w w') := clone_any18 v os w hv hne hl
  obtain ⟨N, hN⟩ : ∃ N, N = os.length := ⟨_, rfl⟩
  have HN : Hid (N = os.length) := hN
  have hNb : N ≤ 900 := by omega
  rw [← hN] at HC ⊢
  clear hv hne hl hz hN
  go_enter Tryz.func48, Tryz.ntmps48
  go_wp2_with fail
  refine HC.out.mono ?_
  rintro e w1 ⟨g, c, rfl, hrow, hb⟩
  have H1 : Hid (w1.ownsRow w.heap.size 30 5 (.slice (some ⟨g, 0, none⟩) N c) N (os.flatMap oc) ∧ Below w.heap.size w w1) := ⟨hrow, hb⟩
  clear hrow hb HC
  go_wp2
  go_loopw [4, 9] (fun j i wx => ∃ k : Nat, k ≤ N ∧ i = .int .i64 (k : Int) ∧ wx.ownsRow w.heap.size 30 5 (.slice (some ⟨g, 0, none⟩) N c) N (os.flatMap oc) ∧ Below w.heap.size w wx) (fun _ i _ => N - (intOf i).toNat)
  case atStart => exact ⟨0, Nat.zero_le _, rfl, H1.out.1, H1.out.2⟩
  case round =>
    obtain ⟨k, hk, rfl, hrow, hb⟩ := hrel
    have H2 : Hid (wr.ownsRow w.heap.size 30 5 (.slice (some ⟨g, 0, none⟩) N c) N (os.flatMap oc) ∧ Below w.heap.size w wr) := ⟨hrow, hb⟩
    clear hrow hb H1
    by_cases hlt : k < N
    · have hlt' : (k : Int) < (N : Int) := by omega
      have hk0 : (0 : Int) ≤ (k : Int) := by omega
      have hwk : IntKind.wrap .i64 ((k : Int) + 1) = (k : Int) + 1 := by rw [IntKind.wrap_i64]; omega
      obtain ⟨o, ho⟩ : ∃ o, os[k]? = some o := ⟨os[k]'(by rw [← HN.out]; exact hlt), List.getElem?_eq_getElem _⟩
      have HX : Hid ((os.flatMap oc)[k * 5 + 1]? = some (.string o.path) ∧ (os.flatMap oc)[k * 5 + 2]? = some (.string o.data) ∧ o.path.size ≤ 200 ∧ o.data.size ≤ 1000 ∧ k * 5 + 2 < N * 5) := by
        have h1 := HV.out.2 o (List.mem_of_getElem? ho)
        refine ⟨?_, ?_, h1.1, h1.2, by omega⟩
        · rw [flat_get]
          have e1 : (k * 5 + 1) / 5 = k := by omega
          have e2 : (k * 5 + 1) % 5 = 1 := by omega
          rw [e1, e2, ho]
          rfl
        · rw [flat_get]
          have e1 : (k * 5 + 2) / 5 = k := by omega
          have e2 : (k * 5 + 2) % 5 = 2 := by omega
          rw [e1, e2, ho]
          rfl
      have HQ : Hid (∀ u, Below wr.heap.size wr u → u.ownsRow w.heap.size 30 5 (.slice (some ⟨g, 0, none⟩) N c) N (os.flatMap oc)) := fun u hu => row_stays H2.out.1 (fun k hk => hu.block k (H2.out.1.lt k hk).2)
      clear ho
      go_upto_region 5 with fail
      refine wp_region_held_drew (S := fun w' => Below wr.heap.size wr w') (by kernel_rfl) (Below.refl _ wr).drew (fun _ => ?_)
      have H3 : Hid (Below wr.heap.size wr wr.drew) := (Below.refl _ wr).drew
      generalize wr.drew = w3 at *
      refine' take_at (i := 0) (d := 12) (v := _) rfl rfl (by kernel_rfl) (by kernel_rfl) (by kernel_rfl) (fun _ _ _ h => h) (Or.inl ⟨by rfl, ?h0⟩) (H3.out) ?_
      case h0 =>
        intro w hSw
        go_simp
        with_reducible rfl
      simp only [List.setIfInBounds_toArray, List.set_cons_zero, List.set_cons_succ]
      refine' take_at (i := 1) (d := 13) (v := _) rfl rfl (by kernel_rfl) (by kernel_rfl) (by kernel_rfl) (fun _ _ _ h => h) (Or.inl ⟨by rfl, ?h1⟩) (H3.out) ?_
      case h1 =>
        intro w hSw
        go_simp
        with_reducible rfl
      simp only [List.setIfInBounds_toArray, List.set_cons_zero, List.set_cons_succ]
      refine' take_at (i := 2) (d := 14) (v := _) rfl rfl (by kernel_rfl) (by kernel_rfl) (by kernel_rfl) (fun _ _ _ h => h) (Or.inl ⟨by rfl, ?h2⟩) (H3.out) ?_
      case h2 =>
        intro w hSw
        go_simp
        with_reducible rfl
      simp only [List.setIfInBounds_toArray, List.set_cons_zero, List.set_cons_succ]
      refine' take_at (i := 3) (d := 15) (v := _) rfl rfl (by kernel_rfl) (by kernel_rfl) (by kernel_rfl) (fun _ _ _ h => h) (Or.inl ⟨by rfl, ?h3⟩) (H3.out) ?_
      case h3 =>
        intro w hSw
        go_simp
        with_reducible rfl
      simp only [List.setIfInBounds_toArray, List.set_cons_zero, List.set_cons_succ]
      refine' take_at (i := 4) (d := 16) (v := _) rfl rfl (by kernel_rfl) (by kernel_rfl) (by kernel_rfl) (fun _ _ _ h => h) (Or.inl ⟨by rfl, ?h4⟩) (H3.out) ?_
      case h4 =>
        intro w hSw
        go_simp
        with_reducible rfl
      simp only [List.setIfInBounds_toArray, List.set_cons_zero, List.set_cons_succ]
      refine' take_at (i := 5) (d := 17) (v := _) rfl rfl (by kernel_rfl) (by kernel_rfl) (by kernel_rfl) (fun _ _ _ h => h) (Or.inl ⟨by rfl, ?h5⟩) (H3.out) ?_
      case h5 =>
        intro w hSw
        go_simp
        with_reducible rfl
      simp only [List.setIfInBounds_toArray, List.set_cons_zero, List.set_cons_succ]
      refine' take_at (i := 6) (d := 18) (v := _) rfl rfl (by kernel_rfl) (by kernel_rfl) (by kernel_rfl) (fun _ _ _ h => h) (Or.inl ⟨by rfl, ?h6⟩) (H3.out) ?_
      case h6 =>
        intro w hSw
        go_simp
        with_reducible rfl
      simp only [List.setIfInBounds_toArray, List.set_cons_zero, List.set_cons_succ]
      refine' take_at (i := 7) (d := 19) (v := _) rfl rfl (by kernel_rfl) (by kernel_rfl) (by kernel_rfl) (fun _ _ _ h => h) (Or.inl ⟨by rfl, ?h7⟩) (H3.out) ?_
      case h7 =>
        intro w hSw
        go_simp
        with_reducible rfl
      simp only [List.setIfInBounds_toArray, List.set_cons_zero, List.set_cons_succ]
      refine' take_at (i := 10) (d := 22) (v := _) rfl rfl (by kernel_rfl) (by kernel_rfl) (by kernel_rfl) (fun _ _ _ h => h) (Or.inl ⟨by rfl, ?h10⟩) (H3.out) ?_
      case h10 =>
        intro w hSw
        go_simp
        with_reducible rfl
      simp only [List.setIfInBounds_toArray, List.set_cons_zero, List.set_cons_succ]
      refine' take_at (i := 11) (d := 23) (v := _) rfl rfl (by kernel_rfl) (by kernel_rfl) (by kernel_rfl) (fun _ _ _ h => h) (Or.inl ⟨by rfl, ?h11⟩) (H3.out) ?_
      case h11 =>
        intro w hSw
        go_simp
        with_reducible rfl
      simp only [List.setIfInBounds_toArray, List.set_cons_zero, List.set_cons_succ]
      refine' take_at (i := 12) (d := 24) (v := _) rfl rfl (by kernel_rfl) (by kernel_rfl) (by kernel_rfl) (fun _ _ _ h => h) (Or.inl ⟨by rfl, ?h12⟩) (H3.out) ?_
      case h12 =>
        intro w hSw
        go_simp
        with_reducible rfl
      simp only [List.setIfInBounds_toArray, List.set_cons_zero, List.set_cons_succ]
      refine' take_at (i := 13) (d := 25) (v := _) rfl rfl (by kernel_rfl) (by kernel_rfl) (by kernel_rfl) (fun _ _ _ h => h) (Or.inl ⟨by rfl, ?h13⟩) (H3.out) ?_
      case h13 =>
        intro w hSw
        go_simp
        with_reducible rfl
      simp only [List.setIfInBounds_toArray, List.set_cons_zero, List.set_cons_succ]
      refine' take_at (i := 8) (d := 20) (v := _) rfl rfl (by kernel_rfl) (by kernel_rfl) (by kernel_rfl) (fun _ _ _ h => h) (Or.inl ⟨by rfl, ?h8⟩) (H3.out) ?_
      case h8 =>
        intro w hSw
        have t1 := ((HQ.out _ hSw).cellAt (k * 5 + 1) (by have := HX.out.2.2.2.2; omega)).trans HX.out.1
        have t2 := ((HQ.out _ hSw).cellAt (k * 5 + 2) HX.out.2.2.2.2).trans HX.out.2.1
        go_simp
        with_reducible rfl
      simp only [List.setIfInBounds_toArray, List.set_cons_zero, List.set_cons_succ]
      refine' take_at (i := 14) (d := 26) (v := _) rfl rfl (by kernel_rfl) (by kernel_rfl) (by kernel_rfl) (fun _ _ _ h => h) (Or.inl ⟨by rfl, ?h14⟩) (H3.out) ?_
      case h14 =>
        intro w hSw
        have t1 := ((HQ.out _ hSw).cellAt (k * 5 + 1) (by have := HX.out.2.2.2.2; omega)).trans HX.out.1
        have t2 := ((HQ.out _ hSw).cellAt (k * 5 + 2) HX.out.2.2.2.2).trans HX.out.2.1
        go_simp
        with_reducible rfl
      simp only [List.setIfInBounds_toArray, List.set_cons_zero, List.set_cons_succ]
      refine wpAnyH_ready (rs := [9]) (by kernel_rfl) (by simp) ?_
      refine AllReadyH.cons (o := _) rfl (fun KQ hKQ => ?_) AllReadyH.nil
      go_simp
      refine (sclone_any17 o.path w3 (by have := HX.out.2.2.1; omega)).mono ?_
      rintro e w4 ⟨rfl, hb⟩
      have H4 : Hid (Below wr.heap.size wr w4) := H3.out.trans (hb.mono H3.out.size)
      clear hb
      refine hKQ.out _ _ H4.out (fun _ => ?_)
      clear hKQ KQ
      refine wpAnyH_ready (rs := [15]) (by kernel_rfl) (by simp) ?_
      refine AllReadyH.cons (o := _) rfl (fun KQ hKQ => ?_) AllReadyH.nil
      go_simp
      refine (sclone_any17 o.data w4 (by have := HX.out.2.2.2.1; omega)).mono ?_
      rintro e w5 ⟨rfl, hb⟩
      have H5 : Hid (Below wr.heap.size wr w5) := H4.out.trans (hb.mono H4.out.size)
      clear hb
      refine hKQ.out _ _ H5.out (fun _ => ?_)
      clear hKQ KQ
      refine' take_at (i := 16) (d := 28) (v := _) rfl rfl (by kernel_rfl) (by kernel_rfl) (by kernel_rfl) (fun _ _ _ h => h) (Or.inl ⟨by rfl, ?h16⟩) (H5.out) ?_
      case h16 =>
        intro w hSw
        go_simp
        with_reducible rfl
      simp only [List.setIfInBounds_toArray, List.set_cons_zero, List.set_cons_succ]
      refine' take_at (i := 17) (d := 29) (v := _) rfl rfl (by kernel_rfl) (by kernel_rfl) (by kernel_rfl) (fun _ _ _ h => h) (Or.inl ⟨by rfl, ?h17⟩) (H5.out) ?_
      case h17 =>
        intro w hSw
        go_simp
        with_reducible rfl
      simp only [List.setIfInBounds_toArray, List.set_cons_zero, List.set_cons_succ]
      have hr5 := HQ.out _ H5.out
      have f1 : w5.frozen? ⟨g, k * 5 + 1, none⟩ = false := hr5.frozenAt _
      have f2 : w5.frozen? ⟨g, k * 5 + 2, none⟩ = false := hr5.frozenAt _
      have q1 := (hr5.cellAt (k * 5 + 1) (by have := HX.out.2.2.2.2; omega)).trans HX.out.1
      have q2 := (hr5.cellAt (k * 5 + 2) HX.out.2.2.2.2).trans HX.out.2.1
      have s1 := cell_same18 hr5 HX.out.1
      have s2 := cell_same18 hr5 HX.out.2.1
      clear hr5
      refine wpAnyH_ready (rs := [18]) (by kernel_rfl) (by simp) ?_
      refine AllReadyH.cons (o := _) rfl (fun KQ hKQ => ?_) AllReadyH.nil
      go_simp
      refine hKQ.out _ _ H5.out (fun _ => ?_)
      clear hKQ KQ
      refine' take_at (i := 19) (d := 30) (v := _) rfl rfl (by kernel_rfl) (by kernel_rfl) (by kernel_rfl) (fun _ _ _ h => h) (Or.inl ⟨by rfl, ?h19⟩) (H5.out) ?_
      case h19 =>
        intro w hSw
        go_simp
        with_reducible rfl
      simp only [List.setIfInBounds_toArray, List.set_cons_zero, List.set_cons_succ]
      refine' take_at (i := 20) (d := 31) (v := _) rfl rfl (by kernel_rfl) (by kernel_rfl) (by kernel_rfl) (fun _ _ _ h => h) (Or.inl ⟨by rfl, ?h20⟩) (H5.out) ?_
      case h20 =>
        intro w hSw
        go_simp
        with_reducible rfl
      simp only [List.setIfInBounds_toArray, List.set_cons_zero, List.set_cons_succ]
      refine wpAnyH_ready (rs := [21]) (by kernel_rfl) (by simp) ?_
      refine AllReadyH.cons (o := _) rfl (fun KQ hKQ => ?_) AllReadyH.nil
      go_simp
      refine hKQ.out _ _ H5.out (fun _ => ?_)
      clear hKQ KQ
      refine wpAnyH_done (by kernel_rfl) ?_ _
      have H6 : Hid (w5.ownsRow w.heap.size 30 5 (.slice (some ⟨g, 0, none⟩) N c) N (os.flatMap oc) ∧ Below w.heap.size w w5) := ⟨HQ.out _ H5.out, H2.out.2.trans (H5.out.mono H2.out.2.size)⟩
      clear f1 f2 q1 q2 s1 s2
      go_wp2
      go_roundw
      case rel => exact ⟨k + 1, by omega, by go_num, H6.out.1, H6.out.2⟩
      case measure => simp [intOf]; omega
    · have hlt' : ¬ (k : Int) < (N : Int) := by omega
      go_wp2
      go_ret
      exact ⟨g, c, rfl, H2.out.1, H2.out.2⟩
end Go.Proofs.YtboejbjobjhajaaGreatDoor
