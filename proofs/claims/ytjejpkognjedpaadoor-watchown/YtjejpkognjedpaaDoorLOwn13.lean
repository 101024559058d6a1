/- WatchOwn's walk. -/
import Derived.Test.YtjejpkognjedpaaDoorActs13
import Derived.Deep.DeepCutAuto
import Derived.Test.YtjejpkognjedpaaDoorTakeAt
namespace Go.Proofs.YtjejpkognjedpaaDoor
open Go.RowKit

set_option maxRecDepth 20000 in
set_option maxHeartbeats 8000000 in
theorem own_any13 {LW : Rep13} (S : Specs13 LW) (v : Value) (xs : List Hq.Ac) (n : Int) (W : World) (hS : Pa.Std W) (hv : Acl13 W v xs) (hl : xs.length ≤ maxLen) (hok : ∀ x ∈ xs, AcOk13 x) :
    Calls Tryd.prog 6 #[v, .int .i64 n] W fun e w' => e = .returned (.bool true) ∧ Below W.heap.size W w' := by
  have HS : Hid (Specs13 LW ∧ Pa.Std W ∧ (∀ x ∈ xs, AcOk13 x)) := ⟨S, hS, hok⟩
  obtain ⟨av, N, c, rfl, hN, hj⟩ := hv
  have HV : Hid (Acl13 W (.slice av N c) xs ∧ N = xs.length) := ⟨⟨av, N, c, rfl, hN, hj⟩, hN⟩
  have hN1 : N ≤ 9223372036854775807 := by unfold maxLen at hl; omega
  clear S hS hok hl hN hj
  go_enter Tryd.func6, Tryd.ntmps6
  go_wp2_with fail
  refine (awake_any13 HS.out.1 W HS.out.2.1).mono ?_
  rintro e w0 ⟨rfl, hb0⟩
  have H0 : Hid (Below W.heap.size W w0) := hb0
  clear hb0
  by_cases h40 : 40 < N
  · have h40' : (40 : Int) < (N : Int) := by omega
    go_wp2
    go_ret
    exact ⟨rfl, H0.out⟩
  have h40' : ¬ (40 : Int) < (N : Int) := by omega
  go_wp2_with fail
  refine (mine13_new HS.out.1 H0.out 1000 (by decide)).mono ?_
  rintro e w1 ⟨q, F1, rfl, hM⟩
  have M1 : Hid (Mine13 LW W w1 q ⟨1000, []⟩ F1) := hM
  clear hM
  go_wp2
  go_loopw [7] (fun i wx => ∃ k : Nat, k ≤ N ∧ i = .int .i64 (k : Int) ∧ ∃ F, Mine13 LW W wx q (Hq.arms ⟨1000, []⟩ (xs.take k)) F) (fun i _ => N - (intOf i).toNat)
  case atStart => exact ⟨0, Nat.zero_le _, rfl, F1, M1.out⟩
  case round =>
    obtain ⟨k, hk, rfl, F, hM⟩ := hrel
    have HM : Hid (Mine13 LW W wr q (Hq.arms ⟨1000, []⟩ (xs.take k)) F) := hM
    clear hM M1
    by_cases hlt : k < N
    · have hlt' : (k : Int) < (N : Int) := by omega
      have hk0 : (0 : Int) ≤ (k : Int) := by omega
      have hwk : IntKind.wrap .i64 ((k : Int) + 1) = (k : Int) + 1 := by rw [IntKind.wrap_i64]; omega
      obtain ⟨x, hx⟩ : ∃ x, xs[k]? = some x := ⟨xs[k]'(by rw [← HV.out.2]; exact hlt), List.getElem?_eq_getElem _⟩
      have HX : Hid (xs[k]? = some x ∧ AcOk13 x) := ⟨hx, HS.out.2.2 x (List.mem_of_getElem? hx)⟩
      obtain ⟨g, o, rfl, c0, c1, c2, c3⟩ := (HV.out.1.below HM.out.below).at hx
      clear hx c0
      have hsz : x.p.size ≤ 9223372036854775807 := by have h := HX.out.2.p; unfold maxLen at h; omega
      by_cases h3 : 300 < x.p.size
      · have h3' : (300 : Int) < (x.p.size : Int) := by omega
        go_wp2
        go_ret
        exact ⟨rfl, HM.out.below⟩
      have h3' : ¬ (300 : Int) < (x.p.size : Int) := by omega
      have HNX : Hid ((Hq.arm (Hq.arms ⟨1000, []⟩ (xs.take k)) x.wt).2 = Hq.arms ⟨1000, []⟩ (xs.take (k + 1))) := by
        have e : (Hq.arm (Hq.arms ⟨1000, []⟩ (xs.take k)) x.wt).2 = Hq.arms ⟨1000, []⟩ (xs.take (k + 1)) := by rw [List.take_add_one, HX.out.1, ← Hq.arms_snoc]; rfl
        exact e
      go_upto_region 11 with fail
      refine wp_region_held_drew (S := fun w' => w'.cell? ⟨g, o + k * 4 + 1, none⟩ = some (.int .i64 x.sess) ∧ w'.cell? ⟨g, o + k * 4 + 2, none⟩ = some (.string x.p) ∧ w'.cell? ⟨g, o + k * 4 + 3, none⟩ = some (.int .i64 x.kind)) (by kernel_rfl) ⟨c1, c2, c3⟩ (fun _ => ?_)
      have HS1 : Hid ((fun w' : World => w'.cell? ⟨g, o + k * 4 + 1, none⟩ = some (.int .i64 x.sess) ∧ w'.cell? ⟨g, o + k * 4 + 2, none⟩ = some (.string x.p) ∧ w'.cell? ⟨g, o + k * 4 + 3, none⟩ = some (.int .i64 x.kind)) wr.drew) := ⟨c1, c2, c3⟩
      have HMD : Hid (Mine13 LW W wr.drew q (Hq.arms ⟨1000, []⟩ (xs.take k)) F) := HM.out.later HS.out.1 (Below.refl _ _).drew
      clear c1 c2 c3 HM
      generalize wr.drew = wX at *
      refine' take_at (i := 0) (d := 36) (v := _) rfl rfl (by kernel_rfl) (by kernel_rfl) (by kernel_rfl) (fun _ _ _ h => h) (Or.inl ⟨by rfl, ?h0⟩) (HS1.out) ?_
      case h0 =>
        intro w hSw
        obtain ⟨s1, s2, s3⟩ := hSw
        go_simp
        with_reducible rfl
      simp only [List.setIfInBounds_toArray, List.set_cons_zero, List.set_cons_succ]
      refine' take_at (i := 1) (d := 37) (v := _) rfl rfl (by kernel_rfl) (by kernel_rfl) (by kernel_rfl) (fun _ _ _ h => h) (Or.inl ⟨by rfl, ?h1⟩) (HS1.out) ?_
      case h1 =>
        intro w hSw
        obtain ⟨s1, s2, s3⟩ := hSw
        go_simp
        with_reducible rfl
      simp only [List.setIfInBounds_toArray, List.set_cons_zero, List.set_cons_succ]
      refine' take_at (i := 2) (d := 38) (v := _) rfl rfl (by kernel_rfl) (by kernel_rfl) (by kernel_rfl) (fun _ _ _ h => h) (Or.inl ⟨by rfl, ?h2⟩) (HS1.out) ?_
      case h2 =>
        intro w hSw
        obtain ⟨s1, s2, s3⟩ := hSw
        go_simp
        with_reducible rfl
      simp only [List.setIfInBounds_toArray, List.set_cons_zero, List.set_cons_succ]
      refine' take_at (i := 3) (d := 39) (v := _) rfl rfl (by kernel_rfl) (by kernel_rfl) (by kernel_rfl) (fun _ _ _ h => h) (Or.inl ⟨by rfl, ?h3⟩) (HS1.out) ?_
      case h3 =>
        intro w hSw
        obtain ⟨s1, s2, s3⟩ := hSw
        go_simp
        with_reducible rfl
      simp only [List.setIfInBounds_toArray, List.set_cons_zero, List.set_cons_succ]
      refine' take_at (i := 4) (d := 40) (v := _) rfl rfl (by kernel_rfl) (by kernel_rfl) (by kernel_rfl) (fun _ _ _ h => h) (Or.inl ⟨by rfl, ?h4⟩) (HS1.out) ?_
      case h4 =>
        intro w hSw
        obtain ⟨s1, s2, s3⟩ := hSw
        go_simp
        with_reducible rfl
      simp only [List.setIfInBounds_toArray, List.set_cons_zero, List.set_cons_succ]
      refine' take_at (i := 5) (d := 41) (v := _) rfl rfl (by kernel_rfl) (by kernel_rfl) (by kernel_rfl) (fun _ _ _ h => h) (Or.inl ⟨by rfl, ?h5⟩) (HS1.out) ?_
      case h5 =>
        intro w hSw
        obtain ⟨s1, s2, s3⟩ := hSw
        go_simp
        with_reducible rfl
      simp only [List.setIfInBounds_toArray, List.set_cons_zero, List.set_cons_succ]
      refine' take_at (i := 6) (d := 42) (v := _) rfl rfl (by kernel_rfl) (by kernel_rfl) (by kernel_rfl) (fun _ _ _ h => h) (Or.inl ⟨by rfl, ?h6⟩) (HS1.out) ?_
      case h6 =>
        intro w hSw
        obtain ⟨s1, s2, s3⟩ := hSw
        go_simp
        with_reducible rfl
      simp only [List.setIfInBounds_toArray, List.set_cons_zero, List.set_cons_succ]
      refine' take_at (i := 7) (d := 43) (v := _) rfl rfl (by kernel_rfl) (by kernel_rfl) (by kernel_rfl) (fun _ _ _ h => h) (Or.inl ⟨by rfl, ?h7⟩) (HS1.out) ?_
      case h7 =>
        intro w hSw
        obtain ⟨s1, s2, s3⟩ := hSw
        go_simp
        with_reducible rfl
      simp only [List.setIfInBounds_toArray, List.set_cons_zero, List.set_cons_succ]
      refine' take_at (i := 8) (d := 44) (v := _) rfl rfl (by kernel_rfl) (by kernel_rfl) (by kernel_rfl) (fun _ _ _ h => h) (Or.inl ⟨by rfl, ?h8⟩) (HS1.out) ?_
      case h8 =>
        intro w hSw
        obtain ⟨s1, s2, s3⟩ := hSw
        go_simp
        with_reducible rfl
      simp only [List.setIfInBounds_toArray, List.set_cons_zero, List.set_cons_succ]
      refine' take_at (i := 9) (d := 45) (v := _) rfl rfl (by kernel_rfl) (by kernel_rfl) (by kernel_rfl) (fun _ _ _ h => h) (Or.inl ⟨by rfl, ?h9⟩) (HS1.out) ?_
      case h9 =>
        intro w hSw
        obtain ⟨s1, s2, s3⟩ := hSw
        go_simp
        with_reducible rfl
      simp only [List.setIfInBounds_toArray, List.set_cons_zero, List.set_cons_succ]
      refine' take_at (i := 10) (d := 46) (v := _) rfl rfl (by kernel_rfl) (by kernel_rfl) (by kernel_rfl) (fun _ _ _ h => h) (Or.inl ⟨by rfl, ?h10⟩) (HS1.out) ?_
      case h10 =>
        intro w hSw
        obtain ⟨s1, s2, s3⟩ := hSw
        go_simp
        with_reducible rfl
      simp only [List.setIfInBounds_toArray, List.set_cons_zero, List.set_cons_succ]
      refine' take_at (i := 11) (d := 47) (v := _) rfl rfl (by kernel_rfl) (by kernel_rfl) (by kernel_rfl) (fun _ _ _ h => h) (Or.inl ⟨by rfl, ?h11⟩) (HS1.out) ?_
      case h11 =>
        intro w hSw
        obtain ⟨s1, s2, s3⟩ := hSw
        go_simp
        with_reducible rfl
      simp only [List.setIfInBounds_toArray, List.set_cons_zero, List.set_cons_succ]
      refine' take_at (i := 12) (d := 48) (v := _) rfl rfl (by kernel_rfl) (by kernel_rfl) (by kernel_rfl) (fun _ _ _ h => h) (Or.inl ⟨by rfl, ?h12⟩) (HS1.out) ?_
      case h12 =>
        intro w hSw
        obtain ⟨s1, s2, s3⟩ := hSw
        go_simp
        with_reducible rfl
      simp only [List.setIfInBounds_toArray, List.set_cons_zero, List.set_cons_succ]
      refine' take_at (i := 13) (d := 49) (v := _) rfl rfl (by kernel_rfl) (by kernel_rfl) (by kernel_rfl) (fun _ _ _ h => h) (Or.inl ⟨by rfl, ?h13⟩) (HS1.out) ?_
      case h13 =>
        intro w hSw
        obtain ⟨s1, s2, s3⟩ := hSw
        go_simp
        with_reducible rfl
      simp only [List.setIfInBounds_toArray, List.set_cons_zero, List.set_cons_succ]
      refine' take_at (i := 14) (d := 50) (v := _) rfl rfl (by kernel_rfl) (by kernel_rfl) (by kernel_rfl) (fun _ _ _ h => h) (Or.inl ⟨by rfl, ?h14⟩) (HS1.out) ?_
      case h14 =>
        intro w hSw
        obtain ⟨s1, s2, s3⟩ := hSw
        go_simp
        with_reducible rfl
      simp only [List.setIfInBounds_toArray, List.set_cons_zero, List.set_cons_succ]
      refine' take_at (i := 15) (d := 51) (v := _) rfl rfl (by kernel_rfl) (by kernel_rfl) (by kernel_rfl) (fun _ _ _ h => h) (Or.inl ⟨by rfl, ?h15⟩) (HS1.out) ?_
      case h15 =>
        intro w hSw
        obtain ⟨s1, s2, s3⟩ := hSw
        go_simp
        with_reducible rfl
      simp only [List.setIfInBounds_toArray, List.set_cons_zero, List.set_cons_succ]
      refine wpAnyH_ready (rs := [16]) (by kernel_rfl) (by simp) ?_
      refine AllReadyH.cons (o := _) rfl (fun KQ hKQ => ?_) AllReadyH.nil
      go_simp
      refine (HMD.out.arm HS.out.1 HS.out.2.1 x.sess x.p x.kind HX.out.2.p (Hq.arm (Hq.arms ⟨1000, []⟩ (xs.take k)) x.wt).1 _ rfl).mono ?_
      rintro e w2 ⟨F2, rfl, hM, hmv⟩
      have M2 : Hid (Mine13 LW W w2 q (Hq.arms ⟨1000, []⟩ (xs.take (k + 1))) F2) := by
        have h : Mine13 LW W w2 q (Hq.arm (Hq.arms ⟨1000, []⟩ (xs.take k)) x.wt).2 F2 := hM
        rw [HNX.out] at h
        exact h
      have HS2 : Hid ((fun w' : World => w'.cell? ⟨g, o + k * 4 + 1, none⟩ = some (.int .i64 x.sess) ∧ w'.cell? ⟨g, o + k * 4 + 2, none⟩ = some (.string x.p) ∧ w'.cell? ⟨g, o + k * 4 + 3, none⟩ = some (.int .i64 x.kind)) w2) := by
        obtain ⟨g', o', e, d0, d1, d2, d3⟩ := (HV.out.1.below M2.out.below).at HX.out.1
        simp only [Option.some.injEq, Addr.mk.injEq, and_true] at e
        obtain ⟨rfl, rfl⟩ := e
        exact ⟨d1, d2, d3⟩
      clear hM hmv
      refine hKQ.out _ _ HS2.out (fun _ => ?_)
      clear hKQ KQ
      refine wpAnyH_done (by kernel_rfl) ?_ _
      clear HS1 HS2 HMD
      go_wp2
      go_roundw
      case rel => exact ⟨k + 1, by omega, by go_num, F2, M2.out⟩
      case measure => simp [intOf]; omega
    · have hlt' : ¬ (k : Int) < (N : Int) := by omega
      obtain rfl : k = N := by omega
      obtain ⟨s, hs⟩ : ∃ s, s = Hq.arms ⟨1000, []⟩ xs := ⟨_, rfl⟩
      have HSS : Hid (s = Hq.arms ⟨1000, []⟩ xs) := hs
      have M2 : Hid (Mine13 LW W wr q s F) := by
        have h := HM.out
        rw [List.take_of_length_le (by rw [← HV.out.2]; exact Nat.le_refl _), ← hs] at h
        exact h
      obtain ⟨A, hA⟩ : ∃ A, A = s.l.length := ⟨_, rfl⟩
      obtain ⟨d, hd⟩ : ∃ d, d = Hq.drop s n := ⟨_, rfl⟩
      obtain ⟨D, hD⟩ : ∃ D, D = d.l.length := ⟨_, rfl⟩
      have HD : Hid (A = s.l.length ∧ d = Hq.drop s n ∧ D = d.l.length) := ⟨hA, hd, hD⟩
      have hA1 : A ≤ 1000 := by rw [hA]; exact M2.out.fine.len
      have hDA : D ≤ A := by
        rw [hD, hA, hd]
        exact List.length_filter_le _ _
      have HF : Hid (Hq.Fine d ∧ Hq.drop d n = d ∧ (∀ x ∈ d.l, x.sess ≠ n ∧ ∃ a ∈ xs, x.path = a.p)) := by
        have h1 : Hq.Fine d := by rw [hd]; exact M2.out.fine.drop n
        have h2 : ∀ x ∈ d.l, x.sess ≠ n := fun x hx => by
          rw [hd] at hx
          have := (List.mem_filter.1 hx).2
          simpa using this
        refine ⟨h1, ?_, fun x hx => ⟨h2 x hx, ?_⟩⟩
        · have e : d.l.filter (fun x => !decide (x.sess = n)) = d.l := List.filter_eq_self.2 (fun x hx => by simp [h2 x hx])
          unfold Hq.drop
          rw [e]
        · rw [hd] at hx
          have hx2 := (List.mem_filter.1 hx).1
          rw [hs] at hx2
          rcases Hq.arms_mem hx2 with h | h
          · cases h
          · exact h
      clear hs hA hd hD HM hk
      go_wp2_with fail
      refine (M2.out.len HS.out.1 A HD.out.1.symm).mono ?_
      rintro e w3 ⟨rfl, hM, hb3⟩
      have M3 : Hid (Mine13 LW W w3 q s F) := hM
      clear hM hb3 M2
      go_wp2_with fail
      refine (M3.out.drop HS.out.1 n ((A : Int) - (D : Int)) d HD.out.2.1.symm (by rw [HD.out.1, HD.out.2.2])).mono ?_
      rintro e w4 ⟨F4, rfl, hM, hmv⟩
      have M4 : Hid (Mine13 LW W w4 q d F4) := hM
      clear hM hmv M3
      go_wp2_with fail
      refine (M4.out.len HS.out.1 D HD.out.2.2.symm).mono ?_
      rintro e w5 ⟨rfl, hM, hb3⟩
      have M5 : Hid (Mine13 LW W w5 q d F4) := hM
      clear hM hb3 M4
      have hw1 : IntKind.wrap .i64 ((A : Int) - ((A : Int) - (D : Int))) = (D : Int) := by rw [IntKind.wrap_i64]; omega
      have hne : ((D : Int) != (D : Int)) = false := by simp
      go_wp2_with fail
      refine (M5.out.drop HS.out.1 n 0 d HF.out.2.1 (by omega)).mono ?_
      rintro e w6 ⟨F6, rfl, hM, hmv⟩
      have M6 : Hid (Mine13 LW W w6 q d F6) := hM
      clear hM hmv M5
      go_wp2
      go_loopw [10, 11] (fun t i wx => ∃ (k2 : Nat) (T : Nat), k2 ≤ k ∧ i = .int .i64 (k2 : Int) ∧ t = .int .i64 (T : Int) ∧ ∃ F, Mine13 LW W wx q (Hq.fires d (xs.take k2)) F ∧ T + (Hq.fires d (xs.take k2)).l.length = D) (fun _ i _ => k - (intOf i).toNat)
      case atStart => exact ⟨0, 0, Nat.zero_le _, rfl, rfl, F6, M6.out, by rw [HD.out.2.2, Nat.zero_add]; rfl⟩
      case round =>
        obtain ⟨k2, T, hk2, rfl, rfl, F7, hM, hT⟩ := hrel
        have HM : Hid (Mine13 LW W wr q (Hq.fires d (xs.take k2)) F7 ∧ T + (Hq.fires d (xs.take k2)).l.length = D) := ⟨hM, hT⟩
        have hTD : T ≤ D := by omega
        clear hM hT M6
        by_cases hlt : k2 < k
        · have hlt' : (k2 : Int) < (k : Int) := by omega
          have hk0 : (0 : Int) ≤ (k2 : Int) := by omega
          have hwk : IntKind.wrap .i64 ((k2 : Int) + 1) = (k2 : Int) + 1 := by rw [IntKind.wrap_i64]; omega
          obtain ⟨x, hx⟩ : ∃ x, xs[k2]? = some x := ⟨xs[k2]'(by rw [← HV.out.2]; exact hlt), List.getElem?_eq_getElem _⟩
          have HX : Hid (xs[k2]? = some x ∧ AcOk13 x) := ⟨hx, HS.out.2.2 x (List.mem_of_getElem? hx)⟩
          obtain ⟨g, o, rfl, c0, c1, c2, c3⟩ := (HV.out.1.below HM.out.1.below).at hx
          clear hx c0 c1 c3
          obtain ⟨es, hes⟩ : ∃ es, es = Hq.events (Hq.fires d (xs.take k2)) x.p 2 := ⟨_, rfl⟩
          obtain ⟨E, hE⟩ : ∃ E, E = es.length := ⟨_, rfl⟩
          have HNX : Hid (Hq.fired (Hq.fires d (xs.take k2)) x.p 2 = Hq.fires d (xs.take (k2 + 1)) ∧ E + (Hq.fires d (xs.take (k2 + 1))).l.length = (Hq.fires d (xs.take k2)).l.length ∧ es = Hq.events (Hq.fires d (xs.take k2)) x.p 2 ∧ E = es.length ∧ ∀ e ∈ es, e.sess ≠ n) := by
            have e : Hq.fired (Hq.fires d (xs.take k2)) x.p 2 = Hq.fires d (xs.take (k2 + 1)) := by rw [List.take_add_one, HX.out.1, ← Hq.fires_snoc]; rfl
            refine ⟨e, ?_, hes, hE, fun y hy => ?_⟩
            · rw [← e, hE, hes]
              exact Hq.fired_len _ _ _
            · rw [hes] at hy
              obtain ⟨z, hz, ez⟩ := Hq.events_mem hy
              rw [ez]
              exact (HF.out.2.2 z (Hq.fires_mem HF.out.1.ok hz).1).1
          have hE1 : T + E ≤ D := by have h1 := HNX.out.2.1; have h2 := HM.out.2; omega
          clear hes hE
          go_wp2_with fail
          refine (HM.out.1.fire HS.out.1 HS.out.2.1 x.p 2 HX.out.2.p es _ HNX.out.2.2.1.symm rfl).mono ?_
          rintro e w8 ⟨F8, v8, rfl, hev, hof, hM, hmv⟩
          have M8 : Hid (Mine13 LW W w8 q (Hq.fires d (xs.take (k2 + 1))) F8 ∧ Ev w8 v8 es) := by
            have h : Mine13 LW W w8 q (Hq.fired (Hq.fires d (xs.take k2)) x.p 2) F8 := hM
            rw [HNX.out.1] at h
            exact ⟨h, hev⟩
          obtain ⟨a8, n8, c8, rfl, hn8, j1, j2, j3⟩ := hev
          have hn8b : E = n8 := by rw [HNX.out.2.2.2.1, hn8]
          clear hn8 j1 j2 j3 hM hmv hof c2
          subst hn8b
          go_wp2
          go_loopw [13] (fun i wx => ∃ z : Nat, z ≤ E ∧ i = .int .i64 (z : Int) ∧ wx = w8) (fun i _ => E - (intOf i).toNat)
          case atStart => exact ⟨0, Nat.zero_le _, rfl, rfl⟩
          case round =>
            obtain ⟨z, hz, rfl, rfl⟩ := hrel
            by_cases hzl : z < E
            · have hzl' : (z : Int) < (E : Int) := by omega
              have hz0 : (0 : Int) ≤ (z : Int) := by omega
              have hwz : IntKind.wrap .i64 ((z : Int) + 1) = (z : Int) + 1 := by rw [IntKind.wrap_i64]; omega
              obtain ⟨y, hy⟩ : ∃ y, es[z]? = some y := ⟨es[z]'(by rw [← HNX.out.2.2.2.1]; exact hzl), List.getElem?_eq_getElem _⟩
              have hyn : (y.sess == n) = false := by
                have h := HNX.out.2.2.2.2 y (List.mem_of_getElem? hy)
                simpa using h
              obtain ⟨g8, b8, c8', e8, hcs⟩ : ∃ g b c, Value.slice a8 E c8 = .slice (some ⟨g, b, none⟩) E c ∧ ∀ (j : Nat) x, es[j]? = some x → wr.cell? ⟨g, b + j * 3, none⟩ = some (.int .i64 x.sess) := by
                obtain ⟨g, b, c, e, _, h⟩ := M8.out.2.at (by rw [← HNX.out.2.2.2.1]; omega)
                rw [← HNX.out.2.2.2.1] at e
                exact ⟨g, b, c, e, fun j x hx => (h j x hx).1⟩
              simp only [Value.slice.injEq, true_and] at e8
              obtain ⟨rfl, rfl⟩ := e8
              have cy := hcs z y hy
              clear hcs hy
              go_wp2
              go_roundw
              case rel => exact ⟨z + 1, by omega, by go_num, trivial⟩
              case measure => simp [intOf]; omega
            · have hzl' : ¬ (z : Int) < (E : Int) := by omega
              have hwt : IntKind.wrap .i64 ((T : Int) + (E : Int)) = ((T + E : Nat) : Int) := by rw [IntKind.wrap_i64]; omega
              go_wp2
              go_roundw
              case rel => exact ⟨k2 + 1, T + E, by omega, by go_num, rfl, F8, M8.out.1, by have h1 := HNX.out.2.1; have h2 := HM.out.2; omega⟩
              case measure => simp [intOf]; omega
        · have hlt' : ¬ (k2 : Int) < (k : Int) := by omega
          obtain rfl : k2 = k := by omega
          have HZ : Hid ((Hq.fires d (xs.take k2)).l.length = 0 ∧ T = D) := by
            have h0 : (Hq.fires d (xs.take k2)).l = [] := by
              rw [List.take_of_length_le (by rw [← HV.out.2]; exact Nat.le_refl _)]
              refine List.eq_nil_iff_forall_not_mem.2 fun y hy => ?_
              have h1 := Hq.fires_mem HF.out.1.ok hy
              obtain ⟨a, ha, e⟩ := (HF.out.2.2 y h1.1).2
              exact h1.2 a ha e
            have h1 := HM.out.2
            rw [h0] at h1 ⊢
            exact ⟨rfl, by simpa using h1⟩
          have hTe := HZ.out.2
          clear hTD
          subst hTe
          go_wp2_with fail
          refine (HM.out.1.len HS.out.1 0 HZ.out.1).mono ?_
          rintro e w8 ⟨rfl, hM, hb3⟩
          have M8 : Hid (Mine13 LW W w8 q (Hq.fires d (xs.take k2)) F7) := hM
          clear hM hb3
          have hw2 : IntKind.wrap .i64 ((T : Int) + ((0 : Nat) : Int)) = (T : Int) := by rw [IntKind.wrap_i64]; omega
          go_wp2_with fail
          refine (M8.out.len HS.out.1 0 HZ.out.1).mono ?_
          rintro e w9 ⟨rfl, hM, hb3⟩
          have M9 : Hid (Mine13 LW W w9 q (Hq.fires d (xs.take k2)) F7) := hM
          clear hM hb3
          go_wp2
          go_ret
          exact ⟨rfl, M9.out.below⟩
end Go.Proofs.YtjejpkognjedpaaDoor
