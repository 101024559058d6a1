/- LockFrees' walk. -/
import Derived.Test.YtadgjinlblloiaaDoorLAwake17
import Derived.Test.YtadgjinlblloiaaDoorActs17
namespace Go.Proofs.YtadgjinlblloiaaDoor
open Go.RowKit

set_option maxRecDepth 20000 in
set_option maxHeartbeats 8000000 in
theorem frees_any17 {LS : Rep17} (S : Specs17 LS) (v u : Value) (xs : List Lk.Ac) (who : Int) (ps : List ByteArray) (W : World) (hS : Pa.Std W) (hv : Acl17 W v xs) (hu : Ss W u ps) (hl : xs.length ≤ maxLen) (hl2 : ps.length ≤ maxLen) (hok : ∀ x ∈ xs, AcOk17 x) (hw : I64 who) (hp : ∀ p ∈ ps, p.size ≤ maxLen) :
    Calls Tryd.prog 6 #[v, .int .i64 who, u] W fun e w' => e = .returned (.bool true) ∧ Below W.heap.size W w' := by
  have HS : Hid (Specs17 LS ∧ Pa.Std W ∧ (∀ x ∈ xs, AcOk17 x) ∧ I64 who ∧ (∀ p ∈ ps, p.size ≤ maxLen)) := ⟨S, hS, hok, hw, hp⟩
  obtain ⟨av, N, c, rfl, hN, hj⟩ := hv
  have HV : Hid (Acl17 W (.slice av N c) xs ∧ N = xs.length) := ⟨⟨av, N, c, rfl, hN, hj⟩, hN⟩
  obtain ⟨au, M, cu, rfl, hM, hk⟩ := hu
  have HU : Hid (Ss W (.slice au M cu) ps ∧ M = ps.length) := ⟨⟨au, M, cu, rfl, hM, hk⟩, hM⟩
  have hN63 : N ≤ 9223372036854775807 := by unfold maxLen at hl; omega
  have hM63 : M ≤ 9223372036854775807 := by unfold maxLen at hl2; omega
  clear S hS hok hw hp hl hl2 hN hj hM hk
  go_enter Tryd.func6, Tryd.ntmps6
  go_wp2_with fail
  refine (awake_any17 HS.out.1 W HS.out.2.1).mono ?_
  rintro e w0 ⟨rfl, hb0⟩
  have H0 : Hid (Below W.heap.size W w0) := hb0
  clear hb0
  by_cases a1 : (20 : Int) < (N : Int)
  · go_wp2
    go_ret
    exact ⟨rfl, H0.out⟩
  by_cases a2 : (6 : Int) < (M : Int)
  · go_wp2
    go_ret
    exact ⟨rfl, H0.out⟩
  have HA : Hid (N ≤ 20 ∧ M ≤ 6) := ⟨by omega, by omega⟩
  go_wp2_with fail
  refine (mine17_new HS.out.1 H0.out).mono ?_
  rintro e w1 ⟨q, F1, rfl, hM, hF, hb⟩
  have M1 : Hid (Mine17 LS W w1 q 0 [] F1) := hM
  clear hM hF hb H0 a1 a2
  go_wp2
  go_loopw [8] (fun i wx => ∃ (k : Nat) (s : Lk.St) (F : Nat → Prop), k ≤ N ∧ i = .int .i64 (k : Int) ∧ Mine17 LS W wx q (10 * k) s F) (fun i _ => N - (intOf i).toNat)
  case atStart => exact ⟨0, _, F1, Nat.zero_le _, rfl, M1.out⟩
  case round =>
    obtain ⟨k, s, F, hk, rfl, hM⟩ := hrel
    have H3 : Hid (Mine17 LS W wr q (10 * k) s F) := hM
    clear hM M1
    by_cases hlt : k < N
    · have hlt' : (k : Int) < (N : Int) := by omega
      have hk0 : (0 : Int) ≤ (k : Int) := by omega
      have hwk : IntKind.wrap .i64 ((k : Int) + 1) = (k : Int) + 1 := by rw [IntKind.wrap_i64]; omega
      obtain ⟨x, hx⟩ : ∃ x, xs[k]? = some x := ⟨xs[k]'(by rw [← HV.out.2]; exact hlt), List.getElem?_eq_getElem _⟩
      obtain ⟨g, o, b, L, cc, rfl, hL, hss, hcl⟩ := HV.out.1.at hx
      have HX : Hid (AcOk17 x ∧ L = x.ps.length ∧ Tx17 W (.slice b L cc) x.ps ∧ ∀ w, Below W.heap.size W w → w.cell? ⟨g, o + k * 3, none⟩ = some (.int .i64 x.op) ∧ w.cell? ⟨g, o + k * 3 + 1, none⟩ = some (.int .i64 x.who) ∧ w.cell? ⟨g, o + k * 3 + 2, none⟩ = some (.slice b L cc)) := ⟨HS.out.2.2.1 x (List.mem_of_getElem? hx), hL, hss, hcl⟩
      obtain ⟨c0, c1, c2⟩ := hcl wr H3.out.below
      have hL63 : L ≤ 9223372036854775807 := by have h1 := HX.out.1.len; unfold maxLen at h1; omega
      clear hx hL hss hcl
      by_cases ax : (6 : Int) < (L : Int)
      · go_wp2
        go_ret
        exact ⟨rfl, H3.out.below⟩
      have HLL : Hid (x.ps.length ≤ 10) := (show x.ps.length ≤ 10 by have := HX.out.2.1; omega)
      go_upto_region 11 with fail
      clear ax
      obtain ⟨ta, tb, s6, hz⟩ : ∃ ta tb s6, Lk.take s x.who x.ps = (ta, tb, s6) := ⟨_, _, _, rfl⟩
      have HT : Hid (Lk.take s x.who x.ps = (ta, tb, s6)) := hz
      refine wp_region_held_drew (S := fun w' => Below W.heap.size W w') (by kernel_rfl) H3.out.below.drew (fun _ => ?_)
      have H4 : Hid (Mine17 LS W wr.drew q (10 * k) s F) := H3.out.later HS.out.1 (Below.refl _ _).drew
      clear H3 c0 c1 c2 hz
      generalize wr.drew = w4 at *
      refine' take_at (i := 0) (d := 40) (v := _) rfl rfl (by kernel_rfl) (by kernel_rfl) (by kernel_rfl) (fun _ _ _ h => h) (Or.inl ⟨by rfl, ?h0⟩) (H4.out.below) ?_
      case h0 =>
        intro w hSw
        obtain ⟨t0, t1, t2⟩ := HX.out.2.2.2 w hSw
        go_simp
        with_reducible rfl
      simp only [List.setIfInBounds_toArray, List.set_cons_zero, List.set_cons_succ]
      refine' take_at (i := 1) (d := 41) (v := _) rfl rfl (by kernel_rfl) (by kernel_rfl) (by kernel_rfl) (fun _ _ _ h => h) (Or.inl ⟨by rfl, ?h1⟩) (H4.out.below) ?_
      case h1 =>
        intro w hSw
        obtain ⟨t0, t1, t2⟩ := HX.out.2.2.2 w hSw
        go_simp
        with_reducible rfl
      simp only [List.setIfInBounds_toArray, List.set_cons_zero, List.set_cons_succ]
      refine' take_at (i := 2) (d := 42) (v := _) rfl rfl (by kernel_rfl) (by kernel_rfl) (by kernel_rfl) (fun _ _ _ h => h) (Or.inl ⟨by rfl, ?h2⟩) (H4.out.below) ?_
      case h2 =>
        intro w hSw
        obtain ⟨t0, t1, t2⟩ := HX.out.2.2.2 w hSw
        go_simp
        with_reducible rfl
      simp only [List.setIfInBounds_toArray, List.set_cons_zero, List.set_cons_succ]
      refine' take_at (i := 3) (d := 43) (v := _) rfl rfl (by kernel_rfl) (by kernel_rfl) (by kernel_rfl) (fun _ _ _ h => h) (Or.inl ⟨by rfl, ?h3⟩) (H4.out.below) ?_
      case h3 =>
        intro w hSw
        obtain ⟨t0, t1, t2⟩ := HX.out.2.2.2 w hSw
        go_simp
        with_reducible rfl
      simp only [List.setIfInBounds_toArray, List.set_cons_zero, List.set_cons_succ]
      refine' take_at (i := 4) (d := 44) (v := _) rfl rfl (by kernel_rfl) (by kernel_rfl) (by kernel_rfl) (fun _ _ _ h => h) (Or.inl ⟨by rfl, ?h4⟩) (H4.out.below) ?_
      case h4 =>
        intro w hSw
        obtain ⟨t0, t1, t2⟩ := HX.out.2.2.2 w hSw
        go_simp
        with_reducible rfl
      simp only [List.setIfInBounds_toArray, List.set_cons_zero, List.set_cons_succ]
      refine' take_at (i := 5) (d := 45) (v := _) rfl rfl (by kernel_rfl) (by kernel_rfl) (by kernel_rfl) (fun _ _ _ h => h) (Or.inl ⟨by rfl, ?h5⟩) (H4.out.below) ?_
      case h5 =>
        intro w hSw
        obtain ⟨t0, t1, t2⟩ := HX.out.2.2.2 w hSw
        go_simp
        with_reducible rfl
      simp only [List.setIfInBounds_toArray, List.set_cons_zero, List.set_cons_succ]
      refine' take_at (i := 6) (d := 46) (v := _) rfl rfl (by kernel_rfl) (by kernel_rfl) (by kernel_rfl) (fun _ _ _ h => h) (Or.inl ⟨by rfl, ?h6⟩) (H4.out.below) ?_
      case h6 =>
        intro w hSw
        obtain ⟨t0, t1, t2⟩ := HX.out.2.2.2 w hSw
        go_simp
        with_reducible rfl
      simp only [List.setIfInBounds_toArray, List.set_cons_zero, List.set_cons_succ]
      refine' take_at (i := 7) (d := 47) (v := _) rfl rfl (by kernel_rfl) (by kernel_rfl) (by kernel_rfl) (fun _ _ _ h => h) (Or.inl ⟨by rfl, ?h7⟩) (H4.out.below) ?_
      case h7 =>
        intro w hSw
        obtain ⟨t0, t1, t2⟩ := HX.out.2.2.2 w hSw
        go_simp
        with_reducible rfl
      simp only [List.setIfInBounds_toArray, List.set_cons_zero, List.set_cons_succ]
      refine' take_at (i := 8) (d := 48) (v := _) rfl rfl (by kernel_rfl) (by kernel_rfl) (by kernel_rfl) (fun _ _ _ h => h) (Or.inl ⟨by rfl, ?h8⟩) (H4.out.below) ?_
      case h8 =>
        intro w hSw
        obtain ⟨t0, t1, t2⟩ := HX.out.2.2.2 w hSw
        go_simp
        with_reducible rfl
      simp only [List.setIfInBounds_toArray, List.set_cons_zero, List.set_cons_succ]
      refine' take_at (i := 9) (d := 49) (v := _) rfl rfl (by kernel_rfl) (by kernel_rfl) (by kernel_rfl) (fun _ _ _ h => h) (Or.inl ⟨by rfl, ?h9⟩) (H4.out.below) ?_
      case h9 =>
        intro w hSw
        obtain ⟨t0, t1, t2⟩ := HX.out.2.2.2 w hSw
        go_simp
        with_reducible rfl
      simp only [List.setIfInBounds_toArray, List.set_cons_zero, List.set_cons_succ]
      refine' take_at (i := 10) (d := 50) (v := _) rfl rfl (by kernel_rfl) (by kernel_rfl) (by kernel_rfl) (fun _ _ _ h => h) (Or.inl ⟨by rfl, ?h10⟩) (H4.out.below) ?_
      case h10 =>
        intro w hSw
        obtain ⟨t0, t1, t2⟩ := HX.out.2.2.2 w hSw
        go_simp
        with_reducible rfl
      simp only [List.setIfInBounds_toArray, List.set_cons_zero, List.set_cons_succ]
      refine wpAnyH_ready (rs := [11]) (by kernel_rfl) (by simp) ?_
      refine AllReadyH.cons (o := _) rfl (fun KQ hKQ => ?_) AllReadyH.nil
      go_simp
      refine (H4.out.take HS.out.1 HS.out.2.1 (by have := HA.out.1; omega) x.who HX.out.1.who _ x.ps (HX.out.2.2.1.1.below H4.out.below) HLL.out HX.out.1.ps (fun i hi hne e => by have := HX.out.2.2.1.1.lt17 i hi hne; have := H4.out.hi i e; omega) ta tb s6 HT.out).mono ?_
      rintro e w5 ⟨F5, rfl, hM, hmv⟩
      have H5 : Hid (Mine17 LS W w5 q (10 * (k + 1)) s6 F5) := hM.mono (by omega)
      clear hM hmv H4
      refine hKQ.out _ _ H5.out.below (fun _ => ?_)
      clear hKQ KQ
      refine wpAnyH_done (by kernel_rfl) ?_ _
      go_wp2
      go_roundw
      case rel => exact ⟨k + 1, s6, F5, by omega, by go_num, H5.out⟩
      case measure => simp [intOf]; omega
    · have hlt' : ¬ (k : Int) < (N : Int) := by omega
      have HKM : Hid (10 * k ≤ 1000) := (show 10 * k ≤ 1000 by have := HA.out.1; omega)
      obtain ⟨n, hn⟩ : ∃ n : Int, n = (s.length : Int) := ⟨_, rfl⟩
      obtain ⟨f, hf⟩ : ∃ f : Int, f = Lk.free s who := ⟨_, rfl⟩
      obtain ⟨s2, hs2⟩ : ∃ s2, s2 = Lk.rest s who := ⟨_, rfl⟩
      obtain ⟨d, hd⟩ : ∃ d : Int, d = (s2.length : Int) := ⟨_, rfl⟩
      have HD : Hid ((s.length : Int) = n ∧ Lk.free s who = f ∧ Lk.rest s who = s2 ∧ (s2.length : Int) = d ∧ Lk.free s2 who = 0 ∧ Lk.rest s2 who = s2) := ⟨hn.symm, hf.symm, hs2.symm, hd.symm, by rw [hs2]; exact Lk.free_rest _ _, by rw [hs2]; exact Lk.rest_rest _ _⟩
      have hwr : IntKind.wrap .i64 (n - f) = d := by
        have h1 := H3.out.fine.len
        have h2 := HKM.out
        have h3 := Lk.free_nonneg s who
        have h4 : d = n - f := by
          rw [hd, hn, hf, hs2]
          unfold Lk.free
          omega
        rw [IntKind.wrap_i64, h4, hn, hf]
        omega
      have hdn : (d != d) = false := by simp
      have hde : (d == d) = true := by simp
      clear hn hf hs2 hd
      go_wp2_with fail
      refine (H3.out.len HS.out.1 HKM.out n HD.out.1).mono ?_
      rintro e w4 ⟨rfl, hM, hb⟩
      have H4 : Hid (Mine17 LS W w4 q (10 * k) s F) := hM
      clear hM hb H3
      go_wp2_with fail
      refine (H4.out.free HS.out.1 HS.out.2.1 HKM.out who HS.out.2.2.2.1 f s2 HD.out.2.1 HD.out.2.2.1).mono ?_
      rintro e w5 ⟨F5, rfl, hM, hmv⟩
      have H5 : Hid (Mine17 LS W w5 q (10 * k) s2 F5) := hM
      clear hM hmv H4
      go_wp2_with fail
      refine (H5.out.len HS.out.1 HKM.out d HD.out.2.2.2.1).mono ?_
      rintro e w6 ⟨rfl, hM, hb⟩
      have H6 : Hid (Mine17 LS W w6 q (10 * k) s2 F5) := hM
      clear hM hb H5
      go_wp2_with fail
      refine (H6.out.free HS.out.1 HS.out.2.1 HKM.out who HS.out.2.2.2.1 0 s2 HD.out.2.2.2.2.1 HD.out.2.2.2.2.2).mono ?_
      rintro e w7 ⟨F7, rfl, hM, hmv⟩
      have H7 : Hid (Mine17 LS W w7 q (10 * k) s2 F7) := hM
      clear hM hmv H6
      cases hft : Lk.faulty s2 who ps with
      | some bad =>
        have HF : Hid (Lk.take s2 who ps = (bad, false, s2) ∧ 0 < M) := ⟨Lk.take_no hft, by
          have h1 := List.length_pos_of_mem (Lk.faulty_some hft)
          have := HU.out.2
          omega⟩
        have hM0 : (0 : Int) < (M : Int) := by have := HF.out.2; omega
        clear hft
        go_wp2_with fail
        refine (H7.out.take HS.out.1 HS.out.2.1 HKM.out who HS.out.2.2.2.1 _ ps (HU.out.1.below H7.out.below) (by have := HU.out.2; have := HA.out.2; omega) HS.out.2.2.2.2 (fun i hi hne e => by have := HU.out.1.lt17 i hi hne; have := H7.out.hi i e; omega) bad false s2 HF.out.1).mono ?_
        rintro e w8 ⟨F8, rfl, hM, hmv⟩
        have H8 : Hid (Mine17 LS W w8 q (10 * k + 10) s2 F8) := hM
        clear hM hmv H7
        go_wp2_with fail
        refine (H8.out.len HS.out.1 (by have := HA.out.1; omega) d HD.out.2.2.2.1).mono ?_
        rintro e w9 ⟨rfl, hM, hb⟩
        have H9 : Hid (Mine17 LS W w9 q (10 * k + 10) s2 F8) := hM
        clear hM hb H8
        go_wp2
        go_ret
        exact ⟨rfl, H9.out.below⟩
      | none =>
        obtain ⟨s3, hs3⟩ : ∃ s3, s3 = Lk.adds who s2 ps := ⟨_, rfl⟩
        have HF : Hid (Lk.take s2 who ps = (⟨#[]⟩, true, s3) ∧ ∀ p ∈ ps, Lk.held s3 p = some who) := ⟨by rw [hs3]; exact Lk.take_yes hft, by rw [hs3]; exact Lk.adds_all (Lk.faulty_none hft).1 (Lk.faulty_none hft).2⟩
        clear hft hs3
        go_wp2_with fail
        refine (H7.out.take HS.out.1 HS.out.2.1 HKM.out who HS.out.2.2.2.1 _ ps (HU.out.1.below H7.out.below) (by have := HU.out.2; have := HA.out.2; omega) HS.out.2.2.2.2 (fun i hi hne e => by have := HU.out.1.lt17 i hi hne; have := H7.out.hi i e; omega) ⟨#[]⟩ true s3 HF.out.1).mono ?_
        rintro e w8 ⟨F8, rfl, hM, hmv⟩
        have H8 : Hid (Mine17 LS W w8 q (10 * k + 10) s3 F8) := hM
        have HK2 : Hid (10 * k + 10 ≤ 1000) := (show 10 * k + 10 ≤ 1000 by have := HA.out.1; omega)
        clear hM hmv H7 hwr hdn hde HD
        go_wp2
        go_loopw [13] (fun i wx => ∃ j : Nat, j ≤ M ∧ i = .int .i64 (j : Int) ∧ Mine17 LS W wx q (10 * k + 10) s3 F8) (fun i _ => M - (intOf i).toNat)
        case atStart => exact ⟨0, Nat.zero_le _, rfl, H8.out⟩
        case round =>
          obtain ⟨j, hj, rfl, hM⟩ := hrel
          have H9 : Hid (Mine17 LS W wr q (10 * k + 10) s3 F8) := hM
          clear hM H8
          by_cases hlj : j < M
          · have hlj' : (j : Int) < (M : Int) := by omega
            have hj0 : (0 : Int) ≤ (j : Int) := by omega
            have hwj : IntKind.wrap .i64 ((j : Int) + 1) = (j : Int) + 1 := by rw [IntKind.wrap_i64]; omega
            obtain ⟨p, hp⟩ : ∃ p, ps[j]? = some p := ⟨ps[j]'(by rw [← HU.out.2]; exact hlj), List.getElem?_eq_getElem _⟩
            obtain ⟨g, o, rfl, hcl⟩ := HU.out.1.at17 hp
            have HP : Hid (p.size ≤ maxLen ∧ Lk.held s3 p = some who ∧ Lk.blocks s3 who p = false ∧ ∀ w, Below W.heap.size W w → w.cell? ⟨g, o + j, none⟩ = some (.string p)) := ⟨HS.out.2.2.2.2 p (List.mem_of_getElem? hp), HF.out.2 p (List.mem_of_getElem? hp), Lk.held_free H9.out.fine (HF.out.2 p (List.mem_of_getElem? hp)), hcl⟩
            have c0 := hcl wr H9.out.below
            have hww : (who != who) = false := by simp
            clear hp hcl
            go_wp2_with fail
            refine (H9.out.held HS.out.1 HK2.out p HP.out.1 (some who) HP.out.2.1).mono ?_
            rintro e w10 ⟨rfl, hM, hb⟩
            simp only [Option.getD_some, Option.isSome_some]
            have H10 : Hid (Mine17 LS W w10 q (10 * k + 10) s3 F8) := hM
            clear hM hb H9 c0
            have c0 := HP.out.2.2.2 w10 H10.out.below
            go_wp2_with fail
            refine (H10.out.blocks HS.out.1 HS.out.2.1 HK2.out who HS.out.2.2.2.1 p HP.out.1 false HP.out.2.2.1).mono ?_
            rintro e w11 ⟨rfl, hM, hb⟩
            have H11 : Hid (Mine17 LS W w11 q (10 * k + 10) s3 F8) := hM
            clear hM hb H10 c0
            go_wp2
            go_roundw
            case rel => exact ⟨j + 1, by omega, by go_num, H11.out⟩
            case measure => simp [intOf]; omega
          · have hlj' : ¬ (j : Int) < (M : Int) := by omega
            go_wp2
            go_ret
            exact ⟨rfl, H9.out.below⟩
end Go.Proofs.YtadgjinlblloiaaDoor
