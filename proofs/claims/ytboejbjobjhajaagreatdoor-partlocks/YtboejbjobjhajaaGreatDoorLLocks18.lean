/- PartLocks' walk. -/
import Derived.Test.YtboejbjobjhajaaGreatDoorMn18
namespace Go.Proofs.YtboejbjobjhajaaGreatDoor
open Go.RowKit
theorem row_form18 {w : World} {B n s : Nat} {t : TypeId} {v : Value} {us : List Value} (h : w.ownsRow B t s v n us) : ∃ a c, v = .slice a n c := by
  rcases h.2 with ⟨e, h0⟩ | ⟨g, cap, cur, e, _⟩
  · exact ⟨none, 0, by rw [e, h0]⟩
  · exact ⟨_, _, e⟩
set_option maxRecDepth 20000 in
set_option maxHeartbeats 16000000 in
theorem locksL_any18 {LT : Rep11} {LP : Rep18} (S : Specs18 LT LP) (v : Value) (xs : List Ac18) (W : World) (hS : Pa.Std W) (hv : Acl18 W v xs) (hl : xs.length ≤ maxLen) (hok : ∀ x ∈ xs, AcOk18 x) :
    Calls Tryz.prog 7 #[v] W fun e w' => e = .returned (.bool true) ∧ Below W.heap.size W w' := by
  have HS : Hid (Specs18 LT LP ∧ Pa.Std W ∧ (∀ x ∈ xs, AcOk18 x)) := ⟨S, hS, hok⟩
  obtain ⟨av, N, c, rfl, hN, hj⟩ := hv
  have HV : Hid (Acl18 W (.slice av N c) xs ∧ N = xs.length) := ⟨⟨av, N, c, rfl, hN, hj⟩, hN⟩
  have hN63 : N ≤ 9223372036854775807 := by unfold maxLen at hl; omega
  clear S hS hok hl hN hj
  go_enter Tryz.func7, Tryz.ntmps7
  go_wp2_with fail
  refine (awake_any18 HS.out.1 W HS.out.2.1).mono ?_
  rintro e w0 ⟨rfl, hb0⟩
  have H0 : Hid (Below W.heap.size W w0) := hb0
  clear hb0
  by_cases a1 : (30 : Int) < (N : Int)
  · go_wp2
    go_ret
    exact ⟨rfl, H0.out⟩
  have HA : Hid (N ≤ 30) := (show N ≤ 30 by omega)
  go_wp2_with fail
  refine (mine18_new HS.out.1 60 (by decide) H0.out).mono ?_
  rintro e w1 ⟨q, F1, rfl, hM, hb⟩
  have M1 : Hid (Mine18 LP W w1 q 0 (Pt.new 60) F1) := hM
  clear hM hb H0 a1
  unfold dptr
  go_wp2
  go_loopw [5] (fun i wx => ∃ (k : Nat) (s : Pt.St) (F : Nat → Prop), k ≤ N ∧ i = .int .i64 (k : Int) ∧ Mine18 LP W wx q k s F) (fun i _ => N - (intOf i).toNat)
  case atStart => exact ⟨0, _, F1, Nat.zero_le _, rfl, M1.out⟩
  case round =>
    obtain ⟨k, s, F, hk, rfl, hM⟩ := hrel
    have H3 : Hid (Mine18 LP W wr q k s F) := hM
    clear hM
    by_cases hlt : k < N
    · have hlt' : (k : Int) < (N : Int) := by omega
      have hk0 : (0 : Int) ≤ (k : Int) := by omega
      have hwk : IntKind.wrap .i64 ((k : Int) + 1) = (k : Int) + 1 := by rw [IntKind.wrap_i64]; omega
      obtain ⟨x, hx⟩ : ∃ x, xs[k]? = some x := ⟨xs[k]'(by rw [← HV.out.2]; exact hlt), List.getElem?_eq_getElem _⟩
      obtain ⟨g, o, b, L, cc, rfl, hL, hol, hcl⟩ := HV.out.1.at hx
      obtain ⟨c0, c1, c2, c3, c4⟩ := hcl wr H3.out.below
      have HX : Hid (AcOk18 x ∧ Om12 wr F (.slice b L cc) x.ops) := ⟨HS.out.2.2 x (List.mem_of_getElem? hx), arg18 hol H3.out.below H3.out.hi⟩
      clear hx hL hol hcl
      obtain ⟨op, id, sess, os, yes⟩ := x
      obtain ⟨bx, hbx⟩ : ∃ z, z = wr.heap.size := ⟨_, rfl⟩
      have H4 : Hid (At18 LP W (wr.alloc (.cells #[.int .i64 op, .int .i64 id, .int .i64 sess, .slice b L cc, .bool yes] 50)) q k s F bx ⟨op, id, sess, os, yes⟩ (.slice b L cc)) := by
        have hba := (Below.refl _ wr).alloc (Nat.le_refl _) (.cells #[.int .i64 op, .int .i64 id, .int .i64 sess, .slice b L cc, .bool yes] 50)
        exact ⟨H3.out.later HS.out.1 hba, by rw [hbx]; exact Kept11.made wr F (fun k hk => H3.out.flt HS.out.1 k hk) (ac18 ⟨op, id, sess, os, yes⟩ (.slice b L cc)) _, HX.out.2.later hba⟩
      have HY : Hid (I64 id ∧ I64 sess ∧ os.length ≤ maxLen ∧ ∀ o ∈ os, OFit o) := ⟨HX.out.1.id, HX.out.1.sess, HX.out.1.len, HX.out.1.ops⟩
      go_upto_region 10 with fail
      clear c0 c1 c2 c3 c4 H3 HX M1
      rw [← hbx]
      clear hbx
      generalize (wr.alloc (.cells #[.int .i64 op, .int .i64 id, .int .i64 sess, .slice b L cc, .bool yes] 50)) = w4 at *
      have c3 := H4.out.c3
      go_wp2_with fail
      refine (long_any18 (.slice b L cc) os w4 H4.out.arg.ol HY.out.2.2.1).mono ?_
      rintro e w5 ⟨rfl, hb⟩
      have H5 : Hid (At18 LP W w5 q k s F bx ⟨op, id, sess, os, yes⟩ (.slice b L cc)) := H4.out.later HS.out.1 hb
      clear hb H4 c3
      cases hgr : greatB os with
      | true =>
        clear hgr
        go_wp2
        go_ret
        exact ⟨rfl, H5.out.my.below⟩
      | false =>
      clear hgr
      have c0 := H5.out.c0
      by_cases e0 : op = 0
      · subst e0
        have c1 := H5.out.c1
        have c2 := H5.out.c2
        have c3 := H5.out.c3
        obtain ⟨r, s2, hr⟩ : ∃ r s2, Pt.local_ s sess id os = (r, s2) := ⟨_, _, rfl⟩
        have HR : Hid (Pt.local_ s sess id os = (r, s2)) := hr
        clear hr
        go_wp2_with fail
        clear c0 c1 c2 c3
        refine (H5.out.my.loc HS.out.1 HS.out.2.1 (by have := HA.out; omega) sess id (.slice b L cc) os H5.out.arg HY.out.2.2.2 HY.out.2.2.1 HY.out.2.1 r s2 HR.out).mono ?_
        rintro e w8 ⟨F8, u, rfl, hrn, hM, hmv⟩
        have H8 : Hid (Mine18 LP W w8 q (k + 1) s2 F8) := hM
        clear hrn hM hmv H5
        unfold rpv
        obtain ⟨zs, hz⟩ : ∃ zs, Pt.waiting s2 = zs := ⟨_, rfl⟩
        have HW : Hid (Pt.waiting s2 = zs) := hz
        clear hz
        go_wp2_with fail
        refine (H8.out.waiting HS.out.1 (by have := HA.out; omega) zs HW.out).mono ?_
        rintro e w9 ⟨vz, rfl, hr, hM, hb⟩
        have H9 : Hid (Mine18 LP W w9 q (k + 1) s2 F8) := hM
        obtain ⟨za, zc, rfl⟩ := row_form18 hr
        obtain ⟨M, hM⟩ : ∃ M, M = zs.length := ⟨_, rfl⟩
        rw [← hM]
        have HM : Hid (M = zs.length) := hM
        clear hr hM hb H8
        by_cases h0 : M = 0
        · have HI : Hid (s2.lk.length = 0 ∧ Pt.wanted s2 = 0) := by
            have h1 := Pt.waiting_len s2
            rw [HW.out, ← HM.out, h0] at h1
            have h2 := Pt.idle_all H9.out.fit (List.length_eq_zero_iff.1 h1.symm)
            exact ⟨h2.1, h2.2.1⟩
          subst h0
          go_wp2_with fail
          refine (H9.out.locks HS.out.1 (by have := HA.out; omega) 0 (by rw [HI.out.1]; rfl)).mono ?_
          rintro e w10 ⟨rfl, hM, hb⟩
          have H10 : Hid (Mine18 LP W w10 q (k + 1) s2 F8) := hM
          clear hM hb H9
          go_wp2_with fail
          refine (H10.out.wanted HS.out.1 0 (by rw [HI.out.2]; rfl)).mono ?_
          rintro e w11 ⟨rfl, hM, hb⟩
          have H11 : Hid (Mine18 LP W w11 q (k + 1) s2 F8) := hM
          clear hM hb H10
          go_wp2
          go_roundw
          case rel => exact ⟨k + 1, s2, F8, by omega, by go_num, H11.out⟩
          case measure => simp [intOf]; omega
        · have h0' : ((M : Int) == 0) = false := by simp [h0]
          clear h0
          go_wp2
          go_roundw
          case rel => exact ⟨k + 1, s2, F8, by omega, by go_num, H9.out⟩
          case measure => simp [intOf]; omega
      by_cases e1 : op = 1
      · subst e1
        clear e0
        have c1 := H5.out.c1
        have c2 := H5.out.c2
        have c3 := H5.out.c3
        obtain ⟨a, b2, s2, hr⟩ : ∃ a b2 s2, Pt.prepare s id sess os = ((a, b2), s2) := ⟨_, _, _, rfl⟩
        have HR : Hid (Pt.prepare s id sess os = ((a, b2), s2)) := hr
        clear hr
        go_wp2_with fail
        clear c0 c1 c2 c3
        refine (H5.out.my.prep HS.out.1 HS.out.2.1 (by have := HA.out; omega) id sess (.slice b L cc) os H5.out.arg HY.out.2.2.2 HY.out.2.2.1 HY.out.1 HY.out.2.1 a b2 s2 HR.out).mono ?_
        rintro e w8 ⟨F8, rfl, hM, hmv⟩
        have H8 : Hid (Mine18 LP W w8 q (k + 1) s2 F8) := hM
        clear hM hmv H5
        obtain ⟨zs, hz⟩ : ∃ zs, Pt.waiting s2 = zs := ⟨_, rfl⟩
        have HW : Hid (Pt.waiting s2 = zs) := hz
        clear hz
        go_wp2_with fail
        refine (H8.out.waiting HS.out.1 (by have := HA.out; omega) zs HW.out).mono ?_
        rintro e w9 ⟨vz, rfl, hr, hM, hb⟩
        have H9 : Hid (Mine18 LP W w9 q (k + 1) s2 F8) := hM
        obtain ⟨za, zc, rfl⟩ := row_form18 hr
        obtain ⟨M, hM⟩ : ∃ M, M = zs.length := ⟨_, rfl⟩
        rw [← hM]
        have HM : Hid (M = zs.length) := hM
        clear hr hM hb H8
        by_cases h0 : M = 0
        · have HI : Hid (s2.lk.length = 0 ∧ Pt.wanted s2 = 0) := by
            have h1 := Pt.waiting_len s2
            rw [HW.out, ← HM.out, h0] at h1
            have h2 := Pt.idle_all H9.out.fit (List.length_eq_zero_iff.1 h1.symm)
            exact ⟨h2.1, h2.2.1⟩
          subst h0
          go_wp2_with fail
          refine (H9.out.locks HS.out.1 (by have := HA.out; omega) 0 (by rw [HI.out.1]; rfl)).mono ?_
          rintro e w10 ⟨rfl, hM, hb⟩
          have H10 : Hid (Mine18 LP W w10 q (k + 1) s2 F8) := hM
          clear hM hb H9
          go_wp2_with fail
          refine (H10.out.wanted HS.out.1 0 (by rw [HI.out.2]; rfl)).mono ?_
          rintro e w11 ⟨rfl, hM, hb⟩
          have H11 : Hid (Mine18 LP W w11 q (k + 1) s2 F8) := hM
          clear hM hb H10
          go_wp2
          go_roundw
          case rel => exact ⟨k + 1, s2, F8, by omega, by go_num, H11.out⟩
          case measure => simp [intOf]; omega
        · have h0' : ((M : Int) == 0) = false := by simp [h0]
          clear h0
          go_wp2
          go_roundw
          case rel => exact ⟨k + 1, s2, F8, by omega, by go_num, H9.out⟩
          case measure => simp [intOf]; omega
      by_cases e2 : op = 2
      · subst e2
        clear e0 e1
        have c1 := H5.out.c1
        have c2 := H5.out.c2
        obtain ⟨a, b2, s2, hr⟩ : ∃ a b2 s2, Pt.close s id sess = ((a, b2), s2) := ⟨_, _, _, rfl⟩
        have HR : Hid (Pt.close s id sess = ((a, b2), s2)) := hr
        clear hr
        go_wp2_with fail
        clear c0 c1 c2
        refine (H5.out.my.clo HS.out.1 HS.out.2.1 (by have := HA.out; omega) id sess HY.out.1 HY.out.2.1 a b2 s2 HR.out).mono ?_
        rintro e w8 ⟨F8, rfl, hM, hmv⟩
        have H8 : Hid (Mine18 LP W w8 q (k + 1) s2 F8) := hM
        clear hM hmv H5
        obtain ⟨zs, hz⟩ : ∃ zs, Pt.waiting s2 = zs := ⟨_, rfl⟩
        have HW : Hid (Pt.waiting s2 = zs) := hz
        clear hz
        go_wp2_with fail
        refine (H8.out.waiting HS.out.1 (by have := HA.out; omega) zs HW.out).mono ?_
        rintro e w9 ⟨vz, rfl, hr, hM, hb⟩
        have H9 : Hid (Mine18 LP W w9 q (k + 1) s2 F8) := hM
        obtain ⟨za, zc, rfl⟩ := row_form18 hr
        obtain ⟨M, hM⟩ : ∃ M, M = zs.length := ⟨_, rfl⟩
        rw [← hM]
        have HM : Hid (M = zs.length) := hM
        clear hr hM hb H8
        by_cases h0 : M = 0
        · have HI : Hid (s2.lk.length = 0 ∧ Pt.wanted s2 = 0) := by
            have h1 := Pt.waiting_len s2
            rw [HW.out, ← HM.out, h0] at h1
            have h2 := Pt.idle_all H9.out.fit (List.length_eq_zero_iff.1 h1.symm)
            exact ⟨h2.1, h2.2.1⟩
          subst h0
          go_wp2_with fail
          refine (H9.out.locks HS.out.1 (by have := HA.out; omega) 0 (by rw [HI.out.1]; rfl)).mono ?_
          rintro e w10 ⟨rfl, hM, hb⟩
          have H10 : Hid (Mine18 LP W w10 q (k + 1) s2 F8) := hM
          clear hM hb H9
          go_wp2_with fail
          refine (H10.out.wanted HS.out.1 0 (by rw [HI.out.2]; rfl)).mono ?_
          rintro e w11 ⟨rfl, hM, hb⟩
          have H11 : Hid (Mine18 LP W w11 q (k + 1) s2 F8) := hM
          clear hM hb H10
          go_wp2
          go_roundw
          case rel => exact ⟨k + 1, s2, F8, by omega, by go_num, H11.out⟩
          case measure => simp [intOf]; omega
        · have h0' : ((M : Int) == 0) = false := by simp [h0]
          clear h0
          go_wp2
          go_roundw
          case rel => exact ⟨k + 1, s2, F8, by omega, by go_num, H9.out⟩
          case measure => simp [intOf]; omega
      have f0 : (op == 0) = false := by simp [e0]
      have f1 : (op == 1) = false := by simp [e1]
      have f2 : (op == 2) = false := by simp [e2]
      clear e0 e1 e2
      have c1 := H5.out.c1
      have c4 := H5.out.c4
      obtain ⟨rs, er, s2, hr⟩ : ∃ rs er s2, Pt.decide_ s id yes = ((rs, er), s2) := ⟨_, _, _, rfl⟩
      have HR : Hid (Pt.decide_ s id yes = ((rs, er), s2)) := hr
      clear hr
      go_wp2_with fail
      clear c0 c1 c4
      refine (H5.out.my.dec HS.out.1 HS.out.2.1 (by have := HA.out; omega) id yes HY.out.1 rs er s2 HR.out).mono ?_
      rintro e w8 ⟨F8, u, rfl, hrn, hM, hmv⟩
      have H8 : Hid (Mine18 LP W w8 q (k + 1) s2 F8) := hM
      clear hrn hM hmv H5 f0 f1 f2
      obtain ⟨zs, hz⟩ : ∃ zs, Pt.waiting s2 = zs := ⟨_, rfl⟩
      have HW : Hid (Pt.waiting s2 = zs) := hz
      clear hz
      go_wp2_with fail
      refine (H8.out.waiting HS.out.1 (by have := HA.out; omega) zs HW.out).mono ?_
      rintro e w9 ⟨vz, rfl, hr, hM, hb⟩
      have H9 : Hid (Mine18 LP W w9 q (k + 1) s2 F8) := hM
      obtain ⟨za, zc, rfl⟩ := row_form18 hr
      obtain ⟨M, hM⟩ : ∃ M, M = zs.length := ⟨_, rfl⟩
      rw [← hM]
      have HM : Hid (M = zs.length) := hM
      clear hr hM hb H8
      by_cases h0 : M = 0
      · have HI : Hid (s2.lk.length = 0 ∧ Pt.wanted s2 = 0) := by
          have h1 := Pt.waiting_len s2
          rw [HW.out, ← HM.out, h0] at h1
          have h2 := Pt.idle_all H9.out.fit (List.length_eq_zero_iff.1 h1.symm)
          exact ⟨h2.1, h2.2.1⟩
        subst h0
        go_wp2_with fail
        refine (H9.out.locks HS.out.1 (by have := HA.out; omega) 0 (by rw [HI.out.1]; rfl)).mono ?_
        rintro e w10 ⟨rfl, hM, hb⟩
        have H10 : Hid (Mine18 LP W w10 q (k + 1) s2 F8) := hM
        clear hM hb H9
        go_wp2_with fail
        refine (H10.out.wanted HS.out.1 0 (by rw [HI.out.2]; rfl)).mono ?_
        rintro e w11 ⟨rfl, hM, hb⟩
        have H11 : Hid (Mine18 LP W w11 q (k + 1) s2 F8) := hM
        clear hM hb H10
        go_wp2
        go_roundw
        case rel => exact ⟨k + 1, s2, F8, by omega, by go_num, H11.out⟩
        case measure => simp [intOf]; omega
      · have h0' : ((M : Int) == 0) = false := by simp [h0]
        clear h0
        go_wp2
        go_roundw
        case rel => exact ⟨k + 1, s2, F8, by omega, by go_num, H9.out⟩
        case measure => simp [intOf]; omega
    · have hlt' : ¬ (k : Int) < (N : Int) := by omega
      obtain ⟨zs, hz⟩ : ∃ zs, Pt.waiting s = zs := ⟨_, rfl⟩
      have HW : Hid (Pt.waiting s = zs ∧ k ≤ 30 ∧ zs.length ≤ 30) := ⟨hz, by have := HA.out; omega, by
        have h1 := Pt.waiting_len s
        have h2 := H3.out.fit.lens.1
        have h3 := HA.out
        rw [← hz]
        omega⟩
      clear hz
      go_wp2_with fail
      refine (H3.out.waiting HS.out.1 (by have := HW.out; omega) zs HW.out.1).mono ?_
      rintro e w4 ⟨vz, rfl, hr, hM, hb⟩
      have hiz := Iz18.of_row (F := F) hr rfl (fun k hk => H3.out.flt HS.out.1 k hk)
      obtain ⟨za, zc, rfl⟩ := row_form18 hr
      obtain ⟨M, hMz⟩ : ∃ M, M = zs.length := ⟨_, rfl⟩
      rw [← hMz] at hiz ⊢
      have H4 : Hid (Mine18 LP W w4 q (k + 0) s F ∧ Iz18 w4 F (.slice za M zc) zs ∧ Pt.Left s s 0) := ⟨hM, hiz, Pt.Left.start s⟩
      have HM : Hid (M = zs.length ∧ M ≤ 30 ∧ Pt.Fit k s) := ⟨hMz, by have := HW.out.2.2; omega, H3.out.fit⟩
      have hM63 : M ≤ 30 := HM.out.2.1
      clear hr hM hb hiz hMz H3 hlt hlt' hk
      obtain ⟨s0, hs0⟩ : ∃ s0, s0 = s := ⟨_, rfl⟩
      have HW0 : Hid (Pt.waiting s0 = zs ∧ Pt.Fit k s0 ∧ k ≤ 30) := by rw [hs0]; exact ⟨HW.out.1, HM.out.2.2, HW.out.2.1⟩
      have H40 : Hid (Mine18 LP W w4 q (k + 0) s F ∧ Iz18 w4 F (.slice za M zc) zs ∧ Pt.Left s0 s 0) := by rw [hs0]; exact H4.out
      clear hs0 H4 HW
      go_wp2
      go_loopw [8] (fun i wx => ∃ (j : Nat) (s : Pt.St) (F : Nat → Prop), j ≤ M ∧ i = .int .i64 (j : Int) ∧ Mine18 LP W wx q (k + j) s F ∧ Iz18 wx F (.slice za M zc) zs ∧ Pt.Left s0 s j) (fun i _ => M - (intOf i).toNat)
      case atStart => exact ⟨0, s, F, Nat.zero_le _, rfl, H40.out⟩
      case round =>
        obtain ⟨j, s, F, hj, rfl, hM, hi, hle⟩ := hrel
        have H5 : Hid (Mine18 LP W wr q (k + j) s F ∧ Iz18 wr F (.slice za M zc) zs ∧ Pt.Left s0 s j) := ⟨hM, hi, hle⟩
        clear hM hi hle H40
        by_cases hlt : j < M
        · have hlt' : (j : Int) < (M : Int) := by omega
          have hj0 : (0 : Int) ≤ (j : Int) := by omega
          have hwk : IntKind.wrap .i64 ((j : Int) + 1) = (j : Int) + 1 := by rw [IntKind.wrap_i64]; omega
          obtain ⟨z, hz⟩ : ∃ z, zs[j]? = some z := ⟨zs[j]'(by rw [← HM.out.1]; exact hlt), List.getElem?_eq_getElem _⟩
          obtain ⟨hd, hleft⟩ := H5.out.2.2.next HW0.out.2.1 (by rw [HW0.out.1]; exact hz)
          obtain ⟨za', zc', ev, hcl⟩ := H5.out.2.1
          obtain ⟨e1, e2, e3⟩ := Value.slice.inj ev
          subst e1
          clear e2 e3
          obtain ⟨g, rfl, _, c0⟩ := hcl j z hz
          have HZ : Hid (zs[j]? = some z ∧ I64 z ∧ Pt.decide_ s z false = (([], 0), Pt.gone s z) ∧ Pt.Left s0 (Pt.gone s z) (j + 1)) := by
            obtain ⟨p, hp, hpz⟩ := Pt.waiting_mem.1 (by rw [HW0.out.1]; exact List.mem_of_getElem? hz : z ∈ Pt.waiting s0)
            have h1 := (HW0.out.2.1.ps p hp).id
            rw [hpz] at h1
            exact ⟨hz, ⟨by have := h1.1; omega, h1.2⟩, hd, hleft⟩
          clear hd hleft ev hcl hz
          go_wp2_with fail
          clear c0
          refine (H5.out.1.dec HS.out.1 HS.out.2.1 (by have := HW0.out.2.2; omega) z false HZ.out.2.1 [] 0 (Pt.gone s z) HZ.out.2.2.1).mono ?_
          rintro e w6 ⟨F6, u, rfl, hrn, hM, hmv⟩
          have H6 : Hid (Mine18 LP W w6 q (k + (j + 1)) (Pt.gone s z) F6 ∧ Iz18 w6 F6 (.slice (some ⟨g, 0, none⟩) M zc) zs) := ⟨hM, H5.out.2.1.moved hmv⟩
          obtain ⟨ua, uc, rfl⟩ := hrn.form
          clear hrn hM hmv H5
          go_upto_region 27 with fail
          rcases Nat.eq_zero_or_pos j with hj1 | hj1
          · have hjn : ¬ (0 : Int) < (j : Int) := by omega
            refine wp_region_held_drew (S := fun _ => True) (by kernel_rfl) trivial (fun _ => ?_)
            have H7 : Hid (Mine18 LP W w6.drew q (k + (j + 1)) (Pt.gone s z) F6 ∧ Iz18 w6.drew F6 (.slice (some ⟨g, 0, none⟩) M zc) zs) := by
              have hb := (Below.refl w6.heap.size w6).drew
              exact ⟨H6.out.1.later HS.out.1 hb, H6.out.2.later hb⟩
            clear H6
            generalize w6.drew = w7 at *
            refine' take_at (i := 0) (d := 101) (v := _) rfl rfl (by kernel_rfl) (by kernel_rfl) (by kernel_rfl) (fun _ _ _ h => h) (Or.inl ⟨by rfl, ?h0⟩) (trivial) ?_
            case h0 =>
              intro w hSw
              clear hSw
              go_simp
              with_reducible rfl
            simp only [List.setIfInBounds_toArray, List.set_cons_zero, List.set_cons_succ]
            refine' take_at (i := 1) (d := 102) (v := _) rfl rfl (by kernel_rfl) (by kernel_rfl) (by kernel_rfl) (fun _ _ _ h => h) (Or.inl ⟨by rfl, ?h1⟩) (trivial) ?_
            case h1 =>
              intro w hSw
              clear hSw
              go_simp
              with_reducible rfl
            simp only [List.setIfInBounds_toArray, List.set_cons_zero, List.set_cons_succ]
            refine' take_at (i := 2) (d := 103) (v := _) rfl rfl (by kernel_rfl) (by kernel_rfl) (by kernel_rfl) (fun _ _ _ h => h) (Or.inl ⟨by rfl, ?h2⟩) (trivial) ?_
            case h2 =>
              intro w hSw
              clear hSw
              go_simp
              with_reducible rfl
            simp only [List.setIfInBounds_toArray, List.set_cons_zero, List.set_cons_succ]
            refine' take_at (i := 3) (d := 104) (v := _) rfl rfl (by kernel_rfl) (by kernel_rfl) (by kernel_rfl) (fun _ _ _ h => h) (Or.inl ⟨by rfl, ?h3⟩) (trivial) ?_
            case h3 =>
              intro w hSw
              clear hSw
              go_simp
              with_reducible rfl
            simp only [List.setIfInBounds_toArray, List.set_cons_zero, List.set_cons_succ]
            refine' take_at (i := 4) (d := 105) (v := _) rfl rfl (by kernel_rfl) (by kernel_rfl) (by kernel_rfl) (fun _ _ _ h => h) (Or.inl ⟨by rfl, ?h4⟩) (trivial) ?_
            case h4 =>
              intro w hSw
              clear hSw
              go_simp
              with_reducible rfl
            simp only [List.setIfInBounds_toArray, List.set_cons_zero, List.set_cons_succ]
            refine' take_at (i := 5) (d := 106) (v := _) rfl rfl (by kernel_rfl) (by kernel_rfl) (by kernel_rfl) (fun _ _ _ h => h) (Or.inl ⟨by rfl, ?h5⟩) (trivial) ?_
            case h5 =>
              intro w hSw
              clear hSw
              go_simp
              with_reducible rfl
            simp only [List.setIfInBounds_toArray, List.set_cons_zero, List.set_cons_succ]
            refine' take_at (i := 6) (d := 107) (v := undef) rfl rfl (by kernel_rfl) (by kernel_rfl) (by kernel_rfl) (fun _ _ _ h => h) (Or.inr ⟨by rfl, rfl⟩) (trivial) ?_
            simp only [List.setIfInBounds_toArray, List.set_cons_zero, List.set_cons_succ]
            refine' take_at (i := 7) (d := 108) (v := undef) rfl rfl (by kernel_rfl) (by kernel_rfl) (by kernel_rfl) (fun _ _ _ h => h) (Or.inr ⟨by rfl, rfl⟩) (trivial) ?_
            simp only [List.setIfInBounds_toArray, List.set_cons_zero, List.set_cons_succ]
            refine' take_at (i := 8) (d := 109) (v := undef) rfl rfl (by kernel_rfl) (by kernel_rfl) (by kernel_rfl) (fun _ _ _ h => h) (Or.inr ⟨by rfl, rfl⟩) (trivial) ?_
            simp only [List.setIfInBounds_toArray, List.set_cons_zero, List.set_cons_succ]
            refine' take_at (i := 9) (d := 110) (v := undef) rfl rfl (by kernel_rfl) (by kernel_rfl) (by kernel_rfl) (fun _ _ _ h => h) (Or.inr ⟨by rfl, rfl⟩) (trivial) ?_
            simp only [List.setIfInBounds_toArray, List.set_cons_zero, List.set_cons_succ]
            refine' take_at (i := 10) (d := 111) (v := undef) rfl rfl (by kernel_rfl) (by kernel_rfl) (by kernel_rfl) (fun _ _ _ h => h) (Or.inr ⟨by rfl, rfl⟩) (trivial) ?_
            simp only [List.setIfInBounds_toArray, List.set_cons_zero, List.set_cons_succ]
            refine' take_at (i := 11) (d := 112) (v := undef) rfl rfl (by kernel_rfl) (by kernel_rfl) (by kernel_rfl) (fun _ _ _ h => h) (Or.inr ⟨by rfl, rfl⟩) (trivial) ?_
            simp only [List.setIfInBounds_toArray, List.set_cons_zero, List.set_cons_succ]
            refine' take_at (i := 12) (d := 113) (v := undef) rfl rfl (by kernel_rfl) (by kernel_rfl) (by kernel_rfl) (fun _ _ _ h => h) (Or.inr ⟨by rfl, rfl⟩) (trivial) ?_
            simp only [List.setIfInBounds_toArray, List.set_cons_zero, List.set_cons_succ]
            refine' take_at (i := 13) (d := 114) (v := undef) rfl rfl (by kernel_rfl) (by kernel_rfl) (by kernel_rfl) (fun _ _ _ h => h) (Or.inr ⟨by rfl, rfl⟩) (trivial) ?_
            simp only [List.setIfInBounds_toArray, List.set_cons_zero, List.set_cons_succ]
            refine' take_at (i := 14) (d := 115) (v := undef) rfl rfl (by kernel_rfl) (by kernel_rfl) (by kernel_rfl) (fun _ _ _ h => h) (Or.inr ⟨by rfl, rfl⟩) (trivial) ?_
            simp only [List.setIfInBounds_toArray, List.set_cons_zero, List.set_cons_succ]
            refine' take_at (i := 15) (d := 116) (v := undef) rfl rfl (by kernel_rfl) (by kernel_rfl) (by kernel_rfl) (fun _ _ _ h => h) (Or.inr ⟨by rfl, rfl⟩) (trivial) ?_
            simp only [List.setIfInBounds_toArray, List.set_cons_zero, List.set_cons_succ]
            refine' take_at (i := 16) (d := 117) (v := _) rfl rfl (by kernel_rfl) (by kernel_rfl) (by kernel_rfl) (fun _ _ _ h => h) (Or.inl ⟨by rfl, ?h16⟩) (trivial) ?_
            case h16 =>
              intro w hSw
              clear hSw
              go_simp
              with_reducible rfl
            simp only [List.setIfInBounds_toArray, List.set_cons_zero, List.set_cons_succ]
            refine' take_at (i := 17) (d := 118) (v := _) rfl rfl (by kernel_rfl) (by kernel_rfl) (by kernel_rfl) (fun _ _ _ h => h) (Or.inl ⟨by rfl, ?h17⟩) (trivial) ?_
            case h17 =>
              intro w hSw
              clear hSw
              go_simp
              with_reducible rfl
            simp only [List.setIfInBounds_toArray, List.set_cons_zero, List.set_cons_succ]
            refine wpAnyH_done (by kernel_rfl) ?_ _
            clear hj1 hjn
            go_wp2
            go_roundw
            case rel => exact ⟨j + 1, Pt.gone s z, F6, by omega, by go_num, H7.out.1, H7.out.2, HZ.out.2.2.2⟩
            case measure => simp [intOf]; omega
          · have hjn : (0 : Int) < (j : Int) := by omega
            obtain ⟨i, hi⟩ : ∃ i, i = j - 1 := ⟨_, rfl⟩
            have hws : IntKind.wrap .i64 ((j : Int) - 1) = (i : Int) := by rw [IntKind.wrap_i64]; omega
            have hi0 : (0 : Int) ≤ (i : Int) := by omega
            have hi1 : (i : Int) < (M : Int) := by omega
            obtain ⟨y, hy⟩ : ∃ y, zs[i]? = some y := ⟨zs[i]'(by rw [← HM.out.1]; omega), List.getElem?_eq_getElem _⟩
            have hyz : ¬ z ≤ y := by
              have hw := Pt.waiting_rises HW0.out.2.1
              rw [HW0.out.1] at hw
              obtain ⟨h1, h2⟩ := List.getElem?_eq_some_iff.1 hy
              obtain ⟨h3, h4⟩ := List.getElem?_eq_some_iff.1 HZ.out.1
              have h5 := List.pairwise_iff_getElem.1 hw i j h1 h3 (by omega)
              omega
            have HT : Hid (w6.cell? ⟨g, j, none⟩ = some (.int .i64 z) ∧ w6.cell? ⟨g, i, none⟩ = some (.int .i64 y)) := by
              obtain ⟨za', zc', ev, hcl⟩ := H6.out.2
              obtain ⟨e1, e2, e3⟩ := Value.slice.inj ev
              obtain ⟨g1, e4, _, k1⟩ := hcl j z HZ.out.1
              obtain ⟨g2, e5, _, k2⟩ := hcl i y hy
              rw [← e1] at e4 e5
              simp only [Option.some.injEq, Addr.mk.injEq, and_true] at e4 e5
              rw [← e4] at k1
              rw [← e5] at k2
              exact ⟨k1, k2⟩
            clear hy hi
            refine wp_region_held_drew (S := fun w' => w'.cell? ⟨g, j, none⟩ = some (.int .i64 z) ∧ w'.cell? ⟨g, i, none⟩ = some (.int .i64 y)) (by kernel_rfl) HT.out (fun _ => ?_)
            have H7 : Hid (Mine18 LP W w6.drew q (k + (j + 1)) (Pt.gone s z) F6 ∧ Iz18 w6.drew F6 (.slice (some ⟨g, 0, none⟩) M zc) zs) := by
              have hb := (Below.refl w6.heap.size w6).drew
              exact ⟨H6.out.1.later HS.out.1 hb, H6.out.2.later hb⟩
            have HT7 : Hid (w6.drew.cell? ⟨g, j, none⟩ = some (.int .i64 z) ∧ w6.drew.cell? ⟨g, i, none⟩ = some (.int .i64 y)) := HT.out
            clear H6 HT
            generalize w6.drew = w7 at *
            refine' take_at (i := 0) (d := 101) (v := _) rfl rfl (by kernel_rfl) (by kernel_rfl) (by kernel_rfl) (fun _ _ _ h => h) (Or.inl ⟨by rfl, ?h0⟩) (HT7.out) ?_
            case h0 =>
              intro w hSw
              obtain ⟨t0, t1⟩ := hSw
              go_simp
              with_reducible rfl
            simp only [List.setIfInBounds_toArray, List.set_cons_zero, List.set_cons_succ]
            refine' take_at (i := 1) (d := 102) (v := _) rfl rfl (by kernel_rfl) (by kernel_rfl) (by kernel_rfl) (fun _ _ _ h => h) (Or.inl ⟨by rfl, ?h1⟩) (HT7.out) ?_
            case h1 =>
              intro w hSw
              obtain ⟨t0, t1⟩ := hSw
              go_simp
              with_reducible rfl
            simp only [List.setIfInBounds_toArray, List.set_cons_zero, List.set_cons_succ]
            refine' take_at (i := 2) (d := 103) (v := _) rfl rfl (by kernel_rfl) (by kernel_rfl) (by kernel_rfl) (fun _ _ _ h => h) (Or.inl ⟨by rfl, ?h2⟩) (HT7.out) ?_
            case h2 =>
              intro w hSw
              obtain ⟨t0, t1⟩ := hSw
              go_simp
              with_reducible rfl
            simp only [List.setIfInBounds_toArray, List.set_cons_zero, List.set_cons_succ]
            refine' take_at (i := 3) (d := 104) (v := _) rfl rfl (by kernel_rfl) (by kernel_rfl) (by kernel_rfl) (fun _ _ _ h => h) (Or.inl ⟨by rfl, ?h3⟩) (HT7.out) ?_
            case h3 =>
              intro w hSw
              obtain ⟨t0, t1⟩ := hSw
              go_simp
              with_reducible rfl
            simp only [List.setIfInBounds_toArray, List.set_cons_zero, List.set_cons_succ]
            refine' take_at (i := 4) (d := 105) (v := _) rfl rfl (by kernel_rfl) (by kernel_rfl) (by kernel_rfl) (fun _ _ _ h => h) (Or.inl ⟨by rfl, ?h4⟩) (HT7.out) ?_
            case h4 =>
              intro w hSw
              obtain ⟨t0, t1⟩ := hSw
              go_simp
              with_reducible rfl
            simp only [List.setIfInBounds_toArray, List.set_cons_zero, List.set_cons_succ]
            refine' take_at (i := 5) (d := 106) (v := _) rfl rfl (by kernel_rfl) (by kernel_rfl) (by kernel_rfl) (fun _ _ _ h => h) (Or.inl ⟨by rfl, ?h5⟩) (HT7.out) ?_
            case h5 =>
              intro w hSw
              obtain ⟨t0, t1⟩ := hSw
              go_simp
              with_reducible rfl
            simp only [List.setIfInBounds_toArray, List.set_cons_zero, List.set_cons_succ]
            refine' take_at (i := 6) (d := 107) (v := _) rfl rfl (by kernel_rfl) (by kernel_rfl) (by kernel_rfl) (fun _ _ _ h => h) (Or.inl ⟨by rfl, ?h6⟩) (HT7.out) ?_
            case h6 =>
              intro w hSw
              obtain ⟨t0, t1⟩ := hSw
              go_simp
              with_reducible rfl
            simp only [List.setIfInBounds_toArray, List.set_cons_zero, List.set_cons_succ]
            refine' take_at (i := 7) (d := 108) (v := _) rfl rfl (by kernel_rfl) (by kernel_rfl) (by kernel_rfl) (fun _ _ _ h => h) (Or.inl ⟨by rfl, ?h7⟩) (HT7.out) ?_
            case h7 =>
              intro w hSw
              obtain ⟨t0, t1⟩ := hSw
              go_simp
              with_reducible rfl
            simp only [List.setIfInBounds_toArray, List.set_cons_zero, List.set_cons_succ]
            refine' take_at (i := 8) (d := 109) (v := _) rfl rfl (by kernel_rfl) (by kernel_rfl) (by kernel_rfl) (fun _ _ _ h => h) (Or.inl ⟨by rfl, ?h8⟩) (HT7.out) ?_
            case h8 =>
              intro w hSw
              obtain ⟨t0, t1⟩ := hSw
              go_simp
              with_reducible rfl
            simp only [List.setIfInBounds_toArray, List.set_cons_zero, List.set_cons_succ]
            refine' take_at (i := 9) (d := 110) (v := _) rfl rfl (by kernel_rfl) (by kernel_rfl) (by kernel_rfl) (fun _ _ _ h => h) (Or.inl ⟨by rfl, ?h9⟩) (HT7.out) ?_
            case h9 =>
              intro w hSw
              obtain ⟨t0, t1⟩ := hSw
              go_simp
              with_reducible rfl
            simp only [List.setIfInBounds_toArray, List.set_cons_zero, List.set_cons_succ]
            refine' take_at (i := 10) (d := 111) (v := _) rfl rfl (by kernel_rfl) (by kernel_rfl) (by kernel_rfl) (fun _ _ _ h => h) (Or.inl ⟨by rfl, ?h10⟩) (HT7.out) ?_
            case h10 =>
              intro w hSw
              obtain ⟨t0, t1⟩ := hSw
              go_simp
              with_reducible rfl
            simp only [List.setIfInBounds_toArray, List.set_cons_zero, List.set_cons_succ]
            refine' take_at (i := 11) (d := 112) (v := _) rfl rfl (by kernel_rfl) (by kernel_rfl) (by kernel_rfl) (fun _ _ _ h => h) (Or.inl ⟨by rfl, ?h11⟩) (HT7.out) ?_
            case h11 =>
              intro w hSw
              obtain ⟨t0, t1⟩ := hSw
              go_simp
              with_reducible rfl
            simp only [List.setIfInBounds_toArray, List.set_cons_zero, List.set_cons_succ]
            refine' take_at (i := 12) (d := 113) (v := _) rfl rfl (by kernel_rfl) (by kernel_rfl) (by kernel_rfl) (fun _ _ _ h => h) (Or.inl ⟨by rfl, ?h12⟩) (HT7.out) ?_
            case h12 =>
              intro w hSw
              obtain ⟨t0, t1⟩ := hSw
              go_simp
              with_reducible rfl
            simp only [List.setIfInBounds_toArray, List.set_cons_zero, List.set_cons_succ]
            refine' take_at (i := 13) (d := 114) (v := _) rfl rfl (by kernel_rfl) (by kernel_rfl) (by kernel_rfl) (fun _ _ _ h => h) (Or.inl ⟨by rfl, ?h13⟩) (HT7.out) ?_
            case h13 =>
              intro w hSw
              obtain ⟨t0, t1⟩ := hSw
              go_simp
              with_reducible rfl
            simp only [List.setIfInBounds_toArray, List.set_cons_zero, List.set_cons_succ]
            refine' take_at (i := 14) (d := 115) (v := _) rfl rfl (by kernel_rfl) (by kernel_rfl) (by kernel_rfl) (fun _ _ _ h => h) (Or.inl ⟨by rfl, ?h14⟩) (HT7.out) ?_
            case h14 =>
              intro w hSw
              obtain ⟨t0, t1⟩ := hSw
              go_simp
              with_reducible rfl
            simp only [List.setIfInBounds_toArray, List.set_cons_zero, List.set_cons_succ]
            refine' take_at (i := 15) (d := 116) (v := _) rfl rfl (by kernel_rfl) (by kernel_rfl) (by kernel_rfl) (fun _ _ _ h => h) (Or.inl ⟨by rfl, ?h15⟩) (HT7.out) ?_
            case h15 =>
              intro w hSw
              obtain ⟨t0, t1⟩ := hSw
              go_simp
              with_reducible rfl
            simp only [List.setIfInBounds_toArray, List.set_cons_zero, List.set_cons_succ]
            refine' take_at (i := 16) (d := 117) (v := _) rfl rfl (by kernel_rfl) (by kernel_rfl) (by kernel_rfl) (fun _ _ _ h => h) (Or.inl ⟨by rfl, ?h16⟩) (HT7.out) ?_
            case h16 =>
              intro w hSw
              obtain ⟨t0, t1⟩ := hSw
              go_simp
              with_reducible rfl
            simp only [List.setIfInBounds_toArray, List.set_cons_zero, List.set_cons_succ]
            refine' take_at (i := 17) (d := 118) (v := _) rfl rfl (by kernel_rfl) (by kernel_rfl) (by kernel_rfl) (fun _ _ _ h => h) (Or.inl ⟨by rfl, ?h17⟩) (HT7.out) ?_
            case h17 =>
              intro w hSw
              obtain ⟨t0, t1⟩ := hSw
              go_simp
              with_reducible rfl
            simp only [List.setIfInBounds_toArray, List.set_cons_zero, List.set_cons_succ]
            refine wpAnyH_done (by kernel_rfl) ?_ _
            clear hj1 hjn hws hi0 hi1 hyz HT7
            go_wp2
            go_roundw
            case rel => exact ⟨j + 1, Pt.gone s z, F6, by omega, by go_num, H7.out.1, H7.out.2, HZ.out.2.2.2⟩
            case measure => simp [intOf]; omega
        · have hlt' : ¬ (j : Int) < (M : Int) := by omega
          have HI : Hid (s.lk.length = 0 ∧ Pt.wanted s = 0 ∧ Pt.waiting s = []) := Pt.idle_all H5.out.1.fit (H5.out.2.2.done (by rw [HW0.out.1, ← HM.out.1]; omega))
          go_wp2_with fail
          refine (H5.out.1.locks HS.out.1 (by have := HW0.out.2.2; omega) 0 (by rw [HI.out.1]; rfl)).mono ?_
          rintro e w10 ⟨rfl, hM, hb⟩
          have H10 : Hid (Mine18 LP W w10 q (k + j) s F) := hM
          clear hM hb H5
          go_wp2_with fail
          refine (H10.out.wanted HS.out.1 0 (by rw [HI.out.2.1]; rfl)).mono ?_
          rintro e w11 ⟨rfl, hM, hb⟩
          have H11 : Hid (Mine18 LP W w11 q (k + j) s F) := hM
          clear hM hb H10
          go_wp2_with fail
          refine (H11.out.waiting HS.out.1 (by have := HW0.out.2.2; omega) [] HI.out.2.2).mono ?_
          rintro e w12 ⟨vz, rfl, hr, hM, hb⟩
          obtain ⟨ya, yc, rfl⟩ := row_form18 hr
          have H12 : Hid (Below W.heap.size W w12) := hM.below
          clear hr hM hb H11
          go_wp2
          go_ret
          exact ⟨rfl, H12.out⟩
end Go.Proofs.YtboejbjobjhajaaGreatDoor
