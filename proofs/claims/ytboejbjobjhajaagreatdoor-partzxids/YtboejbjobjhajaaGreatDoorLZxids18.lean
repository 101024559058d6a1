/- PartZxids' walk. -/
import Derived.Test.YtboejbjobjhajaaGreatDoorMn18
import Derived.Test.YtboejbjobjhajaaGreatDoorWm2
namespace Go.Proofs.YtboejbjobjhajaaGreatDoor
open Go.RowKit
set_option maxRecDepth 20000 in
set_option maxHeartbeats 16000000 in
theorem zxids_any18 {LT : Rep11} {LP : Rep18} (S : Specs18 LT LP) (v : Value) (xs : List Ac18) (W : World) (hS : Pa.Std W) (hv : Acl18 W v xs) (hl : xs.length ≤ maxLen) (hok : ∀ x ∈ xs, AcOk18 x) :
    Calls Tryz.prog 8 #[v] W fun e w' => e = .returned (.bool true) ∧ Below W.heap.size W w' := by
  have HS : Hid (Specs18 LT LP ∧ Pa.Std W ∧ (∀ x ∈ xs, AcOk18 x)) := ⟨S, hS, hok⟩
  obtain ⟨av, N, c, rfl, hN, hj⟩ := hv
  have HV : Hid (Acl18 W (.slice av N c) xs ∧ N = xs.length) := ⟨⟨av, N, c, rfl, hN, hj⟩, hN⟩
  have hN63 : N ≤ 9223372036854775807 := by unfold maxLen at hl; omega
  clear S hS hok hl hN hj
  go_enter Tryz.func8, Tryz.ntmps8
  go_wp2_with fail
  refine (awake_any18 HS.out.1 W HS.out.2.1).mono ?_
  rintro e w0 ⟨rfl, hb0⟩
  have H0 : Hid (Below W.heap.size W w0) := hb0
  clear hb0
  by_cases a1 : (30 : Int) < (N : Int)
  · go_wp2
    go_ret
    exact ⟨rfl, H0.out⟩
  have HA : Hid (N ≤ 30) := (show N ≤ 30 by omega)
  go_wp2_with fail
  refine (mine18_new HS.out.1 60 (by decide) H0.out).mono ?_
  rintro e w1 ⟨q, F1, rfl, hM, hb⟩
  have M1 : Hid (Mine18 LP W w1 q 0 (Pt.new 60) F1) := hM
  clear hM hb H0 a1
  unfold dptr
  go_wp2
  go_loopw [5] (fun i wx => ∃ (k : Nat) (s : Pt.St) (F : Nat → Prop), k ≤ N ∧ i = .int .i64 (k : Int) ∧ Mine18 LP W wx q k s F) (fun i _ => N - (intOf i).toNat)
  case atStart => exact ⟨0, _, F1, Nat.zero_le _, rfl, M1.out⟩
  case round =>
    obtain ⟨k, s, F, hk, rfl, hM⟩ := hrel
    have H3 : Hid (Mine18 LP W wr q k s F) := hM
    clear hM
    by_cases hlt : k < N
    · have hlt' : (k : Int) < (N : Int) := by omega
      have hk0 : (0 : Int) ≤ (k : Int) := by omega
      have hwk : IntKind.wrap .i64 ((k : Int) + 1) = (k : Int) + 1 := by rw [IntKind.wrap_i64]; omega
      obtain ⟨x, hx⟩ : ∃ x, xs[k]? = some x := ⟨xs[k]'(by rw [← HV.out.2]; exact hlt), List.getElem?_eq_getElem _⟩
      obtain ⟨g, o, b, L, cc, rfl, hL, hol, hcl⟩ := HV.out.1.at hx
      obtain ⟨c0, c1, c2, c3, c4⟩ := hcl wr H3.out.below
      have HX : Hid (AcOk18 x ∧ Om12 wr F (.slice b L cc) x.ops) := ⟨HS.out.2.2 x (List.mem_of_getElem? hx), arg18 hol H3.out.below H3.out.hi⟩
      clear hx hL hol hcl
      obtain ⟨op, id, sess, os, yes⟩ := x
      obtain ⟨bx, hbx⟩ : ∃ z, z = wr.heap.size := ⟨_, rfl⟩
      have H4 : Hid (At18 LP W (wr.alloc (.cells #[.int .i64 op, .int .i64 id, .int .i64 sess, .slice b L cc, .bool yes] 50)) q k s F bx ⟨op, id, sess, os, yes⟩ (.slice b L cc)) := by
        have hba := (Below.refl _ wr).alloc (Nat.le_refl _) (.cells #[.int .i64 op, .int .i64 id, .int .i64 sess, .slice b L cc, .bool yes] 50)
        exact ⟨H3.out.later HS.out.1 hba, by rw [hbx]; exact Kept11.made wr F (fun k hk => H3.out.flt HS.out.1 k hk) (ac18 ⟨op, id, sess, os, yes⟩ (.slice b L cc)) _, HX.out.2.later hba⟩
      have HY : Hid (I64 id ∧ I64 sess ∧ os.length ≤ maxLen ∧ ∀ o ∈ os, OFit o) := ⟨HX.out.1.id, HX.out.1.sess, HX.out.1.len, HX.out.1.ops⟩
      go_upto_region 10 with fail
      clear c0 c1 c2 c3 c4 H3 HX M1
      rw [← hbx]
      clear hbx
      generalize (wr.alloc (.cells #[.int .i64 op, .int .i64 id, .int .i64 sess, .slice b L cc, .bool yes] 50)) = w4 at *
      have c3 := H4.out.c3
      go_wp2_with fail
      refine (long_any18 (.slice b L cc) os w4 H4.out.arg.ol HY.out.2.2.1).mono ?_
      rintro e w5 ⟨rfl, hb⟩
      have H5 : Hid (At18 LP W w5 q k s F bx ⟨op, id, sess, os, yes⟩ (.slice b L cc)) := H4.out.later HS.out.1 hb
      clear hb H4 c3
      cases hgr : greatB os with
      | true =>
        clear hgr
        go_wp2
        go_ret
        exact ⟨rfl, H5.out.my.below⟩
      | false =>
      clear hgr
      obtain ⟨z, hz⟩ : ∃ z, z = s.z := ⟨_, rfl⟩
      have HZ : Hid (s.z = z ∧ k ≤ 30) := ⟨hz.symm, by have := HA.out; omega⟩
      have hwz : IntKind.wrap .i64 (z + 1) = z + 1 := by
        have h1 := H5.out.my.fit.z
        rw [IntKind.wrap_i64, hz]
        have := HA.out
        omega
      clear hz
      go_wp2_with fail
      refine (H5.out.my.zxid HS.out.1 z HZ.out.1).mono ?_
      rintro e w6 ⟨rfl, hM, hb⟩
      have H6 : Hid (At18 LP W w6 q k s F bx ⟨op, id, sess, os, yes⟩ (.slice b L cc)) := H5.out.later HS.out.1 hb
      clear hM hb H5
      have c0 := H6.out.c0
      by_cases e0 : op = 0
      · subst e0
        have c1 := H6.out.c1
        have c2 := H6.out.c2
        have c3 := H6.out.c3
        obtain ⟨br, hbr⟩ : ∃ z, z = w6.heap.size := ⟨_, rfl⟩
        have H7 : Hid (At18 LP W (w6.alloc (.cells #[.int .i64 sess, .int .i64 id, .slice b L cc] 41)) q k s F bx ⟨0, id, sess, os, yes⟩ (.slice b L cc) ∧ Kept11 (w6.alloc (.cells #[.int .i64 sess, .int .i64 id, .slice b L cc] 41)) F br [.int .i64 sess, .int .i64 id, .slice b L cc] 41) := by
          have hba := (Below.refl _ w6).alloc (Nat.le_refl _) (.cells #[.int .i64 sess, .int .i64 id, .slice b L cc] 41)
          exact ⟨H6.out.later HS.out.1 hba, by rw [hbr]; exact Kept11.made w6 F (fun k hk => H6.out.my.flt HS.out.1 k hk) [.int .i64 sess, .int .i64 id, .slice b L cc] _⟩
        go_upto_region 19 with fail
        clear c0 c1 c2 c3 H6
        rw [← hbr]
        clear hbr
        generalize (w6.alloc (.cells #[.int .i64 sess, .int .i64 id, .slice b L cc] 41)) = w7 at *
        obtain ⟨r, s2, hr⟩ : ∃ r s2, Pt.local_ s sess id os = (r, s2) := ⟨_, _, rfl⟩
        have HR : Hid (Pt.local_ s sess id os = (r, s2)) := hr
        clear hr
        have d0 : w7.cell? ⟨br, 0, none⟩ = some (.int .i64 sess) := H7.out.2.cb.cell 0
        have d1 : w7.cell? ⟨br, 1, none⟩ = some (.int .i64 id) := H7.out.2.cb.cell 1
        have d2 : w7.cell? ⟨br, 2, none⟩ = some (.slice b L cc) := H7.out.2.cb.cell 2
        go_wp2_with fail
        clear d0 d1 d2
        refine (H7.out.1.my.loc HS.out.1 HS.out.2.1 (by have := HZ.out.2; omega) sess id (.slice b L cc) os H7.out.1.arg HY.out.2.2.2 HY.out.2.2.1 HY.out.2.1 r s2 HR.out).mono ?_
        rintro e w8 ⟨F8, u, rfl, hrn, hM, hmv⟩
        have hns := hrn
        obtain ⟨ua, uk, uc, rfl, hj1, hj2⟩ := hns
        obtain ⟨bq, hbq⟩ : ∃ z, z = w8.heap.size := ⟨_, rfl⟩
        have H9 : Hid (Mine18 LP W (w8.alloc (.cells #[.int .i64 r.num, .int .i64 r.zxid, .int .i64 r.err, .int .i64 r.at_, .slice ua uk uc] 37)) q (k + 1) s2 F8 ∧ Om12 (w8.alloc (.cells #[.int .i64 r.num, .int .i64 r.zxid, .int .i64 r.err, .int .i64 r.at_, .slice ua uk uc] 37)) F8 (.slice b L cc) os ∧ Kept11 (w8.alloc (.cells #[.int .i64 r.num, .int .i64 r.zxid, .int .i64 r.err, .int .i64 r.at_, .slice ua uk uc] 37)) F8 br [.int .i64 sess, .int .i64 id, .slice b L cc] 41 ∧ Rb12 (w8.alloc (.cells #[.int .i64 r.num, .int .i64 r.zxid, .int .i64 r.err, .int .i64 r.at_, .slice ua uk uc] 37)) F8 w7.heap.size bq r (.slice ua uk uc)) := by
          have hba := (Below.refl _ w8).alloc (Nat.le_refl _) (.cells #[.int .i64 r.num, .int .i64 r.zxid, .int .i64 r.err, .int .i64 r.at_, .slice ua uk uc] 37)
          exact ⟨hM.later HS.out.1 hba, (H7.out.1.arg.moved hmv).later hba, (H7.out.2.moved hmv).later hba, by rw [hbq]; exact Rb12.made (fun k hk => hM.flt HS.out.1 k hk) hrn⟩
        clear hrn hM hmv hj1 hj2 H7
        unfold rpv
        go_upto_region 20 with fail
        rw [← hbq]
        clear hbq
        generalize (w8.alloc (.cells #[.int .i64 r.num, .int .i64 r.zxid, .int .i64 r.err, .int .i64 r.at_, .slice ua uk uc] 37)) = w9 at *
        have HQ := @Pt.loc_zx s sess id os
        rw [HR.out] at HQ
        obtain ⟨E, hE⟩ : ∃ E, E = Oq.may sess id os := ⟨_, rfl⟩
        rw [← hE] at HQ
        have HE : Hid (E = Oq.may sess id os) := hE
        have d0 : w9.cell? ⟨br, 0, none⟩ = some (.int .i64 sess) := H9.out.2.2.1.cb.cell 0
        have d1 : w9.cell? ⟨br, 1, none⟩ = some (.int .i64 id) := H9.out.2.2.1.cb.cell 1
        have d2 : w9.cell? ⟨br, 2, none⟩ = some (.slice b L cc) := H9.out.2.2.1.cb.cell 2
        clear hE
        by_cases hE0 : E = 0
        · have HQ2 : Hid (s2.z = z + 1 ∧ r.zxid = z + 1) := by rw [← HZ.out.1]; exact HQ.1 hE0
          subst hE0
          clear HQ
          go_wp2_with fail
          clear d0 d1 d2
          refine (may_spec sess id (.slice b L cc) os w9 (H9.out.1.std HS.out.2.1) H9.out.2.1.ol HY.out.2.2.1 HY.out.2.2.2).mono ?_
          rw [← HE.out]
          rintro e w10 ⟨rfl, hb⟩
          have H10 : Hid (Mine18 LP W w10 q (k + 1) s2 F8 ∧ Om12 w10 F8 (.slice b L cc) os ∧ Kept11 w10 F8 br [.int .i64 sess, .int .i64 id, .slice b L cc] 41 ∧ Rb12 w10 F8 w7.heap.size bq r (.slice ua uk uc)) := ⟨H9.out.1.later HS.out.1 hb, H9.out.2.1.later hb, H9.out.2.2.1.later hb, H9.out.2.2.2.later hb⟩
          clear hb H9
          go_wp2_with fail
          refine (H10.out.1.zxid HS.out.1 (z + 1) HQ2.out.1).mono ?_
          rintro e w11 ⟨rfl, hM, hb⟩
          have H11 : Hid (Mine18 LP W w11 q (k + 1) s2 F8 ∧ Om12 w11 F8 (.slice b L cc) os) := ⟨hM, H10.out.2.1.later hb⟩
          have d0 : w11.cell? ⟨br, 0, none⟩ = some (.int .i64 sess) := (H10.out.2.2.1.later hb).cb.cell 0
          have d1 : w11.cell? ⟨br, 1, none⟩ = some (.int .i64 id) := (H10.out.2.2.1.later hb).cb.cell 1
          have d2 : w11.cell? ⟨br, 2, none⟩ = some (.slice b L cc) := (H10.out.2.2.1.later hb).cb.cell 2
          have q1 : w11.cell? ⟨bq, 1, none⟩ = some (.int .i64 (z + 1)) := by rw [← HQ2.out.2]; exact (H10.out.2.2.2.later hb).blk.cb.cell 1
          have hne : ((z + 1) != (z + 1)) = false := by simp
          clear hM hb H10
          go_wp2_with fail
          clear d0 d1 d2 q1 hne
          refine (may_spec sess id (.slice b L cc) os w11 (H11.out.1.std HS.out.2.1) H11.out.2.ol HY.out.2.2.1 HY.out.2.2.2).mono ?_
          rw [← HE.out]
          rintro e w12 ⟨rfl, hb⟩
          have H12 : Hid (Mine18 LP W w12 q (k + 1) s2 F8) := H11.out.1.later HS.out.1 hb
          clear hb H11
          go_wp2
          go_roundw
          case rel => exact ⟨k + 1, s2, F8, by omega, by go_num, H12.out⟩
          case measure => simp [intOf]; omega
        · have HQ2 : Hid (s2.z = z ∧ r.zxid = 0) := by
            have h := HQ.2 hE0
            have h1 : s2 = s := h.1
            exact ⟨by rw [h1]; exact HZ.out.1, h.2⟩
          have hEf : (E == 0) = false := by simp [hE0]
          have hEt : (E != 0) = true := by simp [hE0]
          clear HQ hE0
          go_wp2_with fail
          clear d0 d1 d2
          refine (may_spec sess id (.slice b L cc) os w9 (H9.out.1.std HS.out.2.1) H9.out.2.1.ol HY.out.2.2.1 HY.out.2.2.2).mono ?_
          rw [← HE.out]
          rintro e w10 ⟨rfl, hb⟩
          have H10 : Hid (Mine18 LP W w10 q (k + 1) s2 F8 ∧ Om12 w10 F8 (.slice b L cc) os ∧ Kept11 w10 F8 br [.int .i64 sess, .int .i64 id, .slice b L cc] 41 ∧ Rb12 w10 F8 w7.heap.size bq r (.slice ua uk uc)) := ⟨H9.out.1.later HS.out.1 hb, H9.out.2.1.later hb, H9.out.2.2.1.later hb, H9.out.2.2.2.later hb⟩
          clear hb H9
          have d0 : w10.cell? ⟨br, 0, none⟩ = some (.int .i64 sess) := H10.out.2.2.1.cb.cell 0
          have d1 : w10.cell? ⟨br, 1, none⟩ = some (.int .i64 id) := H10.out.2.2.1.cb.cell 1
          have d2 : w10.cell? ⟨br, 2, none⟩ = some (.slice b L cc) := H10.out.2.2.1.cb.cell 2
          go_wp2_with fail
          clear d0 d1 d2
          refine (may_spec sess id (.slice b L cc) os w10 (H10.out.1.std HS.out.2.1) H10.out.2.1.ol HY.out.2.2.1 HY.out.2.2.2).mono ?_
          rw [← HE.out]
          rintro e w11 ⟨rfl, hb⟩
          have H11 : Hid (Mine18 LP W w11 q (k + 1) s2 F8 ∧ Rb12 w11 F8 w7.heap.size bq r (.slice ua uk uc)) := ⟨H10.out.1.later HS.out.1 hb, H10.out.2.2.2.later hb⟩
          clear hb H10
          go_wp2_with fail
          refine (H11.out.1.zxid HS.out.1 z HQ2.out.1).mono ?_
          rintro e w12 ⟨rfl, hM, hb⟩
          have H12 : Hid (Mine18 LP W w12 q (k + 1) s2 F8) := hM
          have q1 : w12.cell? ⟨bq, 1, none⟩ = some (.int .i64 0) := by rw [← HQ2.out.2]; exact (H11.out.2.later hb).blk.cb.cell 1
          have hne : (z != z) = false := by simp
          clear hM hb H11
          go_wp2
          go_roundw
          case rel => exact ⟨k + 1, s2, F8, by omega, by go_num, H12.out⟩
          case measure => simp [intOf]; omega
      by_cases e1 : op = 1
      · subst e1
        clear e0
        have c1 := H6.out.c1
        have c2 := H6.out.c2
        have c3 := H6.out.c3
        obtain ⟨a, b2, s2, hr⟩ : ∃ a b2 s2, Pt.prepare s id sess os = ((a, b2), s2) := ⟨_, _, _, rfl⟩
        have HR : Hid (Pt.prepare s id sess os = ((a, b2), s2) ∧ s2.z = z) := ⟨hr, by have h := @Pt.prep_zx s id sess os; rw [hr] at h; rw [← HZ.out.1]; exact h⟩
        clear hr
        go_wp2_with fail
        clear c0 c1 c2 c3
        refine (H6.out.my.prep HS.out.1 HS.out.2.1 (by have := HZ.out.2; omega) id sess (.slice b L cc) os H6.out.arg HY.out.2.2.2 HY.out.2.2.1 HY.out.1 HY.out.2.1 a b2 s2 HR.out.1).mono ?_
        rintro e w8 ⟨F8, rfl, hM, hmv⟩
        have H8 : Hid (Mine18 LP W w8 q (k + 1) s2 F8) := hM
        clear hM hmv H6
        go_wp2_with fail
        refine (H8.out.zxid HS.out.1 z HR.out.2).mono ?_
        rintro e w9 ⟨rfl, hM, hb⟩
        have H9 : Hid (Mine18 LP W w9 q (k + 1) s2 F8) := hM
        have hne : (z != z) = false := by simp
        clear hM hb H8
        go_wp2
        go_roundw
        case rel => exact ⟨k + 1, s2, F8, by omega, by go_num, H9.out⟩
        case measure => simp [intOf]; omega
      by_cases e2 : op = 2
      · subst e2
        clear e0 e1
        have c1 := H6.out.c1
        have c2 := H6.out.c2
        obtain ⟨a, b2, s2, hr⟩ : ∃ a b2 s2, Pt.close s id sess = ((a, b2), s2) := ⟨_, _, _, rfl⟩
        have HR : Hid (Pt.close s id sess = ((a, b2), s2) ∧ s2.z = z) := ⟨hr, by have h := @Pt.clo_zx s id sess; rw [hr] at h; rw [← HZ.out.1]; exact h⟩
        clear hr
        go_wp2_with fail
        clear c0 c1 c2
        refine (H6.out.my.clo HS.out.1 HS.out.2.1 (by have := HZ.out.2; omega) id sess HY.out.1 HY.out.2.1 a b2 s2 HR.out.1).mono ?_
        rintro e w8 ⟨F8, rfl, hM, hmv⟩
        have H8 : Hid (Mine18 LP W w8 q (k + 1) s2 F8) := hM
        clear hM hmv H6
        go_wp2_with fail
        refine (H8.out.zxid HS.out.1 z HR.out.2).mono ?_
        rintro e w9 ⟨rfl, hM, hb⟩
        have H9 : Hid (Mine18 LP W w9 q (k + 1) s2 F8) := hM
        have hne : (z != z) = false := by simp
        clear hM hb H8
        go_wp2
        go_roundw
        case rel => exact ⟨k + 1, s2, F8, by omega, by go_num, H9.out⟩
        case measure => simp [intOf]; omega
      have f0 : (op == 0) = false := by simp [e0]
      have f1 : (op == 1) = false := by simp [e1]
      have f2 : (op == 2) = false := by simp [e2]
      clear e0 e1 e2
      have c1 := H6.out.c1
      have c4 := H6.out.c4
      obtain ⟨rs, er, s2, hr⟩ : ∃ rs er s2, Pt.decide_ s id yes = ((rs, er), s2) := ⟨_, _, _, rfl⟩
      have HR : Hid (Pt.decide_ s id yes = ((rs, er), s2)) := hr
      have HD : Hid ((er = 0 ∧ s2.z = z + 1) ∨ (er = 4 ∧ s2.z = z)) := by
        have h := @Pt.dec_zx s id yes
        rw [hr, HZ.out.1] at h
        exact h
      clear hr
      go_wp2_with fail
      clear c0 c1 c4
      refine (H6.out.my.dec HS.out.1 HS.out.2.1 (by have := HZ.out.2; omega) id yes HY.out.1 rs er s2 HR.out).mono ?_
      rintro e w8 ⟨F8, u, rfl, hrn, hM, hmv⟩
      have H8 : Hid (Mine18 LP W w8 q (k + 1) s2 F8) := hM
      clear hrn hM hmv H6 f0 f1 f2
      rcases HD.out with ⟨h1, h2⟩ | ⟨h1, h2⟩
      · have HD2 : Hid (s2.z = z + 1) := h2
        subst h1
        clear h2
        go_wp2_with fail
        refine (H8.out.zxid HS.out.1 (z + 1) HD2.out).mono ?_
        rintro e w9 ⟨rfl, hM, hb⟩
        have H9 : Hid (Mine18 LP W w9 q (k + 1) s2 F8) := hM
        have hne : ((z + 1) == (z + 1)) = true := by simp
        clear hM hb H8
        go_wp2
        go_roundw
        case rel => exact ⟨k + 1, s2, F8, by omega, by go_num, H9.out⟩
        case measure => simp [intOf]; omega
      · have HD2 : Hid (s2.z = z) := h2
        subst h1
        clear h2
        go_wp2_with fail
        refine (H8.out.zxid HS.out.1 z HD2.out).mono ?_
        rintro e w9 ⟨rfl, hM, hb⟩
        have H9 : Hid (Mine18 LP W w9 q (k + 1) s2 F8) := hM
        have hne : (z == (z + 1)) = false := by simp; omega
        clear hM hb H8
        go_wp2
        go_roundw
        case rel => exact ⟨k + 1, s2, F8, by omega, by go_num, H9.out⟩
        case measure => simp [intOf]; omega
    · have hlt' : ¬ (k : Int) < (N : Int) := by omega
      go_wp2
      go_ret
      exact ⟨rfl, H3.out.below⟩
end Go.Proofs.YtboejbjobjhajaaGreatDoor
