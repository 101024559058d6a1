/- SessReads' walk. -/
import Derived.Test.YtlabdhllindenaaLBack15
import Derived.Test.YtlabdhllindenaaRefG15
import Derived.Test.YtlabdhllindenaaRefT15
namespace Go.Proofs.Ytlabdhllindenaa
open Go.RowKit

theorem index_two15 (a0 a1 : Option Addr) (L0 L1 c0 c1 : Nat) (w : World) : (Instr.index 46 (.agg #[.slice a0 L0 c0, .slice a1 L1 c1]) (.int .i64 0)).run Try.prog w = .ok (.slice a0 L0 c0) w ∧ (Instr.index 46 (.agg #[.slice a0 L0 c0, .slice a1 L1 c1]) (.int .i64 1)).run Try.prog w = .ok (.slice a1 L1 c1) w := by
  constructor <;> kernel_rfl
set_option maxRecDepth 20000 in
set_option maxHeartbeats 16000000 in
theorem reads_walk15 {LS : Rep15} (S : Specs15 LS) (v u : Value) (xs : List Sq.Ac) (pt : Int) (yb : UInt8) (bs : List UInt8) (W : World) (hv : Acl15 W v xs) (hu : Bs W u bs) (hl : xs.length ≤ maxLen) (hl2 : bs.length ≤ maxLen) :
    Calls Try.prog 5 #[v, .int .i64 pt, .int .u8 (yb.toNat : Int), u] W fun e w' => e = .returned (.bool true) ∧ Below W.heap.size W w' := by
  have HS : Hid (Specs15 LS) := S
  obtain ⟨av, N, c, rfl, hN, hj⟩ := hv
  have HV : Hid (Acl15 W (.slice av N c) xs ∧ N = xs.length) := ⟨⟨av, N, c, rfl, hN, hj⟩, hN⟩
  have HU0 : Hid (Bs W u bs) := hu
  obtain ⟨au, M, cu, rfl, hM, hk⟩ := hu
  have HU : Hid (Bs W (.slice au M cu) bs ∧ M = bs.length) := ⟨HU0.out, hM⟩
  have hN1 : N ≤ 9223372036854775807 := by unfold maxLen at hl; omega
  have hM1 : M ≤ 9223372036854775807 := by unfold maxLen at hl2; omega
  clear S hl hl2 hN hM hj hk HU0
  go_enter Try.func5, Try.ntmps5
  go_wp2_with fail
  refine (awake_any15 HS.out W).mono ?_
  rintro e w0 ⟨rfl, hb0⟩
  have H0 : Hid (Below W.heap.size W w0) := hb0
  clear hb0
  by_cases h40 : 40 < N
  · have h40' : (40 : Int) < (N : Int) := by omega
    go_wp2
    go_ret
    exact ⟨rfl, H0.out⟩
  have h40' : ¬ (40 : Int) < (N : Int) := by omega
  by_cases h500 : 500 < M
  · have h500' : (500 : Int) < (M : Int) := by omega
    go_wp2
    go_ret
    exact ⟨rfl, H0.out⟩
  have h500' : ¬ (500 : Int) < (M : Int) := by omega
  have HM5 : Hid (bs.length ≤ 2000 ∧ M ≤ 500) := ⟨by have := HU.out.2; omega, by omega⟩
  go_wp2_with fail
  refine (mine15_new HS.out H0.out 5 (by decide)).mono ?_
  rintro e w1 ⟨q, F1, rfl, hM⟩
  have M1 : Hid (Mine15 LS W w1 q 1 (Sq.new 5) F1) := hM
  clear hM H0
  go_wp2
  go_loopw [11] (fun i wx => ∃ (k : Nat) (s : Sq.St) (F : Nat → Prop), k ≤ N ∧ i = .int .i64 (k : Int) ∧ Mine15 LS W wx q ((k : Int) + 1) s F) (fun i _ => N - (intOf i).toNat)
  case atStart => exact ⟨0, _, F1, Nat.zero_le _, rfl, M1.out⟩
  case round =>
    obtain ⟨k, s, F, hk, rfl, hM⟩ := hrel
    have H3 : Hid (Mine15 LS W wr q ((k : Int) + 1) s F) := hM
    clear hM M1
    by_cases hlt : k < N
    · have hlt' : (k : Int) < (N : Int) := by omega
      have hk0 : (0 : Int) ≤ (k : Int) := by omega
      have hwk : IntKind.wrap .i64 ((k : Int) + 1) = (k : Int) + 1 := by rw [IntKind.wrap_i64]; omega
      obtain ⟨x, hx⟩ : ∃ x, xs[k]? = some x := ⟨xs[k]'(by rw [← HV.out.2]; exact hlt), List.getElem?_eq_getElem _⟩
      obtain ⟨g, o, rfl, c0, c1, c2⟩ := (HV.out.1.below H3.out.below).at hx
      clear hx
      have hkm : ((k : Int) + 1) ≤ 1000000 := by omega
      by_cases ho0 : x.op = 0
      · have hob : (x.op == 0) = true := by simp [ho0]
        clear ho0
        obtain ⟨za, zb, s6, hz⟩ : ∃ za zb s6, Sq.op s x.span = (za, zb, s6) := ⟨_, _, _, rfl⟩
        have HZ : Hid (Sq.op s x.span = (za, zb, s6)) := hz
        clear hz
        go_wp2_with fail
        refine (H3.out.opn HS.out hkm x.span za zb s6 HZ.out).mono ?_
        rintro e w6 ⟨F6, rfl, hM6, hmv⟩
        have H6 : Hid (Mine15 LS W w6 q ((k : Int) + 1 + 1) s6 F6) := hM6
        clear hM6 hmv H3 c0 c1 c2
        go_wp2
        go_roundw
        case rel => exact ⟨k + 1, s6, F6, by omega, by go_num, by simpa using H6.out⟩
        case measure => simp [intOf]; omega
      have hob : (x.op == 0) = false := by simp [ho0]
      by_cases ho3 : x.op = 3
      · have hob3 : (x.op == 3) = true := by simp [ho3]
        clear ho0 ho3
        go_wp2_with fail
        refine (H3.out.tick HS.out hkm (Sq.over s) (Sq.tick s) rfl rfl).mono ?_
        rintro e w6 ⟨F6, vt, rfl, hit, hot, hM6, hmv⟩
        have H6 : Hid (Mine15 LS W w6 q ((k : Int) + 1 + 1) (Sq.tick s) F6) := hM6
        obtain ⟨at3, nt3, ct3, rfl, hnt3, hct3⟩ := hit
        clear hM6 hmv H3 hot hnt3 hct3 c0 c1 c2
        go_wp2
        go_roundw
        case rel => exact ⟨k + 1, _, F6, by omega, by go_num, by simpa using H6.out⟩
        case measure => simp [intOf]; omega
      · have hob3 : (x.op == 3) = false := by simp [ho3]
        clear ho0 ho3
        obtain ⟨za, s6, hz⟩ : ∃ za s6, Sq.close s x.id = (za, s6) := ⟨_, _, rfl⟩
        have HZ : Hid (Sq.close s x.id = (za, s6)) := hz
        clear hz
        go_wp2_with fail
        refine (H3.out.close HS.out hkm x.id za s6 HZ.out).mono ?_
        rintro e w6 ⟨F6, rfl, hM6, hmv⟩
        have H6 : Hid (Mine15 LS W w6 q ((k : Int) + 1 + 1) s6 F6) := hM6.mono (by omega)
        clear hM6 hmv H3 c0 c1 c2
        go_wp2
        go_roundw
        case rel => exact ⟨k + 1, s6, F6, by omega, by go_num, by simpa using H6.out⟩
        case measure => simp [intOf]; omega
    · have hlt' : ¬ (k : Int) < (N : Int) := by omega
      have HBL : Hid ((Sq.bytes s).length ≤ 1568) := Sq.bytes_len H3.out.fine
      go_wp2_with fail
      refine (H3.out.put HS.out).mono ?_
      rintro e w4 ⟨vp, rfl, hvp, hM4, hb4⟩
      obtain ⟨LB, hLB⟩ : ∃ z, z = (Sq.bytes s).length := ⟨_, rfl⟩
      rw [← hLB] at hvp
      have H4 : Hid (Below W.heap.size W w4 ∧ w4.ownsRow W.heap.size 5 1 vp LB (bc (Sq.bytes s)) ∧ LB = (Sq.bytes s).length) := ⟨hM4.below, hvp.mono (H3.out.below.size), hLB⟩
      obtain ⟨ap, cp, hve, _, hap⟩ := row_form hvp
      subst hve
      have hLB1 : LB ≤ 1568 := by rw [hLB]; exact HBL.out
      have HAP : Hid (0 < LB → ∃ g, ap = some ⟨g, 0, none⟩) := hap
      clear hM4 hvp hb4 hLB H3 hap
      by_cases hp1 : 0 ≤ pt ∧ pt < (LB : Int)
      · obtain ⟨P, hP⟩ : ∃ P : Nat, pt = (P : Int) := ⟨pt.toNat, by omega⟩
        subst hP
        obtain ⟨gp, hgp⟩ := HAP.out (by omega)
        subst hgp
        have p0 : (0 : Int) ≤ (P : Int) := by omega
        have p1 : (P : Int) < (LB : Int) := by omega
        obtain ⟨xo, hxo⟩ : ∃ xo, (Sq.bytes s)[P]? = some xo := ⟨(Sq.bytes s)[P]'(by rw [← H4.out.2.2]; omega), List.getElem?_eq_getElem _⟩
        have hx8 : bits .xor .u8 (xo.toNat : Int) (yb.toNat : Int) = ((xo ^^^ yb).toNat : Int) := xor8 xo yb
        have cx : w4.cell? ⟨gp, P, none⟩ = some (.int .u8 (xo.toNat : Int)) := by
          rw [H4.out.2.1.cellAt _ (by omega)]
          simp [bc, hxo]
        have fx : w4.frozen? ⟨gp, P, none⟩ = false := by
          obtain ⟨cur, hcur⟩ := row_in H4.out.2.1 rfl
          simp only [World.frozen?, hcur]
          rfl
        obtain ⟨A0, hA0⟩ : ∃ A, A = (Sq.bytes s).set P (xo ^^^ yb) := ⟨_, rfl⟩
        have HY : Hid (Below W.heap.size W (w4.setCell ⟨gp, P, none⟩ (.int .u8 ((xo.toNat ^^^ yb.toNat : Nat) : Int))) ∧ Bs (w4.setCell ⟨gp, P, none⟩ (.int .u8 ((xo.toNat ^^^ yb.toNat : Nat) : Int))) (.slice (some ⟨gp, 0, none⟩) LB cp) A0 ∧ A0.length ≤ 2000) := by
          have hr := own_set (i := P) (xo ^^^ yb) H4.out.2.1
          have hg := grownBy_setCell w4 ⟨gp, P, none⟩ (.int .u8 ((xo ^^^ yb).toNat : Int))
          have hlo := (H4.out.2.1.lt gp rfl).1
          have e9 : ((xo.toNat ^^^ yb.toNat : Nat) : Int) = ((xo ^^^ yb).toNat : Int) := by rw [UInt8.toNat_xor]
          rw [hA0, e9]
          refine ⟨H4.out.1.grown hg H4.out.1.size (fun k hk => by simp at hk; omega), Bs.own hr, by rw [List.length_set]; have := HBL.out; omega⟩
        clear hA0 hxo
        go_upto_region 17 with fail
        clear cx fx
        generalize (w4.setCell ⟨gp, P, none⟩ (.int .u8 ((xo.toNat ^^^ yb.toNat : Nat) : Int))) = w5 at *
        obtain ⟨a0, ha0⟩ : ∃ z : Option Addr, z = some ⟨gp, 0, none⟩ := ⟨_, rfl⟩
        rw [← ha0] at HY
        rw [← ha0]
        clear ha0
        obtain ⟨L0, hL0⟩ : ∃ z, z = LB := ⟨_, rfl⟩
        obtain ⟨c0, hc0⟩ : ∃ z, z = cp := ⟨_, rfl⟩
        rw [← hL0, ← hc0] at HY
        rw [← hL0, ← hc0]
        clear hL0 hc0
        go_wp2
        go_loopw [89] (fun i wx => ∃ k : Nat, k ≤ 2 ∧ i = .int .i64 (k : Int) ∧ Below W.heap.size W wx ∧ Bs wx (.slice a0 L0 c0) A0) (fun i _ => 2 - (intOf i).toNat)
        case atStart => exact ⟨0, by omega, rfl, HY.out.1, HY.out.2.1⟩
        case round =>
          obtain ⟨k2, hk2, rfl, hbw, hbs⟩ := hrel
          have HW : Hid (Below W.heap.size W wr ∧ Bs wr (.slice a0 L0 c0) A0) := ⟨hbw, hbs⟩
          clear hbw hbs
          by_cases h2 : k2 < 2
          · rcases (show k2 = 0 ∨ k2 = 1 by omega) with rfl | rfl
            · have HP0 : Hid (Bs wr (.slice a0 L0 c0) A0 ∧ A0.length ≤ 2000) := ⟨HW.out.2, HY.out.2.2⟩
              have hix := (index_two15 a0 au L0 M c0 cu wr).1
              have HCY : Hid (Bs wr (.slice a0 L0 c0) A0 ∧ A0.length ≤ 2000) := HP0.out
              cases hg : Sq.get A0 with
              | none =>
                have HGN : Hid (Sq.get A0 = none) := hg
                clear hg
                go_wp2_with fail
                refine (mine15_getno HS.out _ A0 wr HCY.out.1 HCY.out.2 HGN.out).mono ?_
                rintro e s1 ⟨rfl, hb⟩
                have J1 : Hid (Below W.heap.size W s1 ∧ Bs s1 (.slice a0 L0 c0) A0 ∧ Bs s1 (.slice a0 L0 c0) A0) := ⟨HW.out.1.trans (hb.mono HW.out.1.size), HCY.out.1.below hb, HW.out.2.below hb⟩
                clear hb
                go_wp2_with fail
                refine (refGet_walk15 _ A0 s1 J1.out.2.1 HCY.out.2).mono ?_
                intro e s2 hP
                obtain ⟨hb2, hno, _⟩ := hP
                obtain ⟨pv, rfl⟩ := hno HGN.out
                have J2 : Hid (Below W.heap.size W s2 ∧ Bs s2 (.slice a0 L0 c0) A0) := ⟨J1.out.1.trans (hb2.mono J1.out.1.size), J1.out.2.2.below hb2⟩
                clear hb2 hno J1
                go_wp2
                go_quiet (fail)
                have J3 : Hid (Below W.heap.size W (s2.drewN nq) ∧ Bs (s2.drewN nq) (.slice a0 L0 c0) A0) := ⟨below_drewN J2.out.1 _, J2.out.2.below (below_drewN (Below.refl _ _) _)⟩
                go_wp2
                go_roundw
                case rel => exact ⟨0 + 1, by omega, by go_num, J3.out.1, J3.out.2⟩
                case measure => simp [intOf]
              | some st =>
                have HGS : Hid (Sq.get A0 = some st ∧ Sq.bytes st = A0) := ⟨hg, (Sq.get_inv hg).2⟩
                clear hg
                go_wp2_with fail
                refine (mine15_get HS.out HW.out.1 _ A0 HCY.out.1 HCY.out.2 st HGS.out.1).mono ?_
                rintro e s1 ⟨q5, F5, rfl, hM1, hF5, hb⟩
                have J1 : Hid (Mine15 LS W s1 q5 1099511627776 st F5 ∧ Bs s1 (.slice a0 L0 c0) A0 ∧ Bs s1 (.slice a0 L0 c0) A0) := ⟨hM1, HCY.out.1.below hb, HW.out.2.below hb⟩
                clear hb hM1 hF5
                go_wp2_with fail
                refine (refGet_walk15 _ A0 s1 J1.out.2.1 HCY.out.2).mono ?_
                intro e s2 hP
                obtain ⟨hb2, _, hys⟩ := hP
                obtain ⟨r5, G5, rfl, hR5, hG5⟩ := hys st HGS.out.1
                have J2 : Hid (Bo15 LS LRe W s2 q5 r5 1099511627776 st st F5 G5 ∧ Bs s2 (.slice a0 L0 c0) A0 ∧ Bs s2 (.slice a0 L0 c0) A0) := by
                  have h1 := J1.out.1.later HS.out hb2
                  have hsz := J1.out.1.below.size
                  exact ⟨⟨h1, ⟨hR5, h1.fine, fun j hj => by have := hG5 j hj; omega, h1.below⟩, fun j hj e => by have := HS.out.lt J1.out.1.ld hj; have := hG5 j e; omega⟩, J1.out.2.1.below hb2, J1.out.2.2.below hb2⟩
                clear hb2 hys hR5 hG5 J1
                have HLN : Hid ((Sq.all st).length ≤ 1000) := (show (Sq.all st).length ≤ 1000 by have h := J2.out.1.one.fine.len64; unfold Sq.all; simp; omega)
                obtain ⟨Z, hZ⟩ : ∃ Z : ByteArray, Z = ⟨A0.toArray⟩ := ⟨_, rfl⟩
                have HZZ : Hid (Z = ⟨A0.toArray⟩) := hZ
                have hzz : (Z.toList == Z.toList) = true := by simp
                have hzn : (Z.toList != Z.toList) = false := by simp
                have hnn : (st.now != st.now) = false := by simp
                clear hZ
                go_wp2
                refine wp_region_held_drew (S := fun w' => Below s2.heap.size s2 w') (by kernel_rfl) (Below.refl _ _).drew (fun _ => ?_)
                refine wpAnyH_more (S' := fun w' => Below s2.drew.heap.size s2.drew w') (fun w' h => below_drew h) _ _ _ _ ?_
                have Js0 : Hid (Bo15 LS LRe W s2.drew q5 r5 1099511627776 st st F5 G5 ∧ Below s2.drew.heap.size s2.drew s2.drew) := ⟨J2.out.1.later HS.out LRe.lt LRe.keep (Below.refl _ _).drew, Below.refl _ _⟩
                have HCL : Hid (∀ w', Below s2.drew.heap.size s2.drew w' → w'.cell? ⟨r5, 1, none⟩ = some (.int .i64 st.now)) := by
                  have hR := Js0.out.1.two.ld
                  exact fun w' hb => by
                    obtain ⟨vr, hvr, _⟩ := hR
                    exact (hvr.later hb).blk.cell 1
                have HBY : Hid (Bs s2.drew (.slice a0 L0 c0) A0 ∧ Bs s2.drew (.slice a0 L0 c0) A0) := ⟨J2.out.2.1.below (Below.refl _ _).drew, J2.out.2.2.below (Below.refl _ _).drew⟩
                clear J2
                generalize s2.drew = s0 at *
                refine' take_at (i := 0) (d := 118) (v := _) rfl rfl (by kernel_rfl) (by kernel_rfl) (by kernel_rfl) (fun _ _ _ h => h) (Or.inl ⟨by rfl, ?h0⟩) (Js0.out.2) ?_
                case h0 =>
                  intro w hSw
                  go_simp
                  with_reducible rfl
                simp only [List.setIfInBounds_toArray, List.set_cons_zero, List.set_cons_succ]
                refine' take_at (i := 1) (d := 119) (v := _) rfl rfl (by kernel_rfl) (by kernel_rfl) (by kernel_rfl) (fun _ _ _ h => h) (Or.inl ⟨by rfl, ?h1⟩) (Js0.out.2) ?_
                case h1 =>
                  intro w hSw
                  go_simp
                  with_reducible rfl
                simp only [List.setIfInBounds_toArray, List.set_cons_zero, List.set_cons_succ]
                refine' take_at (i := 2) (d := 120) (v := _) rfl rfl (by kernel_rfl) (by kernel_rfl) (by kernel_rfl) (fun _ _ _ h => h) (Or.inl ⟨by rfl, ?h2⟩) (Js0.out.2) ?_
                case h2 =>
                  intro w hSw
                  go_simp
                  with_reducible rfl
                simp only [List.setIfInBounds_toArray, List.set_cons_zero, List.set_cons_succ]
                refine' take_at (i := 5) (d := 123) (v := _) rfl rfl (by kernel_rfl) (by kernel_rfl) (by kernel_rfl) (fun _ _ _ h => h) (Or.inl ⟨by rfl, ?h5⟩) (Js0.out.2) ?_
                case h5 =>
                  intro w hSw
                  go_simp
                  with_reducible rfl
                simp only [List.setIfInBounds_toArray, List.set_cons_zero, List.set_cons_succ]
                refine' take_at (i := 6) (d := 124) (v := _) rfl rfl (by kernel_rfl) (by kernel_rfl) (by kernel_rfl) (fun _ _ _ h => h) (Or.inl ⟨by rfl, ?h6⟩) (Js0.out.2) ?_
                case h6 =>
                  intro w hSw
                  have hcv := (HBY.out.1.below hSw).conv
                  rw [← HZZ.out] at hcv
                  go_simp
                  with_reducible rfl
                simp only [List.setIfInBounds_toArray, List.set_cons_zero, List.set_cons_succ]
                refine wpAnyH_ready (rs := [3]) (by kernel_rfl) (by simp) ?_
                refine AllReadyH.cons (o := _) rfl (fun KQ hKQ => ?_) AllReadyH.nil
                go_simp
                refine (Js0.out.1.one.put HS.out).mono ?_
                rintro e s3 ⟨vp, rfl, hvp, hM, hb⟩
                have Js3 : Hid (Bo15 LS LRe W s3 q5 r5 1099511627776 st st F5 G5 ∧ Below s0.heap.size s0 s3 ∧ Bs s3 vp A0) := ⟨Js0.out.1.later HS.out LRe.lt LRe.keep hb, Js0.out.2.trans (hb.mono Js0.out.2.size), by have h := Bs.own hvp; rw [HGS.out.2] at h; exact h⟩
                obtain ⟨ap3, cp3, hve3, _, _⟩ := row_form hvp
                obtain ⟨LB3, hLB3⟩ : ∃ z, z = (Sq.bytes st).length := ⟨_, rfl⟩
                rw [← hLB3] at hve3
                subst hve3
                clear hvp hM hLB3 Js0 hb
                simp only []
                refine hKQ.out _ _ Js3.out.2.1 (fun _ => ?_)
                refine wpAnyH_more (S' := fun w' => Below s3.heap.size s3 w') (fun w' h => Js3.out.2.1.trans (h.mono Js3.out.2.1.size)) _ _ _ _ ?_
                clear hKQ KQ
                refine' take_at (i := 4) (d := 122) (v := _) rfl rfl (by kernel_rfl) (by kernel_rfl) (by kernel_rfl) (fun _ _ _ h => h) (Or.inl ⟨by rfl, ?h4⟩) (Below.refl _ _) ?_
                case h4 =>
                  intro w hSw
                  have hcv := (Js3.out.2.2.below hSw).conv
                  rw [← HZZ.out] at hcv
                  go_simp
                  with_reducible rfl
                simp only [List.setIfInBounds_toArray, List.set_cons_zero, List.set_cons_succ]
                refine wpAnyH_more (S' := fun w' => Below s3.heap.size s3 w') (fun w' h => h) _ _ _ _ ?_
                have Jt0 : Hid (Bo15 LS LRe W s3 q5 r5 1099511627776 st st F5 G5 ∧ Below s3.heap.size s3 s3 ∧ Below s0.heap.size s0 s3) := ⟨Js3.out.1, Below.refl _ _, Js3.out.2.1⟩
                have HCL3 : Hid (∀ w', Below s3.heap.size s3 w' → w'.cell? ⟨r5, 1, none⟩ = some (.int .i64 st.now)) := fun w' hb => HCL.out w' (Js3.out.2.1.trans (hb.mono Js3.out.2.1.size))
                have HBY3 : Hid (∀ w', Below s3.heap.size s3 w' → Bs w' (.slice a0 L0 c0) A0) := fun w' hb => HBY.out.2.below (Js3.out.2.1.trans (hb.mono Js3.out.2.1.size))
                clear Js3 HCL HBY
                generalize s3 = t0 at *
                refine' take_at (i := 7) (d := 125) (v := _) rfl rfl (by kernel_rfl) (by kernel_rfl) (by kernel_rfl) (fun _ _ _ h => h) (Or.inl ⟨by rfl, ?h7⟩) (Jt0.out.2.1) ?_
                case h7 =>
                  intro w hSw
                  go_simp
                  with_reducible rfl
                simp only [List.setIfInBounds_toArray, List.set_cons_zero, List.set_cons_succ]
                refine' take_at (i := 8) (d := 126) (v := _) rfl rfl (by kernel_rfl) (by kernel_rfl) (by kernel_rfl) (fun _ _ _ h => h) (Or.inl ⟨by rfl, ?h8⟩) (Jt0.out.2.1) ?_
                case h8 =>
                  intro w hSw
                  go_simp
                  with_reducible rfl
                simp only [List.setIfInBounds_toArray, List.set_cons_zero, List.set_cons_succ]
                refine' take_at (i := 9) (d := 127) (v := _) rfl rfl (by kernel_rfl) (by kernel_rfl) (by kernel_rfl) (fun _ _ _ h => h) (Or.inl ⟨by rfl, ?h9⟩) (Jt0.out.2.1) ?_
                case h9 =>
                  intro w hSw
                  go_simp
                  with_reducible rfl
                simp only [List.setIfInBounds_toArray, List.set_cons_zero, List.set_cons_succ]
                refine' take_at (i := 11) (d := 129) (v := _) rfl rfl (by kernel_rfl) (by kernel_rfl) (by kernel_rfl) (fun _ _ _ h => h) (Or.inl ⟨by rfl, ?h11⟩) (Jt0.out.2.1) ?_
                case h11 =>
                  intro w hSw
                  go_simp
                  with_reducible rfl
                simp only [List.setIfInBounds_toArray, List.set_cons_zero, List.set_cons_succ]
                refine wpAnyH_ready (rs := [10]) (by kernel_rfl) (by simp) ?_
                refine AllReadyH.cons (o := _) rfl (fun KQ hKQ => ?_) AllReadyH.nil
                go_simp
                refine (Jt0.out.1.one.all HS.out).mono ?_
                rintro e t1 ⟨va, rfl, hia, hoa, hM, hb⟩
                have Jt1 : Hid (Bo15 LS LRe W t1 q5 r5 1099511627776 st st F5 G5 ∧ Below t0.heap.size t0 t1 ∧ Bi t1 va (Sq.all st)) := ⟨Jt0.out.1.later HS.out LRe.lt LRe.keep hb, Jt0.out.2.1.trans (hb.mono Jt0.out.2.1.size), hia⟩
                obtain ⟨a3, n3, c3, rfl, hn3, hc3⟩ := hia
                clear Jt0 hb hoa hM hn3 hc3
                simp only []
                refine hKQ.out _ _ Jt1.out.2.1 (fun _ => ?_)
                clear hKQ KQ
                refine wpAnyH_ready (rs := [12]) (by kernel_rfl) (by simp) ?_
                refine AllReadyH.cons (o := _) rfl (fun KQ hKQ => ?_) AllReadyH.nil
                go_simp
                refine (refAll_any15 r5 st G5 _ t1 Jt1.out.1.two.ld Jt1.out.1.two.fine).mono ?_
                rintro e t2 ⟨vb, rfl, hib, hob9, hb⟩
                have Jt2 : Hid (Bo15 LS LRe W t2 q5 r5 1099511627776 st st F5 G5 ∧ Below t0.heap.size t0 t2 ∧ Bi t2 (.slice a3 n3 c3) (Sq.all st) ∧ Bi t2 vb (Sq.all st)) := ⟨Jt1.out.1.later HS.out LRe.lt LRe.keep hb, Jt1.out.2.1.trans (hb.mono Jt1.out.2.1.size), Jt1.out.2.2.below hb, hib⟩
                obtain ⟨a4, n4, c4, rfl, hn4, hc4⟩ := hib
                clear Jt1 hb hob9 hn4 hc4
                simp only []
                refine hKQ.out _ _ Jt2.out.2.1 (fun _ => ?_)
                clear hKQ KQ
                refine wpAnyH_ready (rs := [13]) (by kernel_rfl) (by simp) ?_
                refine AllReadyH.cons (o := _) rfl (fun KQ hKQ => ?_) AllReadyH.nil
                go_simp
                refine (ids_any15 _ _ (Sq.all st) (Sq.all st) t2 Jt2.out.2.2.1 Jt2.out.2.2.2 HLN.out).mono ?_
                rintro e t3 ⟨rfl, hb⟩
                have Jt3 : Hid (Bo15 LS LRe W t3 q5 r5 1099511627776 st st F5 G5 ∧ Below t0.heap.size t0 t3 ∧ True) := ⟨Jt2.out.1.later HS.out LRe.lt LRe.keep hb, Jt2.out.2.1.trans (hb.mono Jt2.out.2.1.size), trivial⟩
                have hdt : decide (Sq.all st = Sq.all st) = true := decide_eq_true rfl
                rw [hdt]
                clear Jt2 hb hdt
                simp only []
                refine hKQ.out _ _ Jt3.out.2.1 (fun _ => ?_)
                clear hKQ KQ
                refine' take_at (i := 14) (d := 132) (v := _) rfl rfl (by kernel_rfl) (by kernel_rfl) (by kernel_rfl) (fun _ _ _ h => h) (Or.inl ⟨by rfl, ?h14⟩) (Jt3.out.2.1) ?_
                case h14 =>
                  intro w hSw
                  go_simp
                  with_reducible rfl
                simp only [List.setIfInBounds_toArray, List.set_cons_zero, List.set_cons_succ]
                refine' take_at (i := 15) (d := 133) (v := _) rfl rfl (by kernel_rfl) (by kernel_rfl) (by kernel_rfl) (fun _ _ _ h => h) (Or.inl ⟨by rfl, ?h15⟩) (Jt3.out.2.1) ?_
                case h15 =>
                  intro w hSw
                  go_simp
                  with_reducible rfl
                simp only [List.setIfInBounds_toArray, List.set_cons_zero, List.set_cons_succ]
                refine' take_at (i := 16) (d := 134) (v := _) rfl rfl (by kernel_rfl) (by kernel_rfl) (by kernel_rfl) (fun _ _ _ h => h) (Or.inl ⟨by rfl, ?h16⟩) (Jt3.out.2.1) ?_
                case h16 =>
                  intro w hSw
                  go_simp
                  with_reducible rfl
                simp only [List.setIfInBounds_toArray, List.set_cons_zero, List.set_cons_succ]
                refine' take_at (i := 17) (d := 135) (v := _) rfl rfl (by kernel_rfl) (by kernel_rfl) (by kernel_rfl) (fun _ _ _ h => h) (Or.inl ⟨by rfl, ?h17⟩) (Jt3.out.2.1) ?_
                case h17 =>
                  intro w hSw
                  go_simp
                  with_reducible rfl
                simp only [List.setIfInBounds_toArray, List.set_cons_zero, List.set_cons_succ]
                refine' take_at (i := 19) (d := 137) (v := _) rfl rfl (by kernel_rfl) (by kernel_rfl) (by kernel_rfl) (fun _ _ _ h => h) (Or.inl ⟨by rfl, ?h19⟩) (Jt3.out.2.1) ?_
                case h19 =>
                  intro w hSw
                  go_simp
                  with_reducible rfl
                simp only [List.setIfInBounds_toArray, List.set_cons_zero, List.set_cons_succ]
                refine' take_at (i := 20) (d := 138) (v := _) rfl rfl (by kernel_rfl) (by kernel_rfl) (by kernel_rfl) (fun _ _ _ h => h) (Or.inl ⟨by rfl, ?h20⟩) (Jt3.out.2.1) ?_
                case h20 =>
                  intro w hSw
                  go_simp
                  with_reducible rfl
                simp only [List.setIfInBounds_toArray, List.set_cons_zero, List.set_cons_succ]
                refine' take_at (i := 21) (d := 139) (v := _) rfl rfl (by kernel_rfl) (by kernel_rfl) (by kernel_rfl) (fun _ _ _ h => h) (Or.inl ⟨by rfl, ?h21⟩) (Jt3.out.2.1) ?_
                case h21 =>
                  intro w hSw
                  have y1 := HCL3.out w hSw
                  go_simp
                  with_reducible rfl
                simp only [List.setIfInBounds_toArray, List.set_cons_zero, List.set_cons_succ]
                refine' take_at (i := 22) (d := 140) (v := _) rfl rfl (by kernel_rfl) (by kernel_rfl) (by kernel_rfl) (fun _ _ _ h => h) (Or.inl ⟨by rfl, ?h22⟩) (Jt3.out.2.1) ?_
                case h22 =>
                  intro w hSw
                  have y1 := HCL3.out w hSw
                  go_simp
                  with_reducible rfl
                simp only [List.setIfInBounds_toArray, List.set_cons_zero, List.set_cons_succ]
                refine wpAnyH_ready (rs := [18]) (by kernel_rfl) (by simp) ?_
                refine AllReadyH.cons (o := _) rfl (fun KQ hKQ => ?_) AllReadyH.nil
                go_simp
                refine (Jt3.out.1.one.now HS.out st.now rfl).mono ?_
                rintro e t4 ⟨rfl, hM, hb⟩
                have Jt4 : Hid (Bo15 LS LRe W t4 q5 r5 1099511627776 st st F5 G5 ∧ Below t0.heap.size t0 t4 ∧ True) := ⟨Jt3.out.1.later HS.out LRe.lt LRe.keep hb, Jt3.out.2.1.trans (hb.mono Jt3.out.2.1.size), trivial⟩
                clear Jt3 hb hM
                simp only []
                refine hKQ.out _ _ Jt4.out.2.1 (fun _ => ?_)
                clear hKQ KQ
                refine' take_at (i := 23) (d := 141) (v := _) rfl rfl (by kernel_rfl) (by kernel_rfl) (by kernel_rfl) (fun _ _ _ h => h) (Or.inl ⟨by rfl, ?h23⟩) (Jt4.out.2.1) ?_
                case h23 =>
                  intro w hSw
                  go_simp
                  with_reducible rfl
                simp only [List.setIfInBounds_toArray, List.set_cons_zero, List.set_cons_succ]
                refine' take_at (i := 24) (d := 142) (v := _) rfl rfl (by kernel_rfl) (by kernel_rfl) (by kernel_rfl) (fun _ _ _ h => h) (Or.inl ⟨by rfl, ?h24⟩) (Jt4.out.2.1) ?_
                case h24 =>
                  intro w hSw
                  go_simp
                  with_reducible rfl
                simp only [List.setIfInBounds_toArray, List.set_cons_zero, List.set_cons_succ]
                refine' take_at (i := 25) (d := 143) (v := _) rfl rfl (by kernel_rfl) (by kernel_rfl) (by kernel_rfl) (fun _ _ _ h => h) (Or.inl ⟨by rfl, ?h25⟩) (Jt4.out.2.1) ?_
                case h25 =>
                  intro w hSw
                  go_simp
                  with_reducible rfl
                simp only [List.setIfInBounds_toArray, List.set_cons_zero, List.set_cons_succ]
                refine wpAnyH_done (by kernel_rfl) ?_ _
                go_wp2
                go_roundw
                case rel => exact ⟨0 + 1, by omega, by go_num, Jt4.out.1.one.below, HBY3.out _ Jt4.out.2.1⟩
                case measure => simp [intOf]
            · have HP1 : Hid (Bs wr (.slice au M cu) bs ∧ bs.length ≤ 2000) := ⟨HU.out.1.below HW.out.1, HM5.out.1⟩
              have hix := (index_two15 a0 au L0 M c0 cu wr).2
              have HCY : Hid (Bs wr (.slice au M cu) bs ∧ bs.length ≤ 2000) := HP1.out
              cases hg : Sq.get bs with
              | none =>
                have HGN : Hid (Sq.get bs = none) := hg
                clear hg
                go_wp2_with fail
                refine (mine15_getno HS.out _ bs wr HCY.out.1 HCY.out.2 HGN.out).mono ?_
                rintro e s1 ⟨rfl, hb⟩
                have J1 : Hid (Below W.heap.size W s1 ∧ Bs s1 (.slice au M cu) bs ∧ Bs s1 (.slice a0 L0 c0) A0) := ⟨HW.out.1.trans (hb.mono HW.out.1.size), HCY.out.1.below hb, HW.out.2.below hb⟩
                clear hb
                go_wp2_with fail
                refine (refGet_walk15 _ bs s1 J1.out.2.1 HCY.out.2).mono ?_
                intro e s2 hP
                obtain ⟨hb2, hno, _⟩ := hP
                obtain ⟨pv, rfl⟩ := hno HGN.out
                have J2 : Hid (Below W.heap.size W s2 ∧ Bs s2 (.slice a0 L0 c0) A0) := ⟨J1.out.1.trans (hb2.mono J1.out.1.size), J1.out.2.2.below hb2⟩
                clear hb2 hno J1
                go_wp2
                go_quiet (fail)
                have J3 : Hid (Below W.heap.size W (s2.drewN nq) ∧ Bs (s2.drewN nq) (.slice a0 L0 c0) A0) := ⟨below_drewN J2.out.1 _, J2.out.2.below (below_drewN (Below.refl _ _) _)⟩
                go_wp2
                go_roundw
                case rel => exact ⟨1 + 1, by omega, by go_num, J3.out.1, J3.out.2⟩
                case measure => simp [intOf]
              | some st =>
                have HGS : Hid (Sq.get bs = some st ∧ Sq.bytes st = bs) := ⟨hg, (Sq.get_inv hg).2⟩
                clear hg
                go_wp2_with fail
                refine (mine15_get HS.out HW.out.1 _ bs HCY.out.1 HCY.out.2 st HGS.out.1).mono ?_
                rintro e s1 ⟨q5, F5, rfl, hM1, hF5, hb⟩
                have J1 : Hid (Mine15 LS W s1 q5 1099511627776 st F5 ∧ Bs s1 (.slice au M cu) bs ∧ Bs s1 (.slice a0 L0 c0) A0) := ⟨hM1, HCY.out.1.below hb, HW.out.2.below hb⟩
                clear hb hM1 hF5
                go_wp2_with fail
                refine (refGet_walk15 _ bs s1 J1.out.2.1 HCY.out.2).mono ?_
                intro e s2 hP
                obtain ⟨hb2, _, hys⟩ := hP
                obtain ⟨r5, G5, rfl, hR5, hG5⟩ := hys st HGS.out.1
                have J2 : Hid (Bo15 LS LRe W s2 q5 r5 1099511627776 st st F5 G5 ∧ Bs s2 (.slice au M cu) bs ∧ Bs s2 (.slice a0 L0 c0) A0) := by
                  have h1 := J1.out.1.later HS.out hb2
                  have hsz := J1.out.1.below.size
                  exact ⟨⟨h1, ⟨hR5, h1.fine, fun j hj => by have := hG5 j hj; omega, h1.below⟩, fun j hj e => by have := HS.out.lt J1.out.1.ld hj; have := hG5 j e; omega⟩, J1.out.2.1.below hb2, J1.out.2.2.below hb2⟩
                clear hb2 hys hR5 hG5 J1
                have HLN : Hid ((Sq.all st).length ≤ 1000) := (show (Sq.all st).length ≤ 1000 by have h := J2.out.1.one.fine.len64; unfold Sq.all; simp; omega)
                obtain ⟨Z, hZ⟩ : ∃ Z : ByteArray, Z = ⟨bs.toArray⟩ := ⟨_, rfl⟩
                have HZZ : Hid (Z = ⟨bs.toArray⟩) := hZ
                have hzz : (Z.toList == Z.toList) = true := by simp
                have hzn : (Z.toList != Z.toList) = false := by simp
                have hnn : (st.now != st.now) = false := by simp
                clear hZ
                go_wp2
                refine wp_region_held_drew (S := fun w' => Below s2.heap.size s2 w') (by kernel_rfl) (Below.refl _ _).drew (fun _ => ?_)
                refine wpAnyH_more (S' := fun w' => Below s2.drew.heap.size s2.drew w') (fun w' h => below_drew h) _ _ _ _ ?_
                have Js0 : Hid (Bo15 LS LRe W s2.drew q5 r5 1099511627776 st st F5 G5 ∧ Below s2.drew.heap.size s2.drew s2.drew) := ⟨J2.out.1.later HS.out LRe.lt LRe.keep (Below.refl _ _).drew, Below.refl _ _⟩
                have HCL : Hid (∀ w', Below s2.drew.heap.size s2.drew w' → w'.cell? ⟨r5, 1, none⟩ = some (.int .i64 st.now)) := by
                  have hR := Js0.out.1.two.ld
                  exact fun w' hb => by
                    obtain ⟨vr, hvr, _⟩ := hR
                    exact (hvr.later hb).blk.cell 1
                have HBY : Hid (Bs s2.drew (.slice au M cu) bs ∧ Bs s2.drew (.slice a0 L0 c0) A0) := ⟨J2.out.2.1.below (Below.refl _ _).drew, J2.out.2.2.below (Below.refl _ _).drew⟩
                clear J2
                generalize s2.drew = s0 at *
                refine' take_at (i := 0) (d := 118) (v := _) rfl rfl (by kernel_rfl) (by kernel_rfl) (by kernel_rfl) (fun _ _ _ h => h) (Or.inl ⟨by rfl, ?h0⟩) (Js0.out.2) ?_
                case h0 =>
                  intro w hSw
                  go_simp
                  with_reducible rfl
                simp only [List.setIfInBounds_toArray, List.set_cons_zero, List.set_cons_succ]
                refine' take_at (i := 1) (d := 119) (v := _) rfl rfl (by kernel_rfl) (by kernel_rfl) (by kernel_rfl) (fun _ _ _ h => h) (Or.inl ⟨by rfl, ?h1⟩) (Js0.out.2) ?_
                case h1 =>
                  intro w hSw
                  go_simp
                  with_reducible rfl
                simp only [List.setIfInBounds_toArray, List.set_cons_zero, List.set_cons_succ]
                refine' take_at (i := 2) (d := 120) (v := _) rfl rfl (by kernel_rfl) (by kernel_rfl) (by kernel_rfl) (fun _ _ _ h => h) (Or.inl ⟨by rfl, ?h2⟩) (Js0.out.2) ?_
                case h2 =>
                  intro w hSw
                  go_simp
                  with_reducible rfl
                simp only [List.setIfInBounds_toArray, List.set_cons_zero, List.set_cons_succ]
                refine' take_at (i := 5) (d := 123) (v := _) rfl rfl (by kernel_rfl) (by kernel_rfl) (by kernel_rfl) (fun _ _ _ h => h) (Or.inl ⟨by rfl, ?h5⟩) (Js0.out.2) ?_
                case h5 =>
                  intro w hSw
                  go_simp
                  with_reducible rfl
                simp only [List.setIfInBounds_toArray, List.set_cons_zero, List.set_cons_succ]
                refine' take_at (i := 6) (d := 124) (v := _) rfl rfl (by kernel_rfl) (by kernel_rfl) (by kernel_rfl) (fun _ _ _ h => h) (Or.inl ⟨by rfl, ?h6⟩) (Js0.out.2) ?_
                case h6 =>
                  intro w hSw
                  have hcv := (HBY.out.1.below hSw).conv
                  rw [← HZZ.out] at hcv
                  go_simp
                  with_reducible rfl
                simp only [List.setIfInBounds_toArray, List.set_cons_zero, List.set_cons_succ]
                refine wpAnyH_ready (rs := [3]) (by kernel_rfl) (by simp) ?_
                refine AllReadyH.cons (o := _) rfl (fun KQ hKQ => ?_) AllReadyH.nil
                go_simp
                refine (Js0.out.1.one.put HS.out).mono ?_
                rintro e s3 ⟨vp, rfl, hvp, hM, hb⟩
                have Js3 : Hid (Bo15 LS LRe W s3 q5 r5 1099511627776 st st F5 G5 ∧ Below s0.heap.size s0 s3 ∧ Bs s3 vp bs) := ⟨Js0.out.1.later HS.out LRe.lt LRe.keep hb, Js0.out.2.trans (hb.mono Js0.out.2.size), by have h := Bs.own hvp; rw [HGS.out.2] at h; exact h⟩
                obtain ⟨ap3, cp3, hve3, _, _⟩ := row_form hvp
                obtain ⟨LB3, hLB3⟩ : ∃ z, z = (Sq.bytes st).length := ⟨_, rfl⟩
                rw [← hLB3] at hve3
                subst hve3
                clear hvp hM hLB3 Js0 hb
                simp only []
                refine hKQ.out _ _ Js3.out.2.1 (fun _ => ?_)
                refine wpAnyH_more (S' := fun w' => Below s3.heap.size s3 w') (fun w' h => Js3.out.2.1.trans (h.mono Js3.out.2.1.size)) _ _ _ _ ?_
                clear hKQ KQ
                refine' take_at (i := 4) (d := 122) (v := _) rfl rfl (by kernel_rfl) (by kernel_rfl) (by kernel_rfl) (fun _ _ _ h => h) (Or.inl ⟨by rfl, ?h4⟩) (Below.refl _ _) ?_
                case h4 =>
                  intro w hSw
                  have hcv := (Js3.out.2.2.below hSw).conv
                  rw [← HZZ.out] at hcv
                  go_simp
                  with_reducible rfl
                simp only [List.setIfInBounds_toArray, List.set_cons_zero, List.set_cons_succ]
                refine wpAnyH_more (S' := fun w' => Below s3.heap.size s3 w') (fun w' h => h) _ _ _ _ ?_
                have Jt0 : Hid (Bo15 LS LRe W s3 q5 r5 1099511627776 st st F5 G5 ∧ Below s3.heap.size s3 s3 ∧ Below s0.heap.size s0 s3) := ⟨Js3.out.1, Below.refl _ _, Js3.out.2.1⟩
                have HCL3 : Hid (∀ w', Below s3.heap.size s3 w' → w'.cell? ⟨r5, 1, none⟩ = some (.int .i64 st.now)) := fun w' hb => HCL.out w' (Js3.out.2.1.trans (hb.mono Js3.out.2.1.size))
                have HBY3 : Hid (∀ w', Below s3.heap.size s3 w' → Bs w' (.slice a0 L0 c0) A0) := fun w' hb => HBY.out.2.below (Js3.out.2.1.trans (hb.mono Js3.out.2.1.size))
                clear Js3 HCL HBY
                generalize s3 = t0 at *
                refine' take_at (i := 7) (d := 125) (v := _) rfl rfl (by kernel_rfl) (by kernel_rfl) (by kernel_rfl) (fun _ _ _ h => h) (Or.inl ⟨by rfl, ?h7⟩) (Jt0.out.2.1) ?_
                case h7 =>
                  intro w hSw
                  go_simp
                  with_reducible rfl
                simp only [List.setIfInBounds_toArray, List.set_cons_zero, List.set_cons_succ]
                refine' take_at (i := 8) (d := 126) (v := _) rfl rfl (by kernel_rfl) (by kernel_rfl) (by kernel_rfl) (fun _ _ _ h => h) (Or.inl ⟨by rfl, ?h8⟩) (Jt0.out.2.1) ?_
                case h8 =>
                  intro w hSw
                  go_simp
                  with_reducible rfl
                simp only [List.setIfInBounds_toArray, List.set_cons_zero, List.set_cons_succ]
                refine' take_at (i := 9) (d := 127) (v := _) rfl rfl (by kernel_rfl) (by kernel_rfl) (by kernel_rfl) (fun _ _ _ h => h) (Or.inl ⟨by rfl, ?h9⟩) (Jt0.out.2.1) ?_
                case h9 =>
                  intro w hSw
                  go_simp
                  with_reducible rfl
                simp only [List.setIfInBounds_toArray, List.set_cons_zero, List.set_cons_succ]
                refine' take_at (i := 11) (d := 129) (v := _) rfl rfl (by kernel_rfl) (by kernel_rfl) (by kernel_rfl) (fun _ _ _ h => h) (Or.inl ⟨by rfl, ?h11⟩) (Jt0.out.2.1) ?_
                case h11 =>
                  intro w hSw
                  go_simp
                  with_reducible rfl
                simp only [List.setIfInBounds_toArray, List.set_cons_zero, List.set_cons_succ]
                refine wpAnyH_ready (rs := [10]) (by kernel_rfl) (by simp) ?_
                refine AllReadyH.cons (o := _) rfl (fun KQ hKQ => ?_) AllReadyH.nil
                go_simp
                refine (Jt0.out.1.one.all HS.out).mono ?_
                rintro e t1 ⟨va, rfl, hia, hoa, hM, hb⟩
                have Jt1 : Hid (Bo15 LS LRe W t1 q5 r5 1099511627776 st st F5 G5 ∧ Below t0.heap.size t0 t1 ∧ Bi t1 va (Sq.all st)) := ⟨Jt0.out.1.later HS.out LRe.lt LRe.keep hb, Jt0.out.2.1.trans (hb.mono Jt0.out.2.1.size), hia⟩
                obtain ⟨a3, n3, c3, rfl, hn3, hc3⟩ := hia
                clear Jt0 hb hoa hM hn3 hc3
                simp only []
                refine hKQ.out _ _ Jt1.out.2.1 (fun _ => ?_)
                clear hKQ KQ
                refine wpAnyH_ready (rs := [12]) (by kernel_rfl) (by simp) ?_
                refine AllReadyH.cons (o := _) rfl (fun KQ hKQ => ?_) AllReadyH.nil
                go_simp
                refine (refAll_any15 r5 st G5 _ t1 Jt1.out.1.two.ld Jt1.out.1.two.fine).mono ?_
                rintro e t2 ⟨vb, rfl, hib, hob9, hb⟩
                have Jt2 : Hid (Bo15 LS LRe W t2 q5 r5 1099511627776 st st F5 G5 ∧ Below t0.heap.size t0 t2 ∧ Bi t2 (.slice a3 n3 c3) (Sq.all st) ∧ Bi t2 vb (Sq.all st)) := ⟨Jt1.out.1.later HS.out LRe.lt LRe.keep hb, Jt1.out.2.1.trans (hb.mono Jt1.out.2.1.size), Jt1.out.2.2.below hb, hib⟩
                obtain ⟨a4, n4, c4, rfl, hn4, hc4⟩ := hib
                clear Jt1 hb hob9 hn4 hc4
                simp only []
                refine hKQ.out _ _ Jt2.out.2.1 (fun _ => ?_)
                clear hKQ KQ
                refine wpAnyH_ready (rs := [13]) (by kernel_rfl) (by simp) ?_
                refine AllReadyH.cons (o := _) rfl (fun KQ hKQ => ?_) AllReadyH.nil
                go_simp
                refine (ids_any15 _ _ (Sq.all st) (Sq.all st) t2 Jt2.out.2.2.1 Jt2.out.2.2.2 HLN.out).mono ?_
                rintro e t3 ⟨rfl, hb⟩
                have Jt3 : Hid (Bo15 LS LRe W t3 q5 r5 1099511627776 st st F5 G5 ∧ Below t0.heap.size t0 t3 ∧ True) := ⟨Jt2.out.1.later HS.out LRe.lt LRe.keep hb, Jt2.out.2.1.trans (hb.mono Jt2.out.2.1.size), trivial⟩
                have hdt : decide (Sq.all st = Sq.all st) = true := decide_eq_true rfl
                rw [hdt]
                clear Jt2 hb hdt
                simp only []
                refine hKQ.out _ _ Jt3.out.2.1 (fun _ => ?_)
                clear hKQ KQ
                refine' take_at (i := 14) (d := 132) (v := _) rfl rfl (by kernel_rfl) (by kernel_rfl) (by kernel_rfl) (fun _ _ _ h => h) (Or.inl ⟨by rfl, ?h14⟩) (Jt3.out.2.1) ?_
                case h14 =>
                  intro w hSw
                  go_simp
                  with_reducible rfl
                simp only [List.setIfInBounds_toArray, List.set_cons_zero, List.set_cons_succ]
                refine' take_at (i := 15) (d := 133) (v := _) rfl rfl (by kernel_rfl) (by kernel_rfl) (by kernel_rfl) (fun _ _ _ h => h) (Or.inl ⟨by rfl, ?h15⟩) (Jt3.out.2.1) ?_
                case h15 =>
                  intro w hSw
                  go_simp
                  with_reducible rfl
                simp only [List.setIfInBounds_toArray, List.set_cons_zero, List.set_cons_succ]
                refine' take_at (i := 16) (d := 134) (v := _) rfl rfl (by kernel_rfl) (by kernel_rfl) (by kernel_rfl) (fun _ _ _ h => h) (Or.inl ⟨by rfl, ?h16⟩) (Jt3.out.2.1) ?_
                case h16 =>
                  intro w hSw
                  go_simp
                  with_reducible rfl
                simp only [List.setIfInBounds_toArray, List.set_cons_zero, List.set_cons_succ]
                refine' take_at (i := 17) (d := 135) (v := _) rfl rfl (by kernel_rfl) (by kernel_rfl) (by kernel_rfl) (fun _ _ _ h => h) (Or.inl ⟨by rfl, ?h17⟩) (Jt3.out.2.1) ?_
                case h17 =>
                  intro w hSw
                  go_simp
                  with_reducible rfl
                simp only [List.setIfInBounds_toArray, List.set_cons_zero, List.set_cons_succ]
                refine' take_at (i := 19) (d := 137) (v := _) rfl rfl (by kernel_rfl) (by kernel_rfl) (by kernel_rfl) (fun _ _ _ h => h) (Or.inl ⟨by rfl, ?h19⟩) (Jt3.out.2.1) ?_
                case h19 =>
                  intro w hSw
                  go_simp
                  with_reducible rfl
                simp only [List.setIfInBounds_toArray, List.set_cons_zero, List.set_cons_succ]
                refine' take_at (i := 20) (d := 138) (v := _) rfl rfl (by kernel_rfl) (by kernel_rfl) (by kernel_rfl) (fun _ _ _ h => h) (Or.inl ⟨by rfl, ?h20⟩) (Jt3.out.2.1) ?_
                case h20 =>
                  intro w hSw
                  go_simp
                  with_reducible rfl
                simp only [List.setIfInBounds_toArray, List.set_cons_zero, List.set_cons_succ]
                refine' take_at (i := 21) (d := 139) (v := _) rfl rfl (by kernel_rfl) (by kernel_rfl) (by kernel_rfl) (fun _ _ _ h => h) (Or.inl ⟨by rfl, ?h21⟩) (Jt3.out.2.1) ?_
                case h21 =>
                  intro w hSw
                  have y1 := HCL3.out w hSw
                  go_simp
                  with_reducible rfl
                simp only [List.setIfInBounds_toArray, List.set_cons_zero, List.set_cons_succ]
                refine' take_at (i := 22) (d := 140) (v := _) rfl rfl (by kernel_rfl) (by kernel_rfl) (by kernel_rfl) (fun _ _ _ h => h) (Or.inl ⟨by rfl, ?h22⟩) (Jt3.out.2.1) ?_
                case h22 =>
                  intro w hSw
                  have y1 := HCL3.out w hSw
                  go_simp
                  with_reducible rfl
                simp only [List.setIfInBounds_toArray, List.set_cons_zero, List.set_cons_succ]
                refine wpAnyH_ready (rs := [18]) (by kernel_rfl) (by simp) ?_
                refine AllReadyH.cons (o := _) rfl (fun KQ hKQ => ?_) AllReadyH.nil
                go_simp
                refine (Jt3.out.1.one.now HS.out st.now rfl).mono ?_
                rintro e t4 ⟨rfl, hM, hb⟩
                have Jt4 : Hid (Bo15 LS LRe W t4 q5 r5 1099511627776 st st F5 G5 ∧ Below t0.heap.size t0 t4 ∧ True) := ⟨Jt3.out.1.later HS.out LRe.lt LRe.keep hb, Jt3.out.2.1.trans (hb.mono Jt3.out.2.1.size), trivial⟩
                clear Jt3 hb hM
                simp only []
                refine hKQ.out _ _ Jt4.out.2.1 (fun _ => ?_)
                clear hKQ KQ
                refine' take_at (i := 23) (d := 141) (v := _) rfl rfl (by kernel_rfl) (by kernel_rfl) (by kernel_rfl) (fun _ _ _ h => h) (Or.inl ⟨by rfl, ?h23⟩) (Jt4.out.2.1) ?_
                case h23 =>
                  intro w hSw
                  go_simp
                  with_reducible rfl
                simp only [List.setIfInBounds_toArray, List.set_cons_zero, List.set_cons_succ]
                refine' take_at (i := 24) (d := 142) (v := _) rfl rfl (by kernel_rfl) (by kernel_rfl) (by kernel_rfl) (fun _ _ _ h => h) (Or.inl ⟨by rfl, ?h24⟩) (Jt4.out.2.1) ?_
                case h24 =>
                  intro w hSw
                  go_simp
                  with_reducible rfl
                simp only [List.setIfInBounds_toArray, List.set_cons_zero, List.set_cons_succ]
                refine' take_at (i := 25) (d := 143) (v := _) rfl rfl (by kernel_rfl) (by kernel_rfl) (by kernel_rfl) (fun _ _ _ h => h) (Or.inl ⟨by rfl, ?h25⟩) (Jt4.out.2.1) ?_
                case h25 =>
                  intro w hSw
                  go_simp
                  with_reducible rfl
                simp only [List.setIfInBounds_toArray, List.set_cons_zero, List.set_cons_succ]
                refine wpAnyH_done (by kernel_rfl) ?_ _
                go_wp2
                go_roundw
                case rel => exact ⟨1 + 1, by omega, by go_num, Jt4.out.1.one.below, HBY3.out _ Jt4.out.2.1⟩
                case measure => simp [intOf]
          · obtain rfl : k2 = 2 := by omega
            go_wp2
            go_ret
            exact ⟨rfl, HW.out.1⟩
      · have hp2 : (decide (0 ≤ pt) && decide (pt < (LB : Int))) = false := by
          cases e : (decide (0 ≤ pt) && decide (pt < (LB : Int))) with
          | false => rfl
          | true => simp at e; omega
        obtain ⟨A0, hA0⟩ : ∃ A, A = Sq.bytes s := ⟨_, rfl⟩
        have HY : Hid (Below W.heap.size W w4 ∧ Bs w4 (.slice ap LB cp) A0 ∧ A0.length ≤ 2000) := ⟨H4.out.1, by rw [hA0]; exact Bs.own H4.out.2.1, by rw [hA0]; have := HBL.out; omega⟩
        clear hA0
        obtain ⟨a0, ha0⟩ : ∃ z, z = ap := ⟨_, rfl⟩
        obtain ⟨L0, hL0⟩ : ∃ z, z = LB := ⟨_, rfl⟩
        obtain ⟨c0, hc0⟩ : ∃ z, z = cp := ⟨_, rfl⟩
        rw [← ha0, ← hL0, ← hc0] at HY
        rw [← ha0, ← hL0, ← hc0]
        rw [← hL0] at hp1 hp2 hLB1
        clear ha0 hL0 hc0 H4 HAP
        by_cases hq0 : 0 ≤ pt
        · have hq1 : ¬ pt < (L0 : Int) := fun e => hp1 ⟨hq0, e⟩
          clear hp1 hp2
          go_wp2
          go_loopw [89] (fun i wx => ∃ k : Nat, k ≤ 2 ∧ i = .int .i64 (k : Int) ∧ Below W.heap.size W wx ∧ Bs wx (.slice a0 L0 c0) A0) (fun i _ => 2 - (intOf i).toNat)
          case atStart => exact ⟨0, by omega, rfl, HY.out.1, HY.out.2.1⟩
          case round =>
            obtain ⟨k2, hk2, rfl, hbw, hbs⟩ := hrel
            have HW : Hid (Below W.heap.size W wr ∧ Bs wr (.slice a0 L0 c0) A0) := ⟨hbw, hbs⟩
            clear hbw hbs
            by_cases h2 : k2 < 2
            · rcases (show k2 = 0 ∨ k2 = 1 by omega) with rfl | rfl
              · have HP0 : Hid (Bs wr (.slice a0 L0 c0) A0 ∧ A0.length ≤ 2000) := ⟨HW.out.2, HY.out.2.2⟩
                have hix := (index_two15 a0 au L0 M c0 cu wr).1
                have HCY : Hid (Bs wr (.slice a0 L0 c0) A0 ∧ A0.length ≤ 2000) := HP0.out
                cases hg : Sq.get A0 with
                | none =>
                  have HGN : Hid (Sq.get A0 = none) := hg
                  clear hg
                  go_wp2_with fail
                  refine (mine15_getno HS.out _ A0 wr HCY.out.1 HCY.out.2 HGN.out).mono ?_
                  rintro e s1 ⟨rfl, hb⟩
                  have J1 : Hid (Below W.heap.size W s1 ∧ Bs s1 (.slice a0 L0 c0) A0 ∧ Bs s1 (.slice a0 L0 c0) A0) := ⟨HW.out.1.trans (hb.mono HW.out.1.size), HCY.out.1.below hb, HW.out.2.below hb⟩
                  clear hb
                  go_wp2_with fail
                  refine (refGet_walk15 _ A0 s1 J1.out.2.1 HCY.out.2).mono ?_
                  intro e s2 hP
                  obtain ⟨hb2, hno, _⟩ := hP
                  obtain ⟨pv, rfl⟩ := hno HGN.out
                  have J2 : Hid (Below W.heap.size W s2 ∧ Bs s2 (.slice a0 L0 c0) A0) := ⟨J1.out.1.trans (hb2.mono J1.out.1.size), J1.out.2.2.below hb2⟩
                  clear hb2 hno J1
                  go_wp2
                  go_quiet (fail)
                  have J3 : Hid (Below W.heap.size W (s2.drewN nq) ∧ Bs (s2.drewN nq) (.slice a0 L0 c0) A0) := ⟨below_drewN J2.out.1 _, J2.out.2.below (below_drewN (Below.refl _ _) _)⟩
                  go_wp2
                  go_roundw
                  case rel => exact ⟨0 + 1, by omega, by go_num, J3.out.1, J3.out.2⟩
                  case measure => simp [intOf]
                | some st =>
                  have HGS : Hid (Sq.get A0 = some st ∧ Sq.bytes st = A0) := ⟨hg, (Sq.get_inv hg).2⟩
                  clear hg
                  go_wp2_with fail
                  refine (mine15_get HS.out HW.out.1 _ A0 HCY.out.1 HCY.out.2 st HGS.out.1).mono ?_
                  rintro e s1 ⟨q5, F5, rfl, hM1, hF5, hb⟩
                  have J1 : Hid (Mine15 LS W s1 q5 1099511627776 st F5 ∧ Bs s1 (.slice a0 L0 c0) A0 ∧ Bs s1 (.slice a0 L0 c0) A0) := ⟨hM1, HCY.out.1.below hb, HW.out.2.below hb⟩
                  clear hb hM1 hF5
                  go_wp2_with fail
                  refine (refGet_walk15 _ A0 s1 J1.out.2.1 HCY.out.2).mono ?_
                  intro e s2 hP
                  obtain ⟨hb2, _, hys⟩ := hP
                  obtain ⟨r5, G5, rfl, hR5, hG5⟩ := hys st HGS.out.1
                  have J2 : Hid (Bo15 LS LRe W s2 q5 r5 1099511627776 st st F5 G5 ∧ Bs s2 (.slice a0 L0 c0) A0 ∧ Bs s2 (.slice a0 L0 c0) A0) := by
                    have h1 := J1.out.1.later HS.out hb2
                    have hsz := J1.out.1.below.size
                    exact ⟨⟨h1, ⟨hR5, h1.fine, fun j hj => by have := hG5 j hj; omega, h1.below⟩, fun j hj e => by have := HS.out.lt J1.out.1.ld hj; have := hG5 j e; omega⟩, J1.out.2.1.below hb2, J1.out.2.2.below hb2⟩
                  clear hb2 hys hR5 hG5 J1
                  have HLN : Hid ((Sq.all st).length ≤ 1000) := (show (Sq.all st).length ≤ 1000 by have h := J2.out.1.one.fine.len64; unfold Sq.all; simp; omega)
                  obtain ⟨Z, hZ⟩ : ∃ Z : ByteArray, Z = ⟨A0.toArray⟩ := ⟨_, rfl⟩
                  have HZZ : Hid (Z = ⟨A0.toArray⟩) := hZ
                  have hzz : (Z.toList == Z.toList) = true := by simp
                  have hzn : (Z.toList != Z.toList) = false := by simp
                  have hnn : (st.now != st.now) = false := by simp
                  clear hZ
                  go_wp2
                  refine wp_region_held_drew (S := fun w' => Below s2.heap.size s2 w') (by kernel_rfl) (Below.refl _ _).drew (fun _ => ?_)
                  refine wpAnyH_more (S' := fun w' => Below s2.drew.heap.size s2.drew w') (fun w' h => below_drew h) _ _ _ _ ?_
                  have Js0 : Hid (Bo15 LS LRe W s2.drew q5 r5 1099511627776 st st F5 G5 ∧ Below s2.drew.heap.size s2.drew s2.drew) := ⟨J2.out.1.later HS.out LRe.lt LRe.keep (Below.refl _ _).drew, Below.refl _ _⟩
                  have HCL : Hid (∀ w', Below s2.drew.heap.size s2.drew w' → w'.cell? ⟨r5, 1, none⟩ = some (.int .i64 st.now)) := by
                    have hR := Js0.out.1.two.ld
                    exact fun w' hb => by
                      obtain ⟨vr, hvr, _⟩ := hR
                      exact (hvr.later hb).blk.cell 1
                  have HBY : Hid (Bs s2.drew (.slice a0 L0 c0) A0 ∧ Bs s2.drew (.slice a0 L0 c0) A0) := ⟨J2.out.2.1.below (Below.refl _ _).drew, J2.out.2.2.below (Below.refl _ _).drew⟩
                  clear J2
                  generalize s2.drew = s0 at *
                  refine' take_at (i := 0) (d := 118) (v := _) rfl rfl (by kernel_rfl) (by kernel_rfl) (by kernel_rfl) (fun _ _ _ h => h) (Or.inl ⟨by rfl, ?h0⟩) (Js0.out.2) ?_
                  case h0 =>
                    intro w hSw
                    go_simp
                    with_reducible rfl
                  simp only [List.setIfInBounds_toArray, List.set_cons_zero, List.set_cons_succ]
                  refine' take_at (i := 1) (d := 119) (v := _) rfl rfl (by kernel_rfl) (by kernel_rfl) (by kernel_rfl) (fun _ _ _ h => h) (Or.inl ⟨by rfl, ?h1⟩) (Js0.out.2) ?_
                  case h1 =>
                    intro w hSw
                    go_simp
                    with_reducible rfl
                  simp only [List.setIfInBounds_toArray, List.set_cons_zero, List.set_cons_succ]
                  refine' take_at (i := 2) (d := 120) (v := _) rfl rfl (by kernel_rfl) (by kernel_rfl) (by kernel_rfl) (fun _ _ _ h => h) (Or.inl ⟨by rfl, ?h2⟩) (Js0.out.2) ?_
                  case h2 =>
                    intro w hSw
                    go_simp
                    with_reducible rfl
                  simp only [List.setIfInBounds_toArray, List.set_cons_zero, List.set_cons_succ]
                  refine' take_at (i := 5) (d := 123) (v := _) rfl rfl (by kernel_rfl) (by kernel_rfl) (by kernel_rfl) (fun _ _ _ h => h) (Or.inl ⟨by rfl, ?h5⟩) (Js0.out.2) ?_
                  case h5 =>
                    intro w hSw
                    go_simp
                    with_reducible rfl
                  simp only [List.setIfInBounds_toArray, List.set_cons_zero, List.set_cons_succ]
                  refine' take_at (i := 6) (d := 124) (v := _) rfl rfl (by kernel_rfl) (by kernel_rfl) (by kernel_rfl) (fun _ _ _ h => h) (Or.inl ⟨by rfl, ?h6⟩) (Js0.out.2) ?_
                  case h6 =>
                    intro w hSw
                    have hcv := (HBY.out.1.below hSw).conv
                    rw [← HZZ.out] at hcv
                    go_simp
                    with_reducible rfl
                  simp only [List.setIfInBounds_toArray, List.set_cons_zero, List.set_cons_succ]
                  refine wpAnyH_ready (rs := [3]) (by kernel_rfl) (by simp) ?_
                  refine AllReadyH.cons (o := _) rfl (fun KQ hKQ => ?_) AllReadyH.nil
                  go_simp
                  refine (Js0.out.1.one.put HS.out).mono ?_
                  rintro e s3 ⟨vp, rfl, hvp, hM, hb⟩
                  have Js3 : Hid (Bo15 LS LRe W s3 q5 r5 1099511627776 st st F5 G5 ∧ Below s0.heap.size s0 s3 ∧ Bs s3 vp A0) := ⟨Js0.out.1.later HS.out LRe.lt LRe.keep hb, Js0.out.2.trans (hb.mono Js0.out.2.size), by have h := Bs.own hvp; rw [HGS.out.2] at h; exact h⟩
                  obtain ⟨ap3, cp3, hve3, _, _⟩ := row_form hvp
                  obtain ⟨LB3, hLB3⟩ : ∃ z, z = (Sq.bytes st).length := ⟨_, rfl⟩
                  rw [← hLB3] at hve3
                  subst hve3
                  clear hvp hM hLB3 Js0 hb
                  simp only []
                  refine hKQ.out _ _ Js3.out.2.1 (fun _ => ?_)
                  refine wpAnyH_more (S' := fun w' => Below s3.heap.size s3 w') (fun w' h => Js3.out.2.1.trans (h.mono Js3.out.2.1.size)) _ _ _ _ ?_
                  clear hKQ KQ
                  refine' take_at (i := 4) (d := 122) (v := _) rfl rfl (by kernel_rfl) (by kernel_rfl) (by kernel_rfl) (fun _ _ _ h => h) (Or.inl ⟨by rfl, ?h4⟩) (Below.refl _ _) ?_
                  case h4 =>
                    intro w hSw
                    have hcv := (Js3.out.2.2.below hSw).conv
                    rw [← HZZ.out] at hcv
                    go_simp
                    with_reducible rfl
                  simp only [List.setIfInBounds_toArray, List.set_cons_zero, List.set_cons_succ]
                  refine wpAnyH_more (S' := fun w' => Below s3.heap.size s3 w') (fun w' h => h) _ _ _ _ ?_
                  have Jt0 : Hid (Bo15 LS LRe W s3 q5 r5 1099511627776 st st F5 G5 ∧ Below s3.heap.size s3 s3 ∧ Below s0.heap.size s0 s3) := ⟨Js3.out.1, Below.refl _ _, Js3.out.2.1⟩
                  have HCL3 : Hid (∀ w', Below s3.heap.size s3 w' → w'.cell? ⟨r5, 1, none⟩ = some (.int .i64 st.now)) := fun w' hb => HCL.out w' (Js3.out.2.1.trans (hb.mono Js3.out.2.1.size))
                  have HBY3 : Hid (∀ w', Below s3.heap.size s3 w' → Bs w' (.slice a0 L0 c0) A0) := fun w' hb => HBY.out.2.below (Js3.out.2.1.trans (hb.mono Js3.out.2.1.size))
                  clear Js3 HCL HBY
                  generalize s3 = t0 at *
                  refine' take_at (i := 7) (d := 125) (v := _) rfl rfl (by kernel_rfl) (by kernel_rfl) (by kernel_rfl) (fun _ _ _ h => h) (Or.inl ⟨by rfl, ?h7⟩) (Jt0.out.2.1) ?_
                  case h7 =>
                    intro w hSw
                    go_simp
                    with_reducible rfl
                  simp only [List.setIfInBounds_toArray, List.set_cons_zero, List.set_cons_succ]
                  refine' take_at (i := 8) (d := 126) (v := _) rfl rfl (by kernel_rfl) (by kernel_rfl) (by kernel_rfl) (fun _ _ _ h => h) (Or.inl ⟨by rfl, ?h8⟩) (Jt0.out.2.1) ?_
                  case h8 =>
                    intro w hSw
                    go_simp
                    with_reducible rfl
                  simp only [List.setIfInBounds_toArray, List.set_cons_zero, List.set_cons_succ]
                  refine' take_at (i := 9) (d := 127) (v := _) rfl rfl (by kernel_rfl) (by kernel_rfl) (by kernel_rfl) (fun _ _ _ h => h) (Or.inl ⟨by rfl, ?h9⟩) (Jt0.out.2.1) ?_
                  case h9 =>
                    intro w hSw
                    go_simp
                    with_reducible rfl
                  simp only [List.setIfInBounds_toArray, List.set_cons_zero, List.set_cons_succ]
                  refine' take_at (i := 11) (d := 129) (v := _) rfl rfl (by kernel_rfl) (by kernel_rfl) (by kernel_rfl) (fun _ _ _ h => h) (Or.inl ⟨by rfl, ?h11⟩) (Jt0.out.2.1) ?_
                  case h11 =>
                    intro w hSw
                    go_simp
                    with_reducible rfl
                  simp only [List.setIfInBounds_toArray, List.set_cons_zero, List.set_cons_succ]
                  refine wpAnyH_ready (rs := [10]) (by kernel_rfl) (by simp) ?_
                  refine AllReadyH.cons (o := _) rfl (fun KQ hKQ => ?_) AllReadyH.nil
                  go_simp
                  refine (Jt0.out.1.one.all HS.out).mono ?_
                  rintro e t1 ⟨va, rfl, hia, hoa, hM, hb⟩
                  have Jt1 : Hid (Bo15 LS LRe W t1 q5 r5 1099511627776 st st F5 G5 ∧ Below t0.heap.size t0 t1 ∧ Bi t1 va (Sq.all st)) := ⟨Jt0.out.1.later HS.out LRe.lt LRe.keep hb, Jt0.out.2.1.trans (hb.mono Jt0.out.2.1.size), hia⟩
                  obtain ⟨a3, n3, c3, rfl, hn3, hc3⟩ := hia
                  clear Jt0 hb hoa hM hn3 hc3
                  simp only []
                  refine hKQ.out _ _ Jt1.out.2.1 (fun _ => ?_)
                  clear hKQ KQ
                  refine wpAnyH_ready (rs := [12]) (by kernel_rfl) (by simp) ?_
                  refine AllReadyH.cons (o := _) rfl (fun KQ hKQ => ?_) AllReadyH.nil
                  go_simp
                  refine (refAll_any15 r5 st G5 _ t1 Jt1.out.1.two.ld Jt1.out.1.two.fine).mono ?_
                  rintro e t2 ⟨vb, rfl, hib, hob9, hb⟩
                  have Jt2 : Hid (Bo15 LS LRe W t2 q5 r5 1099511627776 st st F5 G5 ∧ Below t0.heap.size t0 t2 ∧ Bi t2 (.slice a3 n3 c3) (Sq.all st) ∧ Bi t2 vb (Sq.all st)) := ⟨Jt1.out.1.later HS.out LRe.lt LRe.keep hb, Jt1.out.2.1.trans (hb.mono Jt1.out.2.1.size), Jt1.out.2.2.below hb, hib⟩
                  obtain ⟨a4, n4, c4, rfl, hn4, hc4⟩ := hib
                  clear Jt1 hb hob9 hn4 hc4
                  simp only []
                  refine hKQ.out _ _ Jt2.out.2.1 (fun _ => ?_)
                  clear hKQ KQ
                  refine wpAnyH_ready (rs := [13]) (by kernel_rfl) (by simp) ?_
                  refine AllReadyH.cons (o := _) rfl (fun KQ hKQ => ?_) AllReadyH.nil
                  go_simp
                  refine (ids_any15 _ _ (Sq.all st) (Sq.all st) t2 Jt2.out.2.2.1 Jt2.out.2.2.2 HLN.out).mono ?_
                  rintro e t3 ⟨rfl, hb⟩
                  have Jt3 : Hid (Bo15 LS LRe W t3 q5 r5 1099511627776 st st F5 G5 ∧ Below t0.heap.size t0 t3 ∧ True) := ⟨Jt2.out.1.later HS.out LRe.lt LRe.keep hb, Jt2.out.2.1.trans (hb.mono Jt2.out.2.1.size), trivial⟩
                  have hdt : decide (Sq.all st = Sq.all st) = true := decide_eq_true rfl
                  rw [hdt]
                  clear Jt2 hb hdt
                  simp only []
                  refine hKQ.out _ _ Jt3.out.2.1 (fun _ => ?_)
                  clear hKQ KQ
                  refine' take_at (i := 14) (d := 132) (v := _) rfl rfl (by kernel_rfl) (by kernel_rfl) (by kernel_rfl) (fun _ _ _ h => h) (Or.inl ⟨by rfl, ?h14⟩) (Jt3.out.2.1) ?_
                  case h14 =>
                    intro w hSw
                    go_simp
                    with_reducible rfl
                  simp only [List.setIfInBounds_toArray, List.set_cons_zero, List.set_cons_succ]
                  refine' take_at (i := 15) (d := 133) (v := _) rfl rfl (by kernel_rfl) (by kernel_rfl) (by kernel_rfl) (fun _ _ _ h => h) (Or.inl ⟨by rfl, ?h15⟩) (Jt3.out.2.1) ?_
                  case h15 =>
                    intro w hSw
                    go_simp
                    with_reducible rfl
                  simp only [List.setIfInBounds_toArray, List.set_cons_zero, List.set_cons_succ]
                  refine' take_at (i := 16) (d := 134) (v := _) rfl rfl (by kernel_rfl) (by kernel_rfl) (by kernel_rfl) (fun _ _ _ h => h) (Or.inl ⟨by rfl, ?h16⟩) (Jt3.out.2.1) ?_
                  case h16 =>
                    intro w hSw
                    go_simp
                    with_reducible rfl
                  simp only [List.setIfInBounds_toArray, List.set_cons_zero, List.set_cons_succ]
                  refine' take_at (i := 17) (d := 135) (v := _) rfl rfl (by kernel_rfl) (by kernel_rfl) (by kernel_rfl) (fun _ _ _ h => h) (Or.inl ⟨by rfl, ?h17⟩) (Jt3.out.2.1) ?_
                  case h17 =>
                    intro w hSw
                    go_simp
                    with_reducible rfl
                  simp only [List.setIfInBounds_toArray, List.set_cons_zero, List.set_cons_succ]
                  refine' take_at (i := 19) (d := 137) (v := _) rfl rfl (by kernel_rfl) (by kernel_rfl) (by kernel_rfl) (fun _ _ _ h => h) (Or.inl ⟨by rfl, ?h19⟩) (Jt3.out.2.1) ?_
                  case h19 =>
                    intro w hSw
                    go_simp
                    with_reducible rfl
                  simp only [List.setIfInBounds_toArray, List.set_cons_zero, List.set_cons_succ]
                  refine' take_at (i := 20) (d := 138) (v := _) rfl rfl (by kernel_rfl) (by kernel_rfl) (by kernel_rfl) (fun _ _ _ h => h) (Or.inl ⟨by rfl, ?h20⟩) (Jt3.out.2.1) ?_
                  case h20 =>
                    intro w hSw
                    go_simp
                    with_reducible rfl
                  simp only [List.setIfInBounds_toArray, List.set_cons_zero, List.set_cons_succ]
                  refine' take_at (i := 21) (d := 139) (v := _) rfl rfl (by kernel_rfl) (by kernel_rfl) (by kernel_rfl) (fun _ _ _ h => h) (Or.inl ⟨by rfl, ?h21⟩) (Jt3.out.2.1) ?_
                  case h21 =>
                    intro w hSw
                    have y1 := HCL3.out w hSw
                    go_simp
                    with_reducible rfl
                  simp only [List.setIfInBounds_toArray, List.set_cons_zero, List.set_cons_succ]
                  refine' take_at (i := 22) (d := 140) (v := _) rfl rfl (by kernel_rfl) (by kernel_rfl) (by kernel_rfl) (fun _ _ _ h => h) (Or.inl ⟨by rfl, ?h22⟩) (Jt3.out.2.1) ?_
                  case h22 =>
                    intro w hSw
                    have y1 := HCL3.out w hSw
                    go_simp
                    with_reducible rfl
                  simp only [List.setIfInBounds_toArray, List.set_cons_zero, List.set_cons_succ]
                  refine wpAnyH_ready (rs := [18]) (by kernel_rfl) (by simp) ?_
                  refine AllReadyH.cons (o := _) rfl (fun KQ hKQ => ?_) AllReadyH.nil
                  go_simp
                  refine (Jt3.out.1.one.now HS.out st.now rfl).mono ?_
                  rintro e t4 ⟨rfl, hM, hb⟩
                  have Jt4 : Hid (Bo15 LS LRe W t4 q5 r5 1099511627776 st st F5 G5 ∧ Below t0.heap.size t0 t4 ∧ True) := ⟨Jt3.out.1.later HS.out LRe.lt LRe.keep hb, Jt3.out.2.1.trans (hb.mono Jt3.out.2.1.size), trivial⟩
                  clear Jt3 hb hM
                  simp only []
                  refine hKQ.out _ _ Jt4.out.2.1 (fun _ => ?_)
                  clear hKQ KQ
                  refine' take_at (i := 23) (d := 141) (v := _) rfl rfl (by kernel_rfl) (by kernel_rfl) (by kernel_rfl) (fun _ _ _ h => h) (Or.inl ⟨by rfl, ?h23⟩) (Jt4.out.2.1) ?_
                  case h23 =>
                    intro w hSw
                    go_simp
                    with_reducible rfl
                  simp only [List.setIfInBounds_toArray, List.set_cons_zero, List.set_cons_succ]
                  refine' take_at (i := 24) (d := 142) (v := _) rfl rfl (by kernel_rfl) (by kernel_rfl) (by kernel_rfl) (fun _ _ _ h => h) (Or.inl ⟨by rfl, ?h24⟩) (Jt4.out.2.1) ?_
                  case h24 =>
                    intro w hSw
                    go_simp
                    with_reducible rfl
                  simp only [List.setIfInBounds_toArray, List.set_cons_zero, List.set_cons_succ]
                  refine' take_at (i := 25) (d := 143) (v := _) rfl rfl (by kernel_rfl) (by kernel_rfl) (by kernel_rfl) (fun _ _ _ h => h) (Or.inl ⟨by rfl, ?h25⟩) (Jt4.out.2.1) ?_
                  case h25 =>
                    intro w hSw
                    go_simp
                    with_reducible rfl
                  simp only [List.setIfInBounds_toArray, List.set_cons_zero, List.set_cons_succ]
                  refine wpAnyH_done (by kernel_rfl) ?_ _
                  go_wp2
                  go_roundw
                  case rel => exact ⟨0 + 1, by omega, by go_num, Jt4.out.1.one.below, HBY3.out _ Jt4.out.2.1⟩
                  case measure => simp [intOf]
              · have HP1 : Hid (Bs wr (.slice au M cu) bs ∧ bs.length ≤ 2000) := ⟨HU.out.1.below HW.out.1, HM5.out.1⟩
                have hix := (index_two15 a0 au L0 M c0 cu wr).2
                have HCY : Hid (Bs wr (.slice au M cu) bs ∧ bs.length ≤ 2000) := HP1.out
                cases hg : Sq.get bs with
                | none =>
                  have HGN : Hid (Sq.get bs = none) := hg
                  clear hg
                  go_wp2_with fail
                  refine (mine15_getno HS.out _ bs wr HCY.out.1 HCY.out.2 HGN.out).mono ?_
                  rintro e s1 ⟨rfl, hb⟩
                  have J1 : Hid (Below W.heap.size W s1 ∧ Bs s1 (.slice au M cu) bs ∧ Bs s1 (.slice a0 L0 c0) A0) := ⟨HW.out.1.trans (hb.mono HW.out.1.size), HCY.out.1.below hb, HW.out.2.below hb⟩
                  clear hb
                  go_wp2_with fail
                  refine (refGet_walk15 _ bs s1 J1.out.2.1 HCY.out.2).mono ?_
                  intro e s2 hP
                  obtain ⟨hb2, hno, _⟩ := hP
                  obtain ⟨pv, rfl⟩ := hno HGN.out
                  have J2 : Hid (Below W.heap.size W s2 ∧ Bs s2 (.slice a0 L0 c0) A0) := ⟨J1.out.1.trans (hb2.mono J1.out.1.size), J1.out.2.2.below hb2⟩
                  clear hb2 hno J1
                  go_wp2
                  go_quiet (fail)
                  have J3 : Hid (Below W.heap.size W (s2.drewN nq) ∧ Bs (s2.drewN nq) (.slice a0 L0 c0) A0) := ⟨below_drewN J2.out.1 _, J2.out.2.below (below_drewN (Below.refl _ _) _)⟩
                  go_wp2
                  go_roundw
                  case rel => exact ⟨1 + 1, by omega, by go_num, J3.out.1, J3.out.2⟩
                  case measure => simp [intOf]
                | some st =>
                  have HGS : Hid (Sq.get bs = some st ∧ Sq.bytes st = bs) := ⟨hg, (Sq.get_inv hg).2⟩
                  clear hg
                  go_wp2_with fail
                  refine (mine15_get HS.out HW.out.1 _ bs HCY.out.1 HCY.out.2 st HGS.out.1).mono ?_
                  rintro e s1 ⟨q5, F5, rfl, hM1, hF5, hb⟩
                  have J1 : Hid (Mine15 LS W s1 q5 1099511627776 st F5 ∧ Bs s1 (.slice au M cu) bs ∧ Bs s1 (.slice a0 L0 c0) A0) := ⟨hM1, HCY.out.1.below hb, HW.out.2.below hb⟩
                  clear hb hM1 hF5
                  go_wp2_with fail
                  refine (refGet_walk15 _ bs s1 J1.out.2.1 HCY.out.2).mono ?_
                  intro e s2 hP
                  obtain ⟨hb2, _, hys⟩ := hP
                  obtain ⟨r5, G5, rfl, hR5, hG5⟩ := hys st HGS.out.1
                  have J2 : Hid (Bo15 LS LRe W s2 q5 r5 1099511627776 st st F5 G5 ∧ Bs s2 (.slice au M cu) bs ∧ Bs s2 (.slice a0 L0 c0) A0) := by
                    have h1 := J1.out.1.later HS.out hb2
                    have hsz := J1.out.1.below.size
                    exact ⟨⟨h1, ⟨hR5, h1.fine, fun j hj => by have := hG5 j hj; omega, h1.below⟩, fun j hj e => by have := HS.out.lt J1.out.1.ld hj; have := hG5 j e; omega⟩, J1.out.2.1.below hb2, J1.out.2.2.below hb2⟩
                  clear hb2 hys hR5 hG5 J1
                  have HLN : Hid ((Sq.all st).length ≤ 1000) := (show (Sq.all st).length ≤ 1000 by have h := J2.out.1.one.fine.len64; unfold Sq.all; simp; omega)
                  obtain ⟨Z, hZ⟩ : ∃ Z : ByteArray, Z = ⟨bs.toArray⟩ := ⟨_, rfl⟩
                  have HZZ : Hid (Z = ⟨bs.toArray⟩) := hZ
                  have hzz : (Z.toList == Z.toList) = true := by simp
                  have hzn : (Z.toList != Z.toList) = false := by simp
                  have hnn : (st.now != st.now) = false := by simp
                  clear hZ
                  go_wp2
                  refine wp_region_held_drew (S := fun w' => Below s2.heap.size s2 w') (by kernel_rfl) (Below.refl _ _).drew (fun _ => ?_)
                  refine wpAnyH_more (S' := fun w' => Below s2.drew.heap.size s2.drew w') (fun w' h => below_drew h) _ _ _ _ ?_
                  have Js0 : Hid (Bo15 LS LRe W s2.drew q5 r5 1099511627776 st st F5 G5 ∧ Below s2.drew.heap.size s2.drew s2.drew) := ⟨J2.out.1.later HS.out LRe.lt LRe.keep (Below.refl _ _).drew, Below.refl _ _⟩
                  have HCL : Hid (∀ w', Below s2.drew.heap.size s2.drew w' → w'.cell? ⟨r5, 1, none⟩ = some (.int .i64 st.now)) := by
                    have hR := Js0.out.1.two.ld
                    exact fun w' hb => by
                      obtain ⟨vr, hvr, _⟩ := hR
                      exact (hvr.later hb).blk.cell 1
                  have HBY : Hid (Bs s2.drew (.slice au M cu) bs ∧ Bs s2.drew (.slice a0 L0 c0) A0) := ⟨J2.out.2.1.below (Below.refl _ _).drew, J2.out.2.2.below (Below.refl _ _).drew⟩
                  clear J2
                  generalize s2.drew = s0 at *
                  refine' take_at (i := 0) (d := 118) (v := _) rfl rfl (by kernel_rfl) (by kernel_rfl) (by kernel_rfl) (fun _ _ _ h => h) (Or.inl ⟨by rfl, ?h0⟩) (Js0.out.2) ?_
                  case h0 =>
                    intro w hSw
                    go_simp
                    with_reducible rfl
                  simp only [List.setIfInBounds_toArray, List.set_cons_zero, List.set_cons_succ]
                  refine' take_at (i := 1) (d := 119) (v := _) rfl rfl (by kernel_rfl) (by kernel_rfl) (by kernel_rfl) (fun _ _ _ h => h) (Or.inl ⟨by rfl, ?h1⟩) (Js0.out.2) ?_
                  case h1 =>
                    intro w hSw
                    go_simp
                    with_reducible rfl
                  simp only [List.setIfInBounds_toArray, List.set_cons_zero, List.set_cons_succ]
                  refine' take_at (i := 2) (d := 120) (v := _) rfl rfl (by kernel_rfl) (by kernel_rfl) (by kernel_rfl) (fun _ _ _ h => h) (Or.inl ⟨by rfl, ?h2⟩) (Js0.out.2) ?_
                  case h2 =>
                    intro w hSw
                    go_simp
                    with_reducible rfl
                  simp only [List.setIfInBounds_toArray, List.set_cons_zero, List.set_cons_succ]
                  refine' take_at (i := 5) (d := 123) (v := _) rfl rfl (by kernel_rfl) (by kernel_rfl) (by kernel_rfl) (fun _ _ _ h => h) (Or.inl ⟨by rfl, ?h5⟩) (Js0.out.2) ?_
                  case h5 =>
                    intro w hSw
                    go_simp
                    with_reducible rfl
                  simp only [List.setIfInBounds_toArray, List.set_cons_zero, List.set_cons_succ]
                  refine' take_at (i := 6) (d := 124) (v := _) rfl rfl (by kernel_rfl) (by kernel_rfl) (by kernel_rfl) (fun _ _ _ h => h) (Or.inl ⟨by rfl, ?h6⟩) (Js0.out.2) ?_
                  case h6 =>
                    intro w hSw
                    have hcv := (HBY.out.1.below hSw).conv
                    rw [← HZZ.out] at hcv
                    go_simp
                    with_reducible rfl
                  simp only [List.setIfInBounds_toArray, List.set_cons_zero, List.set_cons_succ]
                  refine wpAnyH_ready (rs := [3]) (by kernel_rfl) (by simp) ?_
                  refine AllReadyH.cons (o := _) rfl (fun KQ hKQ => ?_) AllReadyH.nil
                  go_simp
                  refine (Js0.out.1.one.put HS.out).mono ?_
                  rintro e s3 ⟨vp, rfl, hvp, hM, hb⟩
                  have Js3 : Hid (Bo15 LS LRe W s3 q5 r5 1099511627776 st st F5 G5 ∧ Below s0.heap.size s0 s3 ∧ Bs s3 vp bs) := ⟨Js0.out.1.later HS.out LRe.lt LRe.keep hb, Js0.out.2.trans (hb.mono Js0.out.2.size), by have h := Bs.own hvp; rw [HGS.out.2] at h; exact h⟩
                  obtain ⟨ap3, cp3, hve3, _, _⟩ := row_form hvp
                  obtain ⟨LB3, hLB3⟩ : ∃ z, z = (Sq.bytes st).length := ⟨_, rfl⟩
                  rw [← hLB3] at hve3
                  subst hve3
                  clear hvp hM hLB3 Js0 hb
                  simp only []
                  refine hKQ.out _ _ Js3.out.2.1 (fun _ => ?_)
                  refine wpAnyH_more (S' := fun w' => Below s3.heap.size s3 w') (fun w' h => Js3.out.2.1.trans (h.mono Js3.out.2.1.size)) _ _ _ _ ?_
                  clear hKQ KQ
                  refine' take_at (i := 4) (d := 122) (v := _) rfl rfl (by kernel_rfl) (by kernel_rfl) (by kernel_rfl) (fun _ _ _ h => h) (Or.inl ⟨by rfl, ?h4⟩) (Below.refl _ _) ?_
                  case h4 =>
                    intro w hSw
                    have hcv := (Js3.out.2.2.below hSw).conv
                    rw [← HZZ.out] at hcv
                    go_simp
                    with_reducible rfl
                  simp only [List.setIfInBounds_toArray, List.set_cons_zero, List.set_cons_succ]
                  refine wpAnyH_more (S' := fun w' => Below s3.heap.size s3 w') (fun w' h => h) _ _ _ _ ?_
                  have Jt0 : Hid (Bo15 LS LRe W s3 q5 r5 1099511627776 st st F5 G5 ∧ Below s3.heap.size s3 s3 ∧ Below s0.heap.size s0 s3) := ⟨Js3.out.1, Below.refl _ _, Js3.out.2.1⟩
                  have HCL3 : Hid (∀ w', Below s3.heap.size s3 w' → w'.cell? ⟨r5, 1, none⟩ = some (.int .i64 st.now)) := fun w' hb => HCL.out w' (Js3.out.2.1.trans (hb.mono Js3.out.2.1.size))
                  have HBY3 : Hid (∀ w', Below s3.heap.size s3 w' → Bs w' (.slice a0 L0 c0) A0) := fun w' hb => HBY.out.2.below (Js3.out.2.1.trans (hb.mono Js3.out.2.1.size))
                  clear Js3 HCL HBY
                  generalize s3 = t0 at *
                  refine' take_at (i := 7) (d := 125) (v := _) rfl rfl (by kernel_rfl) (by kernel_rfl) (by kernel_rfl) (fun _ _ _ h => h) (Or.inl ⟨by rfl, ?h7⟩) (Jt0.out.2.1) ?_
                  case h7 =>
                    intro w hSw
                    go_simp
                    with_reducible rfl
                  simp only [List.setIfInBounds_toArray, List.set_cons_zero, List.set_cons_succ]
                  refine' take_at (i := 8) (d := 126) (v := _) rfl rfl (by kernel_rfl) (by kernel_rfl) (by kernel_rfl) (fun _ _ _ h => h) (Or.inl ⟨by rfl, ?h8⟩) (Jt0.out.2.1) ?_
                  case h8 =>
                    intro w hSw
                    go_simp
                    with_reducible rfl
                  simp only [List.setIfInBounds_toArray, List.set_cons_zero, List.set_cons_succ]
                  refine' take_at (i := 9) (d := 127) (v := _) rfl rfl (by kernel_rfl) (by kernel_rfl) (by kernel_rfl) (fun _ _ _ h => h) (Or.inl ⟨by rfl, ?h9⟩) (Jt0.out.2.1) ?_
                  case h9 =>
                    intro w hSw
                    go_simp
                    with_reducible rfl
                  simp only [List.setIfInBounds_toArray, List.set_cons_zero, List.set_cons_succ]
                  refine' take_at (i := 11) (d := 129) (v := _) rfl rfl (by kernel_rfl) (by kernel_rfl) (by kernel_rfl) (fun _ _ _ h => h) (Or.inl ⟨by rfl, ?h11⟩) (Jt0.out.2.1) ?_
                  case h11 =>
                    intro w hSw
                    go_simp
                    with_reducible rfl
                  simp only [List.setIfInBounds_toArray, List.set_cons_zero, List.set_cons_succ]
                  refine wpAnyH_ready (rs := [10]) (by kernel_rfl) (by simp) ?_
                  refine AllReadyH.cons (o := _) rfl (fun KQ hKQ => ?_) AllReadyH.nil
                  go_simp
                  refine (Jt0.out.1.one.all HS.out).mono ?_
                  rintro e t1 ⟨va, rfl, hia, hoa, hM, hb⟩
                  have Jt1 : Hid (Bo15 LS LRe W t1 q5 r5 1099511627776 st st F5 G5 ∧ Below t0.heap.size t0 t1 ∧ Bi t1 va (Sq.all st)) := ⟨Jt0.out.1.later HS.out LRe.lt LRe.keep hb, Jt0.out.2.1.trans (hb.mono Jt0.out.2.1.size), hia⟩
                  obtain ⟨a3, n3, c3, rfl, hn3, hc3⟩ := hia
                  clear Jt0 hb hoa hM hn3 hc3
                  simp only []
                  refine hKQ.out _ _ Jt1.out.2.1 (fun _ => ?_)
                  clear hKQ KQ
                  refine wpAnyH_ready (rs := [12]) (by kernel_rfl) (by simp) ?_
                  refine AllReadyH.cons (o := _) rfl (fun KQ hKQ => ?_) AllReadyH.nil
                  go_simp
                  refine (refAll_any15 r5 st G5 _ t1 Jt1.out.1.two.ld Jt1.out.1.two.fine).mono ?_
                  rintro e t2 ⟨vb, rfl, hib, hob9, hb⟩
                  have Jt2 : Hid (Bo15 LS LRe W t2 q5 r5 1099511627776 st st F5 G5 ∧ Below t0.heap.size t0 t2 ∧ Bi t2 (.slice a3 n3 c3) (Sq.all st) ∧ Bi t2 vb (Sq.all st)) := ⟨Jt1.out.1.later HS.out LRe.lt LRe.keep hb, Jt1.out.2.1.trans (hb.mono Jt1.out.2.1.size), Jt1.out.2.2.below hb, hib⟩
                  obtain ⟨a4, n4, c4, rfl, hn4, hc4⟩ := hib
                  clear Jt1 hb hob9 hn4 hc4
                  simp only []
                  refine hKQ.out _ _ Jt2.out.2.1 (fun _ => ?_)
                  clear hKQ KQ
                  refine wpAnyH_ready (rs := [13]) (by kernel_rfl) (by simp) ?_
                  refine AllReadyH.cons (o := _) rfl (fun KQ hKQ => ?_) AllReadyH.nil
                  go_simp
                  refine (ids_any15 _ _ (Sq.all st) (Sq.all st) t2 Jt2.out.2.2.1 Jt2.out.2.2.2 HLN.out).mono ?_
                  rintro e t3 ⟨rfl, hb⟩
                  have Jt3 : Hid (Bo15 LS LRe W t3 q5 r5 1099511627776 st st F5 G5 ∧ Below t0.heap.size t0 t3 ∧ True) := ⟨Jt2.out.1.later HS.out LRe.lt LRe.keep hb, Jt2.out.2.1.trans (hb.mono Jt2.out.2.1.size), trivial⟩
                  have hdt : decide (Sq.all st = Sq.all st) = true := decide_eq_true rfl
                  rw [hdt]
                  clear Jt2 hb hdt
                  simp only []
                  refine hKQ.out _ _ Jt3.out.2.1 (fun _ => ?_)
                  clear hKQ KQ
                  refine' take_at (i := 14) (d := 132) (v := _) rfl rfl (by kernel_rfl) (by kernel_rfl) (by kernel_rfl) (fun _ _ _ h => h) (Or.inl ⟨by rfl, ?h14⟩) (Jt3.out.2.1) ?_
                  case h14 =>
                    intro w hSw
                    go_simp
                    with_reducible rfl
                  simp only [List.setIfInBounds_toArray, List.set_cons_zero, List.set_cons_succ]
                  refine' take_at (i := 15) (d := 133) (v := _) rfl rfl (by kernel_rfl) (by kernel_rfl) (by kernel_rfl) (fun _ _ _ h => h) (Or.inl ⟨by rfl, ?h15⟩) (Jt3.out.2.1) ?_
                  case h15 =>
                    intro w hSw
                    go_simp
                    with_reducible rfl
                  simp only [List.setIfInBounds_toArray, List.set_cons_zero, List.set_cons_succ]
                  refine' take_at (i := 16) (d := 134) (v := _) rfl rfl (by kernel_rfl) (by kernel_rfl) (by kernel_rfl) (fun _ _ _ h => h) (Or.inl ⟨by rfl, ?h16⟩) (Jt3.out.2.1) ?_
                  case h16 =>
                    intro w hSw
                    go_simp
                    with_reducible rfl
                  simp only [List.setIfInBounds_toArray, List.set_cons_zero, List.set_cons_succ]
                  refine' take_at (i := 17) (d := 135) (v := _) rfl rfl (by kernel_rfl) (by kernel_rfl) (by kernel_rfl) (fun _ _ _ h => h) (Or.inl ⟨by rfl, ?h17⟩) (Jt3.out.2.1) ?_
                  case h17 =>
                    intro w hSw
                    go_simp
                    with_reducible rfl
                  simp only [List.setIfInBounds_toArray, List.set_cons_zero, List.set_cons_succ]
                  refine' take_at (i := 19) (d := 137) (v := _) rfl rfl (by kernel_rfl) (by kernel_rfl) (by kernel_rfl) (fun _ _ _ h => h) (Or.inl ⟨by rfl, ?h19⟩) (Jt3.out.2.1) ?_
                  case h19 =>
                    intro w hSw
                    go_simp
                    with_reducible rfl
                  simp only [List.setIfInBounds_toArray, List.set_cons_zero, List.set_cons_succ]
                  refine' take_at (i := 20) (d := 138) (v := _) rfl rfl (by kernel_rfl) (by kernel_rfl) (by kernel_rfl) (fun _ _ _ h => h) (Or.inl ⟨by rfl, ?h20⟩) (Jt3.out.2.1) ?_
                  case h20 =>
                    intro w hSw
                    go_simp
                    with_reducible rfl
                  simp only [List.setIfInBounds_toArray, List.set_cons_zero, List.set_cons_succ]
                  refine' take_at (i := 21) (d := 139) (v := _) rfl rfl (by kernel_rfl) (by kernel_rfl) (by kernel_rfl) (fun _ _ _ h => h) (Or.inl ⟨by rfl, ?h21⟩) (Jt3.out.2.1) ?_
                  case h21 =>
                    intro w hSw
                    have y1 := HCL3.out w hSw
                    go_simp
                    with_reducible rfl
                  simp only [List.setIfInBounds_toArray, List.set_cons_zero, List.set_cons_succ]
                  refine' take_at (i := 22) (d := 140) (v := _) rfl rfl (by kernel_rfl) (by kernel_rfl) (by kernel_rfl) (fun _ _ _ h => h) (Or.inl ⟨by rfl, ?h22⟩) (Jt3.out.2.1) ?_
                  case h22 =>
                    intro w hSw
                    have y1 := HCL3.out w hSw
                    go_simp
                    with_reducible rfl
                  simp only [List.setIfInBounds_toArray, List.set_cons_zero, List.set_cons_succ]
                  refine wpAnyH_ready (rs := [18]) (by kernel_rfl) (by simp) ?_
                  refine AllReadyH.cons (o := _) rfl (fun KQ hKQ => ?_) AllReadyH.nil
                  go_simp
                  refine (Jt3.out.1.one.now HS.out st.now rfl).mono ?_
                  rintro e t4 ⟨rfl, hM, hb⟩
                  have Jt4 : Hid (Bo15 LS LRe W t4 q5 r5 1099511627776 st st F5 G5 ∧ Below t0.heap.size t0 t4 ∧ True) := ⟨Jt3.out.1.later HS.out LRe.lt LRe.keep hb, Jt3.out.2.1.trans (hb.mono Jt3.out.2.1.size), trivial⟩
                  clear Jt3 hb hM
                  simp only []
                  refine hKQ.out _ _ Jt4.out.2.1 (fun _ => ?_)
                  clear hKQ KQ
                  refine' take_at (i := 23) (d := 141) (v := _) rfl rfl (by kernel_rfl) (by kernel_rfl) (by kernel_rfl) (fun _ _ _ h => h) (Or.inl ⟨by rfl, ?h23⟩) (Jt4.out.2.1) ?_
                  case h23 =>
                    intro w hSw
                    go_simp
                    with_reducible rfl
                  simp only [List.setIfInBounds_toArray, List.set_cons_zero, List.set_cons_succ]
                  refine' take_at (i := 24) (d := 142) (v := _) rfl rfl (by kernel_rfl) (by kernel_rfl) (by kernel_rfl) (fun _ _ _ h => h) (Or.inl ⟨by rfl, ?h24⟩) (Jt4.out.2.1) ?_
                  case h24 =>
                    intro w hSw
                    go_simp
                    with_reducible rfl
                  simp only [List.setIfInBounds_toArray, List.set_cons_zero, List.set_cons_succ]
                  refine' take_at (i := 25) (d := 143) (v := _) rfl rfl (by kernel_rfl) (by kernel_rfl) (by kernel_rfl) (fun _ _ _ h => h) (Or.inl ⟨by rfl, ?h25⟩) (Jt4.out.2.1) ?_
                  case h25 =>
                    intro w hSw
                    go_simp
                    with_reducible rfl
                  simp only [List.setIfInBounds_toArray, List.set_cons_zero, List.set_cons_succ]
                  refine wpAnyH_done (by kernel_rfl) ?_ _
                  go_wp2
                  go_roundw
                  case rel => exact ⟨1 + 1, by omega, by go_num, Jt4.out.1.one.below, HBY3.out _ Jt4.out.2.1⟩
                  case measure => simp [intOf]
            · obtain rfl : k2 = 2 := by omega
              go_wp2
              go_ret
              exact ⟨rfl, HW.out.1⟩
        · clear hp1 hp2
          go_wp2
          go_loopw [89] (fun i wx => ∃ k : Nat, k ≤ 2 ∧ i = .int .i64 (k : Int) ∧ Below W.heap.size W wx ∧ Bs wx (.slice a0 L0 c0) A0) (fun i _ => 2 - (intOf i).toNat)
          case atStart => exact ⟨0, by omega, rfl, HY.out.1, HY.out.2.1⟩
          case round =>
            obtain ⟨k2, hk2, rfl, hbw, hbs⟩ := hrel
            have HW : Hid (Below W.heap.size W wr ∧ Bs wr (.slice a0 L0 c0) A0) := ⟨hbw, hbs⟩
            clear hbw hbs
            by_cases h2 : k2 < 2
            · rcases (show k2 = 0 ∨ k2 = 1 by omega) with rfl | rfl
              · have HP0 : Hid (Bs wr (.slice a0 L0 c0) A0 ∧ A0.length ≤ 2000) := ⟨HW.out.2, HY.out.2.2⟩
                have hix := (index_two15 a0 au L0 M c0 cu wr).1
                have HCY : Hid (Bs wr (.slice a0 L0 c0) A0 ∧ A0.length ≤ 2000) := HP0.out
                cases hg : Sq.get A0 with
                | none =>
                  have HGN : Hid (Sq.get A0 = none) := hg
                  clear hg
                  go_wp2_with fail
                  refine (mine15_getno HS.out _ A0 wr HCY.out.1 HCY.out.2 HGN.out).mono ?_
                  rintro e s1 ⟨rfl, hb⟩
                  have J1 : Hid (Below W.heap.size W s1 ∧ Bs s1 (.slice a0 L0 c0) A0 ∧ Bs s1 (.slice a0 L0 c0) A0) := ⟨HW.out.1.trans (hb.mono HW.out.1.size), HCY.out.1.below hb, HW.out.2.below hb⟩
                  clear hb
                  go_wp2_with fail
                  refine (refGet_walk15 _ A0 s1 J1.out.2.1 HCY.out.2).mono ?_
                  intro e s2 hP
                  obtain ⟨hb2, hno, _⟩ := hP
                  obtain ⟨pv, rfl⟩ := hno HGN.out
                  have J2 : Hid (Below W.heap.size W s2 ∧ Bs s2 (.slice a0 L0 c0) A0) := ⟨J1.out.1.trans (hb2.mono J1.out.1.size), J1.out.2.2.below hb2⟩
                  clear hb2 hno J1
                  go_wp2
                  go_quiet (fail)
                  have J3 : Hid (Below W.heap.size W (s2.drewN nq) ∧ Bs (s2.drewN nq) (.slice a0 L0 c0) A0) := ⟨below_drewN J2.out.1 _, J2.out.2.below (below_drewN (Below.refl _ _) _)⟩
                  go_wp2
                  go_roundw
                  case rel => exact ⟨0 + 1, by omega, by go_num, J3.out.1, J3.out.2⟩
                  case measure => simp [intOf]
                | some st =>
                  have HGS : Hid (Sq.get A0 = some st ∧ Sq.bytes st = A0) := ⟨hg, (Sq.get_inv hg).2⟩
                  clear hg
                  go_wp2_with fail
                  refine (mine15_get HS.out HW.out.1 _ A0 HCY.out.1 HCY.out.2 st HGS.out.1).mono ?_
                  rintro e s1 ⟨q5, F5, rfl, hM1, hF5, hb⟩
                  have J1 : Hid (Mine15 LS W s1 q5 1099511627776 st F5 ∧ Bs s1 (.slice a0 L0 c0) A0 ∧ Bs s1 (.slice a0 L0 c0) A0) := ⟨hM1, HCY.out.1.below hb, HW.out.2.below hb⟩
                  clear hb hM1 hF5
                  go_wp2_with fail
                  refine (refGet_walk15 _ A0 s1 J1.out.2.1 HCY.out.2).mono ?_
                  intro e s2 hP
                  obtain ⟨hb2, _, hys⟩ := hP
                  obtain ⟨r5, G5, rfl, hR5, hG5⟩ := hys st HGS.out.1
                  have J2 : Hid (Bo15 LS LRe W s2 q5 r5 1099511627776 st st F5 G5 ∧ Bs s2 (.slice a0 L0 c0) A0 ∧ Bs s2 (.slice a0 L0 c0) A0) := by
                    have h1 := J1.out.1.later HS.out hb2
                    have hsz := J1.out.1.below.size
                    exact ⟨⟨h1, ⟨hR5, h1.fine, fun j hj => by have := hG5 j hj; omega, h1.below⟩, fun j hj e => by have := HS.out.lt J1.out.1.ld hj; have := hG5 j e; omega⟩, J1.out.2.1.below hb2, J1.out.2.2.below hb2⟩
                  clear hb2 hys hR5 hG5 J1
                  have HLN : Hid ((Sq.all st).length ≤ 1000) := (show (Sq.all st).length ≤ 1000 by have h := J2.out.1.one.fine.len64; unfold Sq.all; simp; omega)
                  obtain ⟨Z, hZ⟩ : ∃ Z : ByteArray, Z = ⟨A0.toArray⟩ := ⟨_, rfl⟩
                  have HZZ : Hid (Z = ⟨A0.toArray⟩) := hZ
                  have hzz : (Z.toList == Z.toList) = true := by simp
                  have hzn : (Z.toList != Z.toList) = false := by simp
                  have hnn : (st.now != st.now) = false := by simp
                  clear hZ
                  go_wp2
                  refine wp_region_held_drew (S := fun w' => Below s2.heap.size s2 w') (by kernel_rfl) (Below.refl _ _).drew (fun _ => ?_)
                  refine wpAnyH_more (S' := fun w' => Below s2.drew.heap.size s2.drew w') (fun w' h => below_drew h) _ _ _ _ ?_
                  have Js0 : Hid (Bo15 LS LRe W s2.drew q5 r5 1099511627776 st st F5 G5 ∧ Below s2.drew.heap.size s2.drew s2.drew) := ⟨J2.out.1.later HS.out LRe.lt LRe.keep (Below.refl _ _).drew, Below.refl _ _⟩
                  have HCL : Hid (∀ w', Below s2.drew.heap.size s2.drew w' → w'.cell? ⟨r5, 1, none⟩ = some (.int .i64 st.now)) := by
                    have hR := Js0.out.1.two.ld
                    exact fun w' hb => by
                      obtain ⟨vr, hvr, _⟩ := hR
                      exact (hvr.later hb).blk.cell 1
                  have HBY : Hid (Bs s2.drew (.slice a0 L0 c0) A0 ∧ Bs s2.drew (.slice a0 L0 c0) A0) := ⟨J2.out.2.1.below (Below.refl _ _).drew, J2.out.2.2.below (Below.refl _ _).drew⟩
                  clear J2
                  generalize s2.drew = s0 at *
                  refine' take_at (i := 0) (d := 118) (v := _) rfl rfl (by kernel_rfl) (by kernel_rfl) (by kernel_rfl) (fun _ _ _ h => h) (Or.inl ⟨by rfl, ?h0⟩) (Js0.out.2) ?_
                  case h0 =>
                    intro w hSw
                    go_simp
                    with_reducible rfl
                  simp only [List.setIfInBounds_toArray, List.set_cons_zero, List.set_cons_succ]
                  refine' take_at (i := 1) (d := 119) (v := _) rfl rfl (by kernel_rfl) (by kernel_rfl) (by kernel_rfl) (fun _ _ _ h => h) (Or.inl ⟨by rfl, ?h1⟩) (Js0.out.2) ?_
                  case h1 =>
                    intro w hSw
                    go_simp
                    with_reducible rfl
                  simp only [List.setIfInBounds_toArray, List.set_cons_zero, List.set_cons_succ]
                  refine' take_at (i := 2) (d := 120) (v := _) rfl rfl (by kernel_rfl) (by kernel_rfl) (by kernel_rfl) (fun _ _ _ h => h) (Or.inl ⟨by rfl, ?h2⟩) (Js0.out.2) ?_
                  case h2 =>
                    intro w hSw
                    go_simp
                    with_reducible rfl
                  simp only [List.setIfInBounds_toArray, List.set_cons_zero, List.set_cons_succ]
                  refine' take_at (i := 5) (d := 123) (v := _) rfl rfl (by kernel_rfl) (by kernel_rfl) (by kernel_rfl) (fun _ _ _ h => h) (Or.inl ⟨by rfl, ?h5⟩) (Js0.out.2) ?_
                  case h5 =>
                    intro w hSw
                    go_simp
                    with_reducible rfl
                  simp only [List.setIfInBounds_toArray, List.set_cons_zero, List.set_cons_succ]
                  refine' take_at (i := 6) (d := 124) (v := _) rfl rfl (by kernel_rfl) (by kernel_rfl) (by kernel_rfl) (fun _ _ _ h => h) (Or.inl ⟨by rfl, ?h6⟩) (Js0.out.2) ?_
                  case h6 =>
                    intro w hSw
                    have hcv := (HBY.out.1.below hSw).conv
                    rw [← HZZ.out] at hcv
                    go_simp
                    with_reducible rfl
                  simp only [List.setIfInBounds_toArray, List.set_cons_zero, List.set_cons_succ]
                  refine wpAnyH_ready (rs := [3]) (by kernel_rfl) (by simp) ?_
                  refine AllReadyH.cons (o := _) rfl (fun KQ hKQ => ?_) AllReadyH.nil
                  go_simp
                  refine (Js0.out.1.one.put HS.out).mono ?_
                  rintro e s3 ⟨vp, rfl, hvp, hM, hb⟩
                  have Js3 : Hid (Bo15 LS LRe W s3 q5 r5 1099511627776 st st F5 G5 ∧ Below s0.heap.size s0 s3 ∧ Bs s3 vp A0) := ⟨Js0.out.1.later HS.out LRe.lt LRe.keep hb, Js0.out.2.trans (hb.mono Js0.out.2.size), by have h := Bs.own hvp; rw [HGS.out.2] at h; exact h⟩
                  obtain ⟨ap3, cp3, hve3, _, _⟩ := row_form hvp
                  obtain ⟨LB3, hLB3⟩ : ∃ z, z = (Sq.bytes st).length := ⟨_, rfl⟩
                  rw [← hLB3] at hve3
                  subst hve3
                  clear hvp hM hLB3 Js0 hb
                  simp only []
                  refine hKQ.out _ _ Js3.out.2.1 (fun _ => ?_)
                  refine wpAnyH_more (S' := fun w' => Below s3.heap.size s3 w') (fun w' h => Js3.out.2.1.trans (h.mono Js3.out.2.1.size)) _ _ _ _ ?_
                  clear hKQ KQ
                  refine' take_at (i := 4) (d := 122) (v := _) rfl rfl (by kernel_rfl) (by kernel_rfl) (by kernel_rfl) (fun _ _ _ h => h) (Or.inl ⟨by rfl, ?h4⟩) (Below.refl _ _) ?_
                  case h4 =>
                    intro w hSw
                    have hcv := (Js3.out.2.2.below hSw).conv
                    rw [← HZZ.out] at hcv
                    go_simp
                    with_reducible rfl
                  simp only [List.setIfInBounds_toArray, List.set_cons_zero, List.set_cons_succ]
                  refine wpAnyH_more (S' := fun w' => Below s3.heap.size s3 w') (fun w' h => h) _ _ _ _ ?_
                  have Jt0 : Hid (Bo15 LS LRe W s3 q5 r5 1099511627776 st st F5 G5 ∧ Below s3.heap.size s3 s3 ∧ Below s0.heap.size s0 s3) := ⟨Js3.out.1, Below.refl _ _, Js3.out.2.1⟩
                  have HCL3 : Hid (∀ w', Below s3.heap.size s3 w' → w'.cell? ⟨r5, 1, none⟩ = some (.int .i64 st.now)) := fun w' hb => HCL.out w' (Js3.out.2.1.trans (hb.mono Js3.out.2.1.size))
                  have HBY3 : Hid (∀ w', Below s3.heap.size s3 w' → Bs w' (.slice a0 L0 c0) A0) := fun w' hb => HBY.out.2.below (Js3.out.2.1.trans (hb.mono Js3.out.2.1.size))
                  clear Js3 HCL HBY
                  generalize s3 = t0 at *
                  refine' take_at (i := 7) (d := 125) (v := _) rfl rfl (by kernel_rfl) (by kernel_rfl) (by kernel_rfl) (fun _ _ _ h => h) (Or.inl ⟨by rfl, ?h7⟩) (Jt0.out.2.1) ?_
                  case h7 =>
                    intro w hSw
                    go_simp
                    with_reducible rfl
                  simp only [List.setIfInBounds_toArray, List.set_cons_zero, List.set_cons_succ]
                  refine' take_at (i := 8) (d := 126) (v := _) rfl rfl (by kernel_rfl) (by kernel_rfl) (by kernel_rfl) (fun _ _ _ h => h) (Or.inl ⟨by rfl, ?h8⟩) (Jt0.out.2.1) ?_
                  case h8 =>
                    intro w hSw
                    go_simp
                    with_reducible rfl
                  simp only [List.setIfInBounds_toArray, List.set_cons_zero, List.set_cons_succ]
                  refine' take_at (i := 9) (d := 127) (v := _) rfl rfl (by kernel_rfl) (by kernel_rfl) (by kernel_rfl) (fun _ _ _ h => h) (Or.inl ⟨by rfl, ?h9⟩) (Jt0.out.2.1) ?_
                  case h9 =>
                    intro w hSw
                    go_simp
                    with_reducible rfl
                  simp only [List.setIfInBounds_toArray, List.set_cons_zero, List.set_cons_succ]
                  refine' take_at (i := 11) (d := 129) (v := _) rfl rfl (by kernel_rfl) (by kernel_rfl) (by kernel_rfl) (fun _ _ _ h => h) (Or.inl ⟨by rfl, ?h11⟩) (Jt0.out.2.1) ?_
                  case h11 =>
                    intro w hSw
                    go_simp
                    with_reducible rfl
                  simp only [List.setIfInBounds_toArray, List.set_cons_zero, List.set_cons_succ]
                  refine wpAnyH_ready (rs := [10]) (by kernel_rfl) (by simp) ?_
                  refine AllReadyH.cons (o := _) rfl (fun KQ hKQ => ?_) AllReadyH.nil
                  go_simp
                  refine (Jt0.out.1.one.all HS.out).mono ?_
                  rintro e t1 ⟨va, rfl, hia, hoa, hM, hb⟩
                  have Jt1 : Hid (Bo15 LS LRe W t1 q5 r5 1099511627776 st st F5 G5 ∧ Below t0.heap.size t0 t1 ∧ Bi t1 va (Sq.all st)) := ⟨Jt0.out.1.later HS.out LRe.lt LRe.keep hb, Jt0.out.2.1.trans (hb.mono Jt0.out.2.1.size), hia⟩
                  obtain ⟨a3, n3, c3, rfl, hn3, hc3⟩ := hia
                  clear Jt0 hb hoa hM hn3 hc3
                  simp only []
                  refine hKQ.out _ _ Jt1.out.2.1 (fun _ => ?_)
                  clear hKQ KQ
                  refine wpAnyH_ready (rs := [12]) (by kernel_rfl) (by simp) ?_
                  refine AllReadyH.cons (o := _) rfl (fun KQ hKQ => ?_) AllReadyH.nil
                  go_simp
                  refine (refAll_any15 r5 st G5 _ t1 Jt1.out.1.two.ld Jt1.out.1.two.fine).mono ?_
                  rintro e t2 ⟨vb, rfl, hib, hob9, hb⟩
                  have Jt2 : Hid (Bo15 LS LRe W t2 q5 r5 1099511627776 st st F5 G5 ∧ Below t0.heap.size t0 t2 ∧ Bi t2 (.slice a3 n3 c3) (Sq.all st) ∧ Bi t2 vb (Sq.all st)) := ⟨Jt1.out.1.later HS.out LRe.lt LRe.keep hb, Jt1.out.2.1.trans (hb.mono Jt1.out.2.1.size), Jt1.out.2.2.below hb, hib⟩
                  obtain ⟨a4, n4, c4, rfl, hn4, hc4⟩ := hib
                  clear Jt1 hb hob9 hn4 hc4
                  simp only []
                  refine hKQ.out _ _ Jt2.out.2.1 (fun _ => ?_)
                  clear hKQ KQ
                  refine wpAnyH_ready (rs := [13]) (by kernel_rfl) (by simp) ?_
                  refine AllReadyH.cons (o := _) rfl (fun KQ hKQ => ?_) AllReadyH.nil
                  go_simp
                  refine (ids_any15 _ _ (Sq.all st) (Sq.all st) t2 Jt2.out.2.2.1 Jt2.out.2.2.2 HLN.out).mono ?_
                  rintro e t3 ⟨rfl, hb⟩
                  have Jt3 : Hid (Bo15 LS LRe W t3 q5 r5 1099511627776 st st F5 G5 ∧ Below t0.heap.size t0 t3 ∧ True) := ⟨Jt2.out.1.later HS.out LRe.lt LRe.keep hb, Jt2.out.2.1.trans (hb.mono Jt2.out.2.1.size), trivial⟩
                  have hdt : decide (Sq.all st = Sq.all st) = true := decide_eq_true rfl
                  rw [hdt]
                  clear Jt2 hb hdt
                  simp only []
                  refine hKQ.out _ _ Jt3.out.2.1 (fun _ => ?_)
                  clear hKQ KQ
                  refine' take_at (i := 14) (d := 132) (v := _) rfl rfl (by kernel_rfl) (by kernel_rfl) (by kernel_rfl) (fun _ _ _ h => h) (Or.inl ⟨by rfl, ?h14⟩) (Jt3.out.2.1) ?_
                  case h14 =>
                    intro w hSw
                    go_simp
                    with_reducible rfl
                  simp only [List.setIfInBounds_toArray, List.set_cons_zero, List.set_cons_succ]
                  refine' take_at (i := 15) (d := 133) (v := _) rfl rfl (by kernel_rfl) (by kernel_rfl) (by kernel_rfl) (fun _ _ _ h => h) (Or.inl ⟨by rfl, ?h15⟩) (Jt3.out.2.1) ?_
                  case h15 =>
                    intro w hSw
                    go_simp
                    with_reducible rfl
                  simp only [List.setIfInBounds_toArray, List.set_cons_zero, List.set_cons_succ]
                  refine' take_at (i := 16) (d := 134) (v := _) rfl rfl (by kernel_rfl) (by kernel_rfl) (by kernel_rfl) (fun _ _ _ h => h) (Or.inl ⟨by rfl, ?h16⟩) (Jt3.out.2.1) ?_
                  case h16 =>
                    intro w hSw
                    go_simp
                    with_reducible rfl
                  simp only [List.setIfInBounds_toArray, List.set_cons_zero, List.set_cons_succ]
                  refine' take_at (i := 17) (d := 135) (v := _) rfl rfl (by kernel_rfl) (by kernel_rfl) (by kernel_rfl) (fun _ _ _ h => h) (Or.inl ⟨by rfl, ?h17⟩) (Jt3.out.2.1) ?_
                  case h17 =>
                    intro w hSw
                    go_simp
                    with_reducible rfl
                  simp only [List.setIfInBounds_toArray, List.set_cons_zero, List.set_cons_succ]
                  refine' take_at (i := 19) (d := 137) (v := _) rfl rfl (by kernel_rfl) (by kernel_rfl) (by kernel_rfl) (fun _ _ _ h => h) (Or.inl ⟨by rfl, ?h19⟩) (Jt3.out.2.1) ?_
                  case h19 =>
                    intro w hSw
                    go_simp
                    with_reducible rfl
                  simp only [List.setIfInBounds_toArray, List.set_cons_zero, List.set_cons_succ]
                  refine' take_at (i := 20) (d := 138) (v := _) rfl rfl (by kernel_rfl) (by kernel_rfl) (by kernel_rfl) (fun _ _ _ h => h) (Or.inl ⟨by rfl, ?h20⟩) (Jt3.out.2.1) ?_
                  case h20 =>
                    intro w hSw
                    go_simp
                    with_reducible rfl
                  simp only [List.setIfInBounds_toArray, List.set_cons_zero, List.set_cons_succ]
                  refine' take_at (i := 21) (d := 139) (v := _) rfl rfl (by kernel_rfl) (by kernel_rfl) (by kernel_rfl) (fun _ _ _ h => h) (Or.inl ⟨by rfl, ?h21⟩) (Jt3.out.2.1) ?_
                  case h21 =>
                    intro w hSw
                    have y1 := HCL3.out w hSw
                    go_simp
                    with_reducible rfl
                  simp only [List.setIfInBounds_toArray, List.set_cons_zero, List.set_cons_succ]
                  refine' take_at (i := 22) (d := 140) (v := _) rfl rfl (by kernel_rfl) (by kernel_rfl) (by kernel_rfl) (fun _ _ _ h => h) (Or.inl ⟨by rfl, ?h22⟩) (Jt3.out.2.1) ?_
                  case h22 =>
                    intro w hSw
                    have y1 := HCL3.out w hSw
                    go_simp
                    with_reducible rfl
                  simp only [List.setIfInBounds_toArray, List.set_cons_zero, List.set_cons_succ]
                  refine wpAnyH_ready (rs := [18]) (by kernel_rfl) (by simp) ?_
                  refine AllReadyH.cons (o := _) rfl (fun KQ hKQ => ?_) AllReadyH.nil
                  go_simp
                  refine (Jt3.out.1.one.now HS.out st.now rfl).mono ?_
                  rintro e t4 ⟨rfl, hM, hb⟩
                  have Jt4 : Hid (Bo15 LS LRe W t4 q5 r5 1099511627776 st st F5 G5 ∧ Below t0.heap.size t0 t4 ∧ True) := ⟨Jt3.out.1.later HS.out LRe.lt LRe.keep hb, Jt3.out.2.1.trans (hb.mono Jt3.out.2.1.size), trivial⟩
                  clear Jt3 hb hM
                  simp only []
                  refine hKQ.out _ _ Jt4.out.2.1 (fun _ => ?_)
                  clear hKQ KQ
                  refine' take_at (i := 23) (d := 141) (v := _) rfl rfl (by kernel_rfl) (by kernel_rfl) (by kernel_rfl) (fun _ _ _ h => h) (Or.inl ⟨by rfl, ?h23⟩) (Jt4.out.2.1) ?_
                  case h23 =>
                    intro w hSw
                    go_simp
                    with_reducible rfl
                  simp only [List.setIfInBounds_toArray, List.set_cons_zero, List.set_cons_succ]
                  refine' take_at (i := 24) (d := 142) (v := _) rfl rfl (by kernel_rfl) (by kernel_rfl) (by kernel_rfl) (fun _ _ _ h => h) (Or.inl ⟨by rfl, ?h24⟩) (Jt4.out.2.1) ?_
                  case h24 =>
                    intro w hSw
                    go_simp
                    with_reducible rfl
                  simp only [List.setIfInBounds_toArray, List.set_cons_zero, List.set_cons_succ]
                  refine' take_at (i := 25) (d := 143) (v := _) rfl rfl (by kernel_rfl) (by kernel_rfl) (by kernel_rfl) (fun _ _ _ h => h) (Or.inl ⟨by rfl, ?h25⟩) (Jt4.out.2.1) ?_
                  case h25 =>
                    intro w hSw
                    go_simp
                    with_reducible rfl
                  simp only [List.setIfInBounds_toArray, List.set_cons_zero, List.set_cons_succ]
                  refine wpAnyH_done (by kernel_rfl) ?_ _
                  go_wp2
                  go_roundw
                  case rel => exact ⟨0 + 1, by omega, by go_num, Jt4.out.1.one.below, HBY3.out _ Jt4.out.2.1⟩
                  case measure => simp [intOf]
              · have HP1 : Hid (Bs wr (.slice au M cu) bs ∧ bs.length ≤ 2000) := ⟨HU.out.1.below HW.out.1, HM5.out.1⟩
                have hix := (index_two15 a0 au L0 M c0 cu wr).2
                have HCY : Hid (Bs wr (.slice au M cu) bs ∧ bs.length ≤ 2000) := HP1.out
                cases hg : Sq.get bs with
                | none =>
                  have HGN : Hid (Sq.get bs = none) := hg
                  clear hg
                  go_wp2_with fail
                  refine (mine15_getno HS.out _ bs wr HCY.out.1 HCY.out.2 HGN.out).mono ?_
                  rintro e s1 ⟨rfl, hb⟩
                  have J1 : Hid (Below W.heap.size W s1 ∧ Bs s1 (.slice au M cu) bs ∧ Bs s1 (.slice a0 L0 c0) A0) := ⟨HW.out.1.trans (hb.mono HW.out.1.size), HCY.out.1.below hb, HW.out.2.below hb⟩
                  clear hb
                  go_wp2_with fail
                  refine (refGet_walk15 _ bs s1 J1.out.2.1 HCY.out.2).mono ?_
                  intro e s2 hP
                  obtain ⟨hb2, hno, _⟩ := hP
                  obtain ⟨pv, rfl⟩ := hno HGN.out
                  have J2 : Hid (Below W.heap.size W s2 ∧ Bs s2 (.slice a0 L0 c0) A0) := ⟨J1.out.1.trans (hb2.mono J1.out.1.size), J1.out.2.2.below hb2⟩
                  clear hb2 hno J1
                  go_wp2
                  go_quiet (fail)
                  have J3 : Hid (Below W.heap.size W (s2.drewN nq) ∧ Bs (s2.drewN nq) (.slice a0 L0 c0) A0) := ⟨below_drewN J2.out.1 _, J2.out.2.below (below_drewN (Below.refl _ _) _)⟩
                  go_wp2
                  go_roundw
                  case rel => exact ⟨1 + 1, by omega, by go_num, J3.out.1, J3.out.2⟩
                  case measure => simp [intOf]
                | some st =>
                  have HGS : Hid (Sq.get bs = some st ∧ Sq.bytes st = bs) := ⟨hg, (Sq.get_inv hg).2⟩
                  clear hg
                  go_wp2_with fail
                  refine (mine15_get HS.out HW.out.1 _ bs HCY.out.1 HCY.out.2 st HGS.out.1).mono ?_
                  rintro e s1 ⟨q5, F5, rfl, hM1, hF5, hb⟩
                  have J1 : Hid (Mine15 LS W s1 q5 1099511627776 st F5 ∧ Bs s1 (.slice au M cu) bs ∧ Bs s1 (.slice a0 L0 c0) A0) := ⟨hM1, HCY.out.1.below hb, HW.out.2.below hb⟩
                  clear hb hM1 hF5
                  go_wp2_with fail
                  refine (refGet_walk15 _ bs s1 J1.out.2.1 HCY.out.2).mono ?_
                  intro e s2 hP
                  obtain ⟨hb2, _, hys⟩ := hP
                  obtain ⟨r5, G5, rfl, hR5, hG5⟩ := hys st HGS.out.1
                  have J2 : Hid (Bo15 LS LRe W s2 q5 r5 1099511627776 st st F5 G5 ∧ Bs s2 (.slice au M cu) bs ∧ Bs s2 (.slice a0 L0 c0) A0) := by
                    have h1 := J1.out.1.later HS.out hb2
                    have hsz := J1.out.1.below.size
                    exact ⟨⟨h1, ⟨hR5, h1.fine, fun j hj => by have := hG5 j hj; omega, h1.below⟩, fun j hj e => by have := HS.out.lt J1.out.1.ld hj; have := hG5 j e; omega⟩, J1.out.2.1.below hb2, J1.out.2.2.below hb2⟩
                  clear hb2 hys hR5 hG5 J1
                  have HLN : Hid ((Sq.all st).length ≤ 1000) := (show (Sq.all st).length ≤ 1000 by have h := J2.out.1.one.fine.len64; unfold Sq.all; simp; omega)
                  obtain ⟨Z, hZ⟩ : ∃ Z : ByteArray, Z = ⟨bs.toArray⟩ := ⟨_, rfl⟩
                  have HZZ : Hid (Z = ⟨bs.toArray⟩) := hZ
                  have hzz : (Z.toList == Z.toList) = true := by simp
                  have hzn : (Z.toList != Z.toList) = false := by simp
                  have hnn : (st.now != st.now) = false := by simp
                  clear hZ
                  go_wp2
                  refine wp_region_held_drew (S := fun w' => Below s2.heap.size s2 w') (by kernel_rfl) (Below.refl _ _).drew (fun _ => ?_)
                  refine wpAnyH_more (S' := fun w' => Below s2.drew.heap.size s2.drew w') (fun w' h => below_drew h) _ _ _ _ ?_
                  have Js0 : Hid (Bo15 LS LRe W s2.drew q5 r5 1099511627776 st st F5 G5 ∧ Below s2.drew.heap.size s2.drew s2.drew) := ⟨J2.out.1.later HS.out LRe.lt LRe.keep (Below.refl _ _).drew, Below.refl _ _⟩
                  have HCL : Hid (∀ w', Below s2.drew.heap.size s2.drew w' → w'.cell? ⟨r5, 1, none⟩ = some (.int .i64 st.now)) := by
                    have hR := Js0.out.1.two.ld
                    exact fun w' hb => by
                      obtain ⟨vr, hvr, _⟩ := hR
                      exact (hvr.later hb).blk.cell 1
                  have HBY : Hid (Bs s2.drew (.slice au M cu) bs ∧ Bs s2.drew (.slice a0 L0 c0) A0) := ⟨J2.out.2.1.below (Below.refl _ _).drew, J2.out.2.2.below (Below.refl _ _).drew⟩
                  clear J2
                  generalize s2.drew = s0 at *
                  refine' take_at (i := 0) (d := 118) (v := _) rfl rfl (by kernel_rfl) (by kernel_rfl) (by kernel_rfl) (fun _ _ _ h => h) (Or.inl ⟨by rfl, ?h0⟩) (Js0.out.2) ?_
                  case h0 =>
                    intro w hSw
                    go_simp
                    with_reducible rfl
                  simp only [List.setIfInBounds_toArray, List.set_cons_zero, List.set_cons_succ]
                  refine' take_at (i := 1) (d := 119) (v := _) rfl rfl (by kernel_rfl) (by kernel_rfl) (by kernel_rfl) (fun _ _ _ h => h) (Or.inl ⟨by rfl, ?h1⟩) (Js0.out.2) ?_
                  case h1 =>
                    intro w hSw
                    go_simp
                    with_reducible rfl
                  simp only [List.setIfInBounds_toArray, List.set_cons_zero, List.set_cons_succ]
                  refine' take_at (i := 2) (d := 120) (v := _) rfl rfl (by kernel_rfl) (by kernel_rfl) (by kernel_rfl) (fun _ _ _ h => h) (Or.inl ⟨by rfl, ?h2⟩) (Js0.out.2) ?_
                  case h2 =>
                    intro w hSw
                    go_simp
                    with_reducible rfl
                  simp only [List.setIfInBounds_toArray, List.set_cons_zero, List.set_cons_succ]
                  refine' take_at (i := 5) (d := 123) (v := _) rfl rfl (by kernel_rfl) (by kernel_rfl) (by kernel_rfl) (fun _ _ _ h => h) (Or.inl ⟨by rfl, ?h5⟩) (Js0.out.2) ?_
                  case h5 =>
                    intro w hSw
                    go_simp
                    with_reducible rfl
                  simp only [List.setIfInBounds_toArray, List.set_cons_zero, List.set_cons_succ]
                  refine' take_at (i := 6) (d := 124) (v := _) rfl rfl (by kernel_rfl) (by kernel_rfl) (by kernel_rfl) (fun _ _ _ h => h) (Or.inl ⟨by rfl, ?h6⟩) (Js0.out.2) ?_
                  case h6 =>
                    intro w hSw
                    have hcv := (HBY.out.1.below hSw).conv
                    rw [← HZZ.out] at hcv
                    go_simp
                    with_reducible rfl
                  simp only [List.setIfInBounds_toArray, List.set_cons_zero, List.set_cons_succ]
                  refine wpAnyH_ready (rs := [3]) (by kernel_rfl) (by simp) ?_
                  refine AllReadyH.cons (o := _) rfl (fun KQ hKQ => ?_) AllReadyH.nil
                  go_simp
                  refine (Js0.out.1.one.put HS.out).mono ?_
                  rintro e s3 ⟨vp, rfl, hvp, hM, hb⟩
                  have Js3 : Hid (Bo15 LS LRe W s3 q5 r5 1099511627776 st st F5 G5 ∧ Below s0.heap.size s0 s3 ∧ Bs s3 vp bs) := ⟨Js0.out.1.later HS.out LRe.lt LRe.keep hb, Js0.out.2.trans (hb.mono Js0.out.2.size), by have h := Bs.own hvp; rw [HGS.out.2] at h; exact h⟩
                  obtain ⟨ap3, cp3, hve3, _, _⟩ := row_form hvp
                  obtain ⟨LB3, hLB3⟩ : ∃ z, z = (Sq.bytes st).length := ⟨_, rfl⟩
                  rw [← hLB3] at hve3
                  subst hve3
                  clear hvp hM hLB3 Js0 hb
                  simp only []
                  refine hKQ.out _ _ Js3.out.2.1 (fun _ => ?_)
                  refine wpAnyH_more (S' := fun w' => Below s3.heap.size s3 w') (fun w' h => Js3.out.2.1.trans (h.mono Js3.out.2.1.size)) _ _ _ _ ?_
                  clear hKQ KQ
                  refine' take_at (i := 4) (d := 122) (v := _) rfl rfl (by kernel_rfl) (by kernel_rfl) (by kernel_rfl) (fun _ _ _ h => h) (Or.inl ⟨by rfl, ?h4⟩) (Below.refl _ _) ?_
                  case h4 =>
                    intro w hSw
                    have hcv := (Js3.out.2.2.below hSw).conv
                    rw [← HZZ.out] at hcv
                    go_simp
                    with_reducible rfl
                  simp only [List.setIfInBounds_toArray, List.set_cons_zero, List.set_cons_succ]
                  refine wpAnyH_more (S' := fun w' => Below s3.heap.size s3 w') (fun w' h => h) _ _ _ _ ?_
                  have Jt0 : Hid (Bo15 LS LRe W s3 q5 r5 1099511627776 st st F5 G5 ∧ Below s3.heap.size s3 s3 ∧ Below s0.heap.size s0 s3) := ⟨Js3.out.1, Below.refl _ _, Js3.out.2.1⟩
                  have HCL3 : Hid (∀ w', Below s3.heap.size s3 w' → w'.cell? ⟨r5, 1, none⟩ = some (.int .i64 st.now)) := fun w' hb => HCL.out w' (Js3.out.2.1.trans (hb.mono Js3.out.2.1.size))
                  have HBY3 : Hid (∀ w', Below s3.heap.size s3 w' → Bs w' (.slice a0 L0 c0) A0) := fun w' hb => HBY.out.2.below (Js3.out.2.1.trans (hb.mono Js3.out.2.1.size))
                  clear Js3 HCL HBY
                  generalize s3 = t0 at *
                  refine' take_at (i := 7) (d := 125) (v := _) rfl rfl (by kernel_rfl) (by kernel_rfl) (by kernel_rfl) (fun _ _ _ h => h) (Or.inl ⟨by rfl, ?h7⟩) (Jt0.out.2.1) ?_
                  case h7 =>
                    intro w hSw
                    go_simp
                    with_reducible rfl
                  simp only [List.setIfInBounds_toArray, List.set_cons_zero, List.set_cons_succ]
                  refine' take_at (i := 8) (d := 126) (v := _) rfl rfl (by kernel_rfl) (by kernel_rfl) (by kernel_rfl) (fun _ _ _ h => h) (Or.inl ⟨by rfl, ?h8⟩) (Jt0.out.2.1) ?_
                  case h8 =>
                    intro w hSw
                    go_simp
                    with_reducible rfl
                  simp only [List.setIfInBounds_toArray, List.set_cons_zero, List.set_cons_succ]
                  refine' take_at (i := 9) (d := 127) (v := _) rfl rfl (by kernel_rfl) (by kernel_rfl) (by kernel_rfl) (fun _ _ _ h => h) (Or.inl ⟨by rfl, ?h9⟩) (Jt0.out.2.1) ?_
                  case h9 =>
                    intro w hSw
                    go_simp
                    with_reducible rfl
                  simp only [List.setIfInBounds_toArray, List.set_cons_zero, List.set_cons_succ]
                  refine' take_at (i := 11) (d := 129) (v := _) rfl rfl (by kernel_rfl) (by kernel_rfl) (by kernel_rfl) (fun _ _ _ h => h) (Or.inl ⟨by rfl, ?h11⟩) (Jt0.out.2.1) ?_
                  case h11 =>
                    intro w hSw
                    go_simp
                    with_reducible rfl
                  simp only [List.setIfInBounds_toArray, List.set_cons_zero, List.set_cons_succ]
                  refine wpAnyH_ready (rs := [10]) (by kernel_rfl) (by simp) ?_
                  refine AllReadyH.cons (o := _) rfl (fun KQ hKQ => ?_) AllReadyH.nil
                  go_simp
                  refine (Jt0.out.1.one.all HS.out).mono ?_
                  rintro e t1 ⟨va, rfl, hia, hoa, hM, hb⟩
                  have Jt1 : Hid (Bo15 LS LRe W t1 q5 r5 1099511627776 st st F5 G5 ∧ Below t0.heap.size t0 t1 ∧ Bi t1 va (Sq.all st)) := ⟨Jt0.out.1.later HS.out LRe.lt LRe.keep hb, Jt0.out.2.1.trans (hb.mono Jt0.out.2.1.size), hia⟩
                  obtain ⟨a3, n3, c3, rfl, hn3, hc3⟩ := hia
                  clear Jt0 hb hoa hM hn3 hc3
                  simp only []
                  refine hKQ.out _ _ Jt1.out.2.1 (fun _ => ?_)
                  clear hKQ KQ
                  refine wpAnyH_ready (rs := [12]) (by kernel_rfl) (by simp) ?_
                  refine AllReadyH.cons (o := _) rfl (fun KQ hKQ => ?_) AllReadyH.nil
                  go_simp
                  refine (refAll_any15 r5 st G5 _ t1 Jt1.out.1.two.ld Jt1.out.1.two.fine).mono ?_
                  rintro e t2 ⟨vb, rfl, hib, hob9, hb⟩
                  have Jt2 : Hid (Bo15 LS LRe W t2 q5 r5 1099511627776 st st F5 G5 ∧ Below t0.heap.size t0 t2 ∧ Bi t2 (.slice a3 n3 c3) (Sq.all st) ∧ Bi t2 vb (Sq.all st)) := ⟨Jt1.out.1.later HS.out LRe.lt LRe.keep hb, Jt1.out.2.1.trans (hb.mono Jt1.out.2.1.size), Jt1.out.2.2.below hb, hib⟩
                  obtain ⟨a4, n4, c4, rfl, hn4, hc4⟩ := hib
                  clear Jt1 hb hob9 hn4 hc4
                  simp only []
                  refine hKQ.out _ _ Jt2.out.2.1 (fun _ => ?_)
                  clear hKQ KQ
                  refine wpAnyH_ready (rs := [13]) (by kernel_rfl) (by simp) ?_
                  refine AllReadyH.cons (o := _) rfl (fun KQ hKQ => ?_) AllReadyH.nil
                  go_simp
                  refine (ids_any15 _ _ (Sq.all st) (Sq.all st) t2 Jt2.out.2.2.1 Jt2.out.2.2.2 HLN.out).mono ?_
                  rintro e t3 ⟨rfl, hb⟩
                  have Jt3 : Hid (Bo15 LS LRe W t3 q5 r5 1099511627776 st st F5 G5 ∧ Below t0.heap.size t0 t3 ∧ True) := ⟨Jt2.out.1.later HS.out LRe.lt LRe.keep hb, Jt2.out.2.1.trans (hb.mono Jt2.out.2.1.size), trivial⟩
                  have hdt : decide (Sq.all st = Sq.all st) = true := decide_eq_true rfl
                  rw [hdt]
                  clear Jt2 hb hdt
                  simp only []
                  refine hKQ.out _ _ Jt3.out.2.1 (fun _ => ?_)
                  clear hKQ KQ
                  refine' take_at (i := 14) (d := 132) (v := _) rfl rfl (by kernel_rfl) (by kernel_rfl) (by kernel_rfl) (fun _ _ _ h => h) (Or.inl ⟨by rfl, ?h14⟩) (Jt3.out.2.1) ?_
                  case h14 =>
                    intro w hSw
                    go_simp
                    with_reducible rfl
                  simp only [List.setIfInBounds_toArray, List.set_cons_zero, List.set_cons_succ]
                  refine' take_at (i := 15) (d := 133) (v := _) rfl rfl (by kernel_rfl) (by kernel_rfl) (by kernel_rfl) (fun _ _ _ h => h) (Or.inl ⟨by rfl, ?h15⟩) (Jt3.out.2.1) ?_
                  case h15 =>
                    intro w hSw
                    go_simp
                    with_reducible rfl
                  simp only [List.setIfInBounds_toArray, List.set_cons_zero, List.set_cons_succ]
                  refine' take_at (i := 16) (d := 134) (v := _) rfl rfl (by kernel_rfl) (by kernel_rfl) (by kernel_rfl) (fun _ _ _ h => h) (Or.inl ⟨by rfl, ?h16⟩) (Jt3.out.2.1) ?_
                  case h16 =>
                    intro w hSw
                    go_simp
                    with_reducible rfl
                  simp only [List.setIfInBounds_toArray, List.set_cons_zero, List.set_cons_succ]
                  refine' take_at (i := 17) (d := 135) (v := _) rfl rfl (by kernel_rfl) (by kernel_rfl) (by kernel_rfl) (fun _ _ _ h => h) (Or.inl ⟨by rfl, ?h17⟩) (Jt3.out.2.1) ?_
                  case h17 =>
                    intro w hSw
                    go_simp
                    with_reducible rfl
                  simp only [List.setIfInBounds_toArray, List.set_cons_zero, List.set_cons_succ]
                  refine' take_at (i := 19) (d := 137) (v := _) rfl rfl (by kernel_rfl) (by kernel_rfl) (by kernel_rfl) (fun _ _ _ h => h) (Or.inl ⟨by rfl, ?h19⟩) (Jt3.out.2.1) ?_
                  case h19 =>
                    intro w hSw
                    go_simp
                    with_reducible rfl
                  simp only [List.setIfInBounds_toArray, List.set_cons_zero, List.set_cons_succ]
                  refine' take_at (i := 20) (d := 138) (v := _) rfl rfl (by kernel_rfl) (by kernel_rfl) (by kernel_rfl) (fun _ _ _ h => h) (Or.inl ⟨by rfl, ?h20⟩) (Jt3.out.2.1) ?_
                  case h20 =>
                    intro w hSw
                    go_simp
                    with_reducible rfl
                  simp only [List.setIfInBounds_toArray, List.set_cons_zero, List.set_cons_succ]
                  refine' take_at (i := 21) (d := 139) (v := _) rfl rfl (by kernel_rfl) (by kernel_rfl) (by kernel_rfl) (fun _ _ _ h => h) (Or.inl ⟨by rfl, ?h21⟩) (Jt3.out.2.1) ?_
                  case h21 =>
                    intro w hSw
                    have y1 := HCL3.out w hSw
                    go_simp
                    with_reducible rfl
                  simp only [List.setIfInBounds_toArray, List.set_cons_zero, List.set_cons_succ]
                  refine' take_at (i := 22) (d := 140) (v := _) rfl rfl (by kernel_rfl) (by kernel_rfl) (by kernel_rfl) (fun _ _ _ h => h) (Or.inl ⟨by rfl, ?h22⟩) (Jt3.out.2.1) ?_
                  case h22 =>
                    intro w hSw
                    have y1 := HCL3.out w hSw
                    go_simp
                    with_reducible rfl
                  simp only [List.setIfInBounds_toArray, List.set_cons_zero, List.set_cons_succ]
                  refine wpAnyH_ready (rs := [18]) (by kernel_rfl) (by simp) ?_
                  refine AllReadyH.cons (o := _) rfl (fun KQ hKQ => ?_) AllReadyH.nil
                  go_simp
                  refine (Jt3.out.1.one.now HS.out st.now rfl).mono ?_
                  rintro e t4 ⟨rfl, hM, hb⟩
                  have Jt4 : Hid (Bo15 LS LRe W t4 q5 r5 1099511627776 st st F5 G5 ∧ Below t0.heap.size t0 t4 ∧ True) := ⟨Jt3.out.1.later HS.out LRe.lt LRe.keep hb, Jt3.out.2.1.trans (hb.mono Jt3.out.2.1.size), trivial⟩
                  clear Jt3 hb hM
                  simp only []
                  refine hKQ.out _ _ Jt4.out.2.1 (fun _ => ?_)
                  clear hKQ KQ
                  refine' take_at (i := 23) (d := 141) (v := _) rfl rfl (by kernel_rfl) (by kernel_rfl) (by kernel_rfl) (fun _ _ _ h => h) (Or.inl ⟨by rfl, ?h23⟩) (Jt4.out.2.1) ?_
                  case h23 =>
                    intro w hSw
                    go_simp
                    with_reducible rfl
                  simp only [List.setIfInBounds_toArray, List.set_cons_zero, List.set_cons_succ]
                  refine' take_at (i := 24) (d := 142) (v := _) rfl rfl (by kernel_rfl) (by kernel_rfl) (by kernel_rfl) (fun _ _ _ h => h) (Or.inl ⟨by rfl, ?h24⟩) (Jt4.out.2.1) ?_
                  case h24 =>
                    intro w hSw
                    go_simp
                    with_reducible rfl
                  simp only [List.setIfInBounds_toArray, List.set_cons_zero, List.set_cons_succ]
                  refine' take_at (i := 25) (d := 143) (v := _) rfl rfl (by kernel_rfl) (by kernel_rfl) (by kernel_rfl) (fun _ _ _ h => h) (Or.inl ⟨by rfl, ?h25⟩) (Jt4.out.2.1) ?_
                  case h25 =>
                    intro w hSw
                    go_simp
                    with_reducible rfl
                  simp only [List.setIfInBounds_toArray, List.set_cons_zero, List.set_cons_succ]
                  refine wpAnyH_done (by kernel_rfl) ?_ _
                  go_wp2
                  go_roundw
                  case rel => exact ⟨1 + 1, by omega, by go_num, Jt4.out.1.one.below, HBY3.out _ Jt4.out.2.1⟩
                  case measure => simp [intOf]
            · obtain rfl : k2 = 2 := by omega
              go_wp2
              go_ret
              exact ⟨rfl, HW.out.1⟩
theorem reads_any15 {LS : Rep15} (S : Specs15 LS) (v u : Value) (xs : List Sq.Ac) (pt yb : Int) (bs : List UInt8) (W : World) (hv : Acl15 W v xs) (hu : Bs W u bs) (hl : xs.length ≤ maxLen) (hl2 : bs.length ≤ maxLen) (hy : yb = ((UInt8.ofNat yb.toNat).toNat : Int)) :
    Calls Try.prog 5 #[v, .int .i64 pt, .int .u8 yb, u] W fun e w' => e = .returned (.bool true) ∧ Below W.heap.size W w' := by
  rw [hy]
  exact reads_walk15 S v u xs pt _ bs W hv hu hl hl2
end Go.Proofs.Ytlabdhllindenaa
