/- RouteReads' walk. -/
import Derived.Test.YtpjdjobdbandhaaDoorLAwake16
import Derived.Test.YtpjdjobdbandhaaDoorActs16
import Derived.Test.YtpjdjobdbandhaaDoorBo16
import Derived.Test.YtpjdjobdbandhaaDoorRefG16
namespace Go.Proofs.YtpjdjobdbandhaaDoor
open Go.RowKit

theorem index_two16 (a0 a1 : Option Addr) (L0 L1 c0 c1 : Nat) (w : World) : (Instr.index 52 (.agg #[.slice a0 L0 c0, .slice a1 L1 c1]) (.int .i64 0)).run Tryd.prog w = .ok (.slice a0 L0 c0) w ∧ (Instr.index 52 (.agg #[.slice a0 L0 c0, .slice a1 L1 c1]) (.int .i64 1)).run Tryd.prog w = .ok (.slice a1 L1 c1) w := by
  constructor <;> kernel_rfl
set_option maxRecDepth 20000 in
set_option maxHeartbeats 16000000 in
theorem reads_walk16 {LS : Rep16} (S : Specs16 LS) (n : Int) (v u : Value) (xs : List Tb.Ac) (pt : Int) (yb : UInt8) (bs : List UInt8) (W : World) (hS : Pa.Std W) (hv : Acl16 W v xs) (hu : Bs W u bs) (hl : xs.length ≤ maxLen) (hl2 : bs.length ≤ maxLen) (hok : ∀ x ∈ xs, AcOk16 x) :
    Calls Tryd.prog 5 #[.int .i64 n, v, .int .i64 pt, .int .u8 (yb.toNat : Int), u] W fun e w' => e = .returned (.bool true) ∧ Below W.heap.size W w' := by
  have HS : Hid (Specs16 LS ∧ Pa.Std W ∧ (∀ x ∈ xs, AcOk16 x)) := ⟨S, hS, hok⟩
  obtain ⟨av, N, c, rfl, hN, hj⟩ := hv
  have HV : Hid (Acl16 W (.slice av N c) xs ∧ N = xs.length) := ⟨⟨av, N, c, rfl, hN, hj⟩, hN⟩
  have HU0 : Hid (Bs W u bs) := hu
  obtain ⟨au, M, cu, rfl, hM, hk⟩ := hu
  have HU : Hid (Bs W (.slice au M cu) bs ∧ M = bs.length) := ⟨HU0.out, hM⟩
  have hN1 : N ≤ 9223372036854775807 := by unfold maxLen at hl; omega
  have hM1 : M ≤ 9223372036854775807 := by unfold maxLen at hl2; omega
  clear S hS hok hl hl2 hN hM hj hk HU0
  go_enter Tryd.func5, Tryd.ntmps5
  go_wp2_with fail
  refine (awake_any16 HS.out.1 W HS.out.2.1).mono ?_
  rintro e w0 ⟨rfl, hb0⟩
  have H0 : Hid (Below W.heap.size W w0) := hb0
  clear hb0
  by_cases a1 : n < 1
  · go_wp2
    go_ret
    exact ⟨rfl, H0.out⟩
  by_cases a2 : 4 < n
  · go_wp2
    go_ret
    exact ⟨rfl, H0.out⟩
  by_cases a3 : (20 : Int) < (N : Int)
  · go_wp2
    go_ret
    exact ⟨rfl, H0.out⟩
  by_cases a4 : (500 : Int) < (M : Int)
  · go_wp2
    go_ret
    exact ⟨rfl, H0.out⟩
  have HM5 : Hid (bs.length ≤ 4000 ∧ M ≤ 500) := ⟨by have := HU.out.2; omega, by omega⟩
  have HA : Hid (1 ≤ n ∧ n ≤ 4 ∧ N ≤ 20 ∧ True) := ⟨by omega, by omega, by omega, trivial⟩
  go_wp2_with fail
  refine (mine16_new HS.out.1 H0.out n ⟨HA.out.1, HA.out.2.1⟩).mono ?_
  rintro e w1 ⟨q, F1, rfl, hM, hF, hb⟩
  have M1 : Hid (Mine16 LS W w1 q 1 (Tb.new n) F1) := hM
  clear hM hF hb H0 a1 a2 a3 a4
  go_wp2
  go_loopw [13] (fun i wx => ∃ (k : Nat) (s : Tb.St) (F : Nat → Prop), k ≤ N ∧ i = .int .i64 (k : Int) ∧ Mine16 LS W wx q ((k : Int) + 1) s F) (fun i _ => N - (intOf i).toNat)
  case atStart => exact ⟨0, _, F1, Nat.zero_le _, rfl, M1.out⟩
  case round =>
    obtain ⟨k, s, F, hk, rfl, hM⟩ := hrel
    have H3 : Hid (Mine16 LS W wr q ((k : Int) + 1) s F) := hM
    clear hM M1
    by_cases hlt : k < N
    · have hlt' : (k : Int) < (N : Int) := by omega
      have hk0 : (0 : Int) ≤ (k : Int) := by omega
      have hwk : IntKind.wrap .i64 ((k : Int) + 1) = (k : Int) + 1 := by rw [IntKind.wrap_i64]; omega
      obtain ⟨x, hx⟩ : ∃ x, xs[k]? = some x := ⟨xs[k]'(by rw [← HV.out.2]; exact hlt), List.getElem?_eq_getElem _⟩
      have HX : Hid (xs[k]? = some x ∧ x.top.size ≤ maxLen) := ⟨hx, (HS.out.2.2 x (List.mem_of_getElem? hx)).top⟩
      obtain ⟨g, o, rfl, c0, c1⟩ := (HV.out.1.below H3.out.below).at hx
      have hxt : x.top.size ≤ 9223372036854775807 := HX.out.2
      clear hx
      by_cases ax : (100 : Int) < (x.top.size : Int)
      · go_wp2
        go_ret
        exact ⟨rfl, H3.out.below⟩
      have hkm : (k : Int) + 1 ≤ 2199023255552 := by have := HA.out.2.2.1; omega
      go_upto_region 11 with fail
      clear ax
      obtain ⟨za, s6, hz⟩ : ∃ za s6, Tb.move s x.top x.shard = (za, s6) := ⟨_, _, rfl⟩
      have HMV : Hid (Tb.move s x.top x.shard = (za, s6)) := hz
      refine wp_region_held_drew (S := fun w' => w'.cell? ⟨g, o + k * 2, none⟩ = some (.string x.top) ∧ w'.cell? ⟨g, o + k * 2 + 1, none⟩ = some (.int .i64 x.shard)) (by kernel_rfl) ⟨c0, c1⟩ (fun _ => ?_)
      have H4 : Hid (Mine16 LS W wr.drew q ((k : Int) + 1) s F) := H3.out.later HS.out.1 (Below.refl _ _).drew
      clear H3 c0 c1 hz
      generalize wr.drew = w4 at *
      refine' take_at (i := 0) (d := 57) (v := _) rfl rfl (by kernel_rfl) (by kernel_rfl) (by kernel_rfl) (fun _ _ _ h => h) (Or.inl ⟨by rfl, ?h0⟩) (HV.out.1.on H4.out.below HX.out.1) ?_
      case h0 =>
        intro w hSw
        obtain ⟨t0, t1⟩ := hSw
        go_simp
        with_reducible rfl
      simp only [List.setIfInBounds_toArray, List.set_cons_zero, List.set_cons_succ]
      refine' take_at (i := 1) (d := 58) (v := _) rfl rfl (by kernel_rfl) (by kernel_rfl) (by kernel_rfl) (fun _ _ _ h => h) (Or.inl ⟨by rfl, ?h1⟩) (HV.out.1.on H4.out.below HX.out.1) ?_
      case h1 =>
        intro w hSw
        obtain ⟨t0, t1⟩ := hSw
        go_simp
        with_reducible rfl
      simp only [List.setIfInBounds_toArray, List.set_cons_zero, List.set_cons_succ]
      refine' take_at (i := 2) (d := 59) (v := _) rfl rfl (by kernel_rfl) (by kernel_rfl) (by kernel_rfl) (fun _ _ _ h => h) (Or.inl ⟨by rfl, ?h2⟩) (HV.out.1.on H4.out.below HX.out.1) ?_
      case h2 =>
        intro w hSw
        obtain ⟨t0, t1⟩ := hSw
        go_simp
        with_reducible rfl
      simp only [List.setIfInBounds_toArray, List.set_cons_zero, List.set_cons_succ]
      refine' take_at (i := 3) (d := 60) (v := _) rfl rfl (by kernel_rfl) (by kernel_rfl) (by kernel_rfl) (fun _ _ _ h => h) (Or.inl ⟨by rfl, ?h3⟩) (HV.out.1.on H4.out.below HX.out.1) ?_
      case h3 =>
        intro w hSw
        obtain ⟨t0, t1⟩ := hSw
        go_simp
        with_reducible rfl
      simp only [List.setIfInBounds_toArray, List.set_cons_zero, List.set_cons_succ]
      refine' take_at (i := 4) (d := 61) (v := _) rfl rfl (by kernel_rfl) (by kernel_rfl) (by kernel_rfl) (fun _ _ _ h => h) (Or.inl ⟨by rfl, ?h4⟩) (HV.out.1.on H4.out.below HX.out.1) ?_
      case h4 =>
        intro w hSw
        obtain ⟨t0, t1⟩ := hSw
        go_simp
        with_reducible rfl
      simp only [List.setIfInBounds_toArray, List.set_cons_zero, List.set_cons_succ]
      refine' take_at (i := 5) (d := 62) (v := _) rfl rfl (by kernel_rfl) (by kernel_rfl) (by kernel_rfl) (fun _ _ _ h => h) (Or.inl ⟨by rfl, ?h5⟩) (HV.out.1.on H4.out.below HX.out.1) ?_
      case h5 =>
        intro w hSw
        obtain ⟨t0, t1⟩ := hSw
        go_simp
        with_reducible rfl
      simp only [List.setIfInBounds_toArray, List.set_cons_zero, List.set_cons_succ]
      refine' take_at (i := 6) (d := 63) (v := _) rfl rfl (by kernel_rfl) (by kernel_rfl) (by kernel_rfl) (fun _ _ _ h => h) (Or.inl ⟨by rfl, ?h6⟩) (HV.out.1.on H4.out.below HX.out.1) ?_
      case h6 =>
        intro w hSw
        obtain ⟨t0, t1⟩ := hSw
        go_simp
        with_reducible rfl
      simp only [List.setIfInBounds_toArray, List.set_cons_zero, List.set_cons_succ]
      refine' take_at (i := 7) (d := 64) (v := _) rfl rfl (by kernel_rfl) (by kernel_rfl) (by kernel_rfl) (fun _ _ _ h => h) (Or.inl ⟨by rfl, ?h7⟩) (HV.out.1.on H4.out.below HX.out.1) ?_
      case h7 =>
        intro w hSw
        obtain ⟨t0, t1⟩ := hSw
        go_simp
        with_reducible rfl
      simp only [List.setIfInBounds_toArray, List.set_cons_zero, List.set_cons_succ]
      refine' take_at (i := 8) (d := 65) (v := _) rfl rfl (by kernel_rfl) (by kernel_rfl) (by kernel_rfl) (fun _ _ _ h => h) (Or.inl ⟨by rfl, ?h8⟩) (HV.out.1.on H4.out.below HX.out.1) ?_
      case h8 =>
        intro w hSw
        obtain ⟨t0, t1⟩ := hSw
        go_simp
        with_reducible rfl
      simp only [List.setIfInBounds_toArray, List.set_cons_zero, List.set_cons_succ]
      refine' take_at (i := 9) (d := 66) (v := _) rfl rfl (by kernel_rfl) (by kernel_rfl) (by kernel_rfl) (fun _ _ _ h => h) (Or.inl ⟨by rfl, ?h9⟩) (HV.out.1.on H4.out.below HX.out.1) ?_
      case h9 =>
        intro w hSw
        obtain ⟨t0, t1⟩ := hSw
        go_simp
        with_reducible rfl
      simp only [List.setIfInBounds_toArray, List.set_cons_zero, List.set_cons_succ]
      refine' take_at (i := 10) (d := 67) (v := _) rfl rfl (by kernel_rfl) (by kernel_rfl) (by kernel_rfl) (fun _ _ _ h => h) (Or.inl ⟨by rfl, ?h10⟩) (HV.out.1.on H4.out.below HX.out.1) ?_
      case h10 =>
        intro w hSw
        obtain ⟨t0, t1⟩ := hSw
        go_simp
        with_reducible rfl
      simp only [List.setIfInBounds_toArray, List.set_cons_zero, List.set_cons_succ]
      refine wpAnyH_ready (rs := [11]) (by kernel_rfl) (by simp) ?_
      refine AllReadyH.cons (o := _) rfl (fun KQ hKQ => ?_) AllReadyH.nil
      go_simp
      refine (H4.out.move HS.out.1 HS.out.2.1 hkm x.top x.shard HX.out.2 za s6 HMV.out).mono ?_
      rintro e w5 ⟨F5, rfl, hM, hmv⟩
      have H5 : Hid (Mine16 LS W w5 q ((k : Int) + 1 + 1) s6 F5) := hM
      clear hM hmv H4
      refine hKQ.out _ _ (HV.out.1.on H5.out.below HX.out.1) (fun _ => ?_)
      clear hKQ KQ
      refine wpAnyH_done (by kernel_rfl) ?_ _
      go_wp2
      go_roundw
      case rel => exact ⟨k + 1, s6, F5, by omega, by go_num, by simpa using H5.out⟩
      case measure => simp [intOf]; omega
    · have hlt' : ¬ (k : Int) < (N : Int) := by omega
      have HBL : Hid ((Tb.bytes s).length ≤ 2824) := Tb.bytes_len H3.out.fine
      go_wp2_with fail
      refine (H3.out.put HS.out.1).mono ?_
      rintro e w4 ⟨vp, rfl, hvp, hM4, hb4⟩
      obtain ⟨LB, hLB⟩ : ∃ z, z = (Tb.bytes s).length := ⟨_, rfl⟩
      rw [← hLB] at hvp
      have H4 : Hid (Below W.heap.size W w4 ∧ w4.ownsRow W.heap.size 5 1 vp LB (bc (Tb.bytes s)) ∧ LB = (Tb.bytes s).length) := ⟨hM4.below, hvp.mono (H3.out.below.size), hLB⟩
      obtain ⟨ap, cp, hve, _, hap⟩ := row_form hvp
      subst hve
      have hLB1 : LB ≤ 2824 := by rw [hLB]; exact HBL.out
      have HAP : Hid (0 < LB → ∃ g, ap = some ⟨g, 0, none⟩) := hap
      clear hM4 hvp hb4 hLB H3 hap
      by_cases hp1 : 0 ≤ pt ∧ pt < (LB : Int)
      · obtain ⟨P, hP⟩ : ∃ P : Nat, pt = (P : Int) := ⟨pt.toNat, by omega⟩
        subst hP
        obtain ⟨gp, hgp⟩ := HAP.out (by omega)
        subst hgp
        have p0 : (0 : Int) ≤ (P : Int) := by omega
        have p1 : (P : Int) < (LB : Int) := by omega
        obtain ⟨xo, hxo⟩ : ∃ xo, (Tb.bytes s)[P]? = some xo := ⟨(Tb.bytes s)[P]'(by rw [← H4.out.2.2]; omega), List.getElem?_eq_getElem _⟩
        have hx8 : bits .xor .u8 (xo.toNat : Int) (yb.toNat : Int) = ((xo ^^^ yb).toNat : Int) := xor8 xo yb
        have cx : w4.cell? ⟨gp, P, none⟩ = some (.int .u8 (xo.toNat : Int)) := by
          rw [H4.out.2.1.cellAt _ (by omega)]
          simp [bc, hxo]
        have fx : w4.frozen? ⟨gp, P, none⟩ = false := by
          obtain ⟨cur, hcur⟩ := row_in H4.out.2.1 rfl
          simp only [World.frozen?, hcur]
          rfl
        obtain ⟨A0, hA0⟩ : ∃ A, A = (Tb.bytes s).set P (xo ^^^ yb) := ⟨_, rfl⟩
        have HY : Hid (Below W.heap.size W (w4.setCell ⟨gp, P, none⟩ (.int .u8 ((xo.toNat ^^^ yb.toNat : Nat) : Int))) ∧ Bs (w4.setCell ⟨gp, P, none⟩ (.int .u8 ((xo.toNat ^^^ yb.toNat : Nat) : Int))) (.slice (some ⟨gp, 0, none⟩) LB cp) A0 ∧ A0.length ≤ 4000) := by
          have hr := own_set (i := P) (xo ^^^ yb) H4.out.2.1
          have hg := grownBy_setCell w4 ⟨gp, P, none⟩ (.int .u8 ((xo ^^^ yb).toNat : Int))
          have hlo := (H4.out.2.1.lt gp rfl).1
          have e9 : ((xo.toNat ^^^ yb.toNat : Nat) : Int) = ((xo ^^^ yb).toNat : Int) := by rw [UInt8.toNat_xor]
          rw [hA0, e9]
          refine ⟨H4.out.1.grown hg H4.out.1.size (fun k hk => by simp at hk; omega), Bs.own hr, by rw [List.length_set]; have := HBL.out; omega⟩
        clear hA0 hxo
        go_upto_region 15 with fail
        clear cx fx
        generalize (w4.setCell ⟨gp, P, none⟩ (.int .u8 ((xo.toNat ^^^ yb.toNat : Nat) : Int))) = w5 at *
        obtain ⟨a0, ha0⟩ : ∃ z : Option Addr, z = some ⟨gp, 0, none⟩ := ⟨_, rfl⟩
        rw [← ha0] at HY
        rw [← ha0]
        clear ha0
        obtain ⟨L0, hL0⟩ : ∃ z, z = LB := ⟨_, rfl⟩
        obtain ⟨c0, hc0⟩ : ∃ z, z = cp := ⟨_, rfl⟩
        rw [← hL0, ← hc0] at HY
        rw [← hL0, ← hc0]
        clear hL0 hc0
        go_wp2
        go_loopw [91] (fun i wx => ∃ k : Nat, k ≤ 2 ∧ i = .int .i64 (k : Int) ∧ Below W.heap.size W wx ∧ Bs wx (.slice a0 L0 c0) A0) (fun i _ => 2 - (intOf i).toNat)
        case atStart => exact ⟨0, by omega, rfl, HY.out.1, HY.out.2.1⟩
        case round =>
          obtain ⟨k2, hk2, rfl, hbw, hbs⟩ := hrel
          have HW : Hid (Below W.heap.size W wr ∧ Bs wr (.slice a0 L0 c0) A0) := ⟨hbw, hbs⟩
          clear hbw hbs
          by_cases h2 : k2 < 2
          · rcases (show k2 = 0 ∨ k2 = 1 by omega) with rfl | rfl
            · have HP0 : Hid (Bs wr (.slice a0 L0 c0) A0 ∧ A0.length ≤ 4000) := ⟨HW.out.2, HY.out.2.2⟩
              have hix := (index_two16 a0 au L0 M c0 cu wr).1
              have HCY : Hid (Bs wr (.slice a0 L0 c0) A0 ∧ A0.length ≤ 4000) := HP0.out
              cases hg : Tb.get A0 with
              | none =>
                have HGN : Hid (Tb.get A0 = none) := hg
                clear hg
                go_wp2_with fail
                refine (mine16_getno HS.out.1 _ A0 wr (HS.out.2.1.below HW.out.1) HCY.out.1 HCY.out.2 HGN.out).mono ?_
                rintro e s1 ⟨rfl, hb⟩
                have J1 : Hid (Below W.heap.size W s1 ∧ Bs s1 (.slice a0 L0 c0) A0 ∧ Bs s1 (.slice a0 L0 c0) A0) := ⟨HW.out.1.trans (hb.mono HW.out.1.size), HCY.out.1.below hb, HW.out.2.below hb⟩
                clear hb
                go_wp2_with fail
                refine (refGet_walk16 _ A0 s1 J1.out.2.1 HCY.out.2).mono ?_
                intro e s2 hP
                obtain ⟨hb2, hno, _⟩ := hP
                obtain ⟨pv, rfl⟩ := hno HGN.out
                have J2 : Hid (Below W.heap.size W s2 ∧ Bs s2 (.slice a0 L0 c0) A0) := ⟨J1.out.1.trans (hb2.mono J1.out.1.size), J1.out.2.2.below hb2⟩
                clear hb2 hno J1
                go_wp2
                go_quiet (fail)
                have J3 : Hid (Below W.heap.size W (s2.drewN nq) ∧ Bs (s2.drewN nq) (.slice a0 L0 c0) A0) := ⟨below_drewN J2.out.1 _, J2.out.2.below (below_drewN (Below.refl _ _) _)⟩
                go_wp2
                go_roundw
                case rel => exact ⟨0 + 1, by omega, by go_num, J3.out.1, J3.out.2⟩
                case measure => simp [intOf]
              | some st =>
                have HGS : Hid (Tb.get A0 = some st ∧ Tb.bytes st = A0) := ⟨hg, (Tb.get_inv hg).2⟩
                clear hg
                go_wp2_with fail
                refine (mine16_get HS.out.1 HW.out.1 HS.out.2.1 _ A0 HCY.out.1 HCY.out.2 st HGS.out.1).mono ?_
                rintro e s1 ⟨q5, F5, rfl, hM1, hF5, hb⟩
                have J1 : Hid (Mine16 LS W s1 q5 1099511627776 st F5 ∧ Bs s1 (.slice a0 L0 c0) A0 ∧ Bs s1 (.slice a0 L0 c0) A0) := ⟨hM1, HCY.out.1.below hb, HW.out.2.below hb⟩
                clear hb hM1 hF5
                go_wp2_with fail
                refine (refGet_walk16 _ A0 s1 J1.out.2.1 HCY.out.2).mono ?_
                intro e s2 hP
                obtain ⟨hb2, _, hys⟩ := hP
                obtain ⟨r5, G5, rfl, hR5, hG5⟩ := hys st HGS.out.1
                have J2 : Hid (Bo16 LS LRb W s2 q5 r5 1099511627776 st st F5 G5 ∧ Bs s2 (.slice a0 L0 c0) A0 ∧ Bs s2 (.slice a0 L0 c0) A0) := by
                  have h1 := J1.out.1.later HS.out.1 hb2
                  have hsz := J1.out.1.below.size
                  exact ⟨⟨h1, ⟨hR5, h1.fine, fun j hj => by have := hG5 j hj; omega, h1.below⟩, fun j hj e => by have := HS.out.1.lt J1.out.1.ld hj; have := hG5 j e; omega⟩, J1.out.2.1.below hb2, J1.out.2.2.below hb2⟩
                clear hb2 hys hR5 hG5 J1
                obtain ⟨Z, hZ⟩ : ∃ Z : ByteArray, Z = ⟨A0.toArray⟩ := ⟨_, rfl⟩
                have HZZ : Hid (Z = ⟨A0.toArray⟩) := hZ
                have hzz : (Z.toList == Z.toList) = true := by simp
                have hzn : (Z.toList != Z.toList) = false := by simp
                obtain ⟨zv, hzv⟩ : ∃ z, z = st.version := ⟨_, rfl⟩
                obtain ⟨zn, hzn9⟩ : ∃ z, z = st.shards := ⟨_, rfl⟩
                have HZV : Hid (st.version = zv ∧ st.shards = zn) := ⟨hzv.symm, hzn9.symm⟩
                have hnn : (zv != zv) = false := by simp
                have hss : (zn != zn) = false := by simp
                clear hZ hzv hzn9
                go_wp2
                refine wp_region_held_drew (S := fun w' => Below s2.heap.size s2 w') (by kernel_rfl) (Below.refl _ _).drew (fun _ => ?_)
                refine wpAnyH_more (S' := fun w' => Below s2.drew.heap.size s2.drew w') (fun w' h => below_drew h) _ _ _ _ ?_
                have Js0 : Hid (Bo16 LS LRb W s2.drew q5 r5 1099511627776 st st F5 G5 ∧ Below s2.drew.heap.size s2.drew s2.drew) := ⟨J2.out.1.later HS.out.1 LRb.lt LRb.keep (Below.refl _ _).drew, Below.refl _ _⟩
                have HCL : Hid (∀ w', Below s2.drew.heap.size s2.drew w' → w'.cell? ⟨r5, 1, none⟩ = some (.int .i64 zv) ∧ w'.cell? ⟨r5, 0, none⟩ = some (.int .i64 zn)) := by
                  have hR := Js0.out.1.two.ld
                  exact fun w' hb => by
                    obtain ⟨vr, hvr, _⟩ := hR
                    rw [← HZV.out.1, ← HZV.out.2]
                    exact ⟨(hvr.later hb).blk.cell 1, (hvr.later hb).blk.cell 0⟩
                have HBY : Hid (Bs s2.drew (.slice a0 L0 c0) A0 ∧ Bs s2.drew (.slice a0 L0 c0) A0) := ⟨J2.out.2.1.below (Below.refl _ _).drew, J2.out.2.2.below (Below.refl _ _).drew⟩
                clear J2
                generalize s2.drew = s0 at *
                refine' take_at (i := 0) (d := 120) (v := _) rfl rfl (by kernel_rfl) (by kernel_rfl) (by kernel_rfl) (fun _ _ _ h => h) (Or.inl ⟨by rfl, ?h0⟩) (Js0.out.2) ?_
                case h0 =>
                  intro w hSw
                  go_simp
                  with_reducible rfl
                simp only [List.setIfInBounds_toArray, List.set_cons_zero, List.set_cons_succ]
                refine' take_at (i := 1) (d := 121) (v := _) rfl rfl (by kernel_rfl) (by kernel_rfl) (by kernel_rfl) (fun _ _ _ h => h) (Or.inl ⟨by rfl, ?h1⟩) (Js0.out.2) ?_
                case h1 =>
                  intro w hSw
                  go_simp
                  with_reducible rfl
                simp only [List.setIfInBounds_toArray, List.set_cons_zero, List.set_cons_succ]
                refine' take_at (i := 2) (d := 122) (v := _) rfl rfl (by kernel_rfl) (by kernel_rfl) (by kernel_rfl) (fun _ _ _ h => h) (Or.inl ⟨by rfl, ?h2⟩) (Js0.out.2) ?_
                case h2 =>
                  intro w hSw
                  go_simp
                  with_reducible rfl
                simp only [List.setIfInBounds_toArray, List.set_cons_zero, List.set_cons_succ]
                refine' take_at (i := 5) (d := 125) (v := _) rfl rfl (by kernel_rfl) (by kernel_rfl) (by kernel_rfl) (fun _ _ _ h => h) (Or.inl ⟨by rfl, ?h5⟩) (Js0.out.2) ?_
                case h5 =>
                  intro w hSw
                  go_simp
                  with_reducible rfl
                simp only [List.setIfInBounds_toArray, List.set_cons_zero, List.set_cons_succ]
                refine' take_at (i := 6) (d := 126) (v := _) rfl rfl (by kernel_rfl) (by kernel_rfl) (by kernel_rfl) (fun _ _ _ h => h) (Or.inl ⟨by rfl, ?h6⟩) (Js0.out.2) ?_
                case h6 =>
                  intro w hSw
                  have hcv := (HBY.out.1.below hSw).conv
                  rw [← HZZ.out] at hcv
                  go_simp
                  with_reducible rfl
                simp only [List.setIfInBounds_toArray, List.set_cons_zero, List.set_cons_succ]
                refine wpAnyH_ready (rs := [3]) (by kernel_rfl) (by simp) ?_
                refine AllReadyH.cons (o := _) rfl (fun KQ hKQ => ?_) AllReadyH.nil
                go_simp
                refine (Js0.out.1.one.put HS.out.1).mono ?_
                rintro e s3 ⟨vp, rfl, hvp, hM, hb⟩
                have Js3 : Hid (Bo16 LS LRb W s3 q5 r5 1099511627776 st st F5 G5 ∧ Below s0.heap.size s0 s3 ∧ Bs s3 vp A0) := ⟨Js0.out.1.later HS.out.1 LRb.lt LRb.keep hb, Js0.out.2.trans (hb.mono Js0.out.2.size), by have h := Bs.own hvp; rw [HGS.out.2] at h; exact h⟩
                obtain ⟨ap3, cp3, hve3, _, _⟩ := row_form hvp
                obtain ⟨LB3, hLB3⟩ : ∃ z, z = (Tb.bytes st).length := ⟨_, rfl⟩
                rw [← hLB3] at hve3
                subst hve3
                clear hvp hM hLB3 Js0 hb
                simp only []
                refine hKQ.out _ _ Js3.out.2.1 (fun _ => ?_)
                refine wpAnyH_more (S' := fun w' => Below s3.heap.size s3 w') (fun w' h => Js3.out.2.1.trans (h.mono Js3.out.2.1.size)) _ _ _ _ ?_
                clear hKQ KQ
                refine' take_at (i := 4) (d := 124) (v := _) rfl rfl (by kernel_rfl) (by kernel_rfl) (by kernel_rfl) (fun _ _ _ h => h) (Or.inl ⟨by rfl, ?h4⟩) (Below.refl _ _) ?_
                case h4 =>
                  intro w hSw
                  have hcv := (Js3.out.2.2.below hSw).conv
                  rw [← HZZ.out] at hcv
                  go_simp
                  with_reducible rfl
                simp only [List.setIfInBounds_toArray, List.set_cons_zero, List.set_cons_succ]
                refine wpAnyH_more (S' := fun w' => Below s3.heap.size s3 w') (fun w' h => h) _ _ _ _ ?_
                have Jt0 : Hid (Bo16 LS LRb W s3 q5 r5 1099511627776 st st F5 G5 ∧ Below s3.heap.size s3 s3 ∧ Below s0.heap.size s0 s3) := ⟨Js3.out.1, Below.refl _ _, Js3.out.2.1⟩
                have HCL3 : Hid (∀ w', Below s3.heap.size s3 w' → w'.cell? ⟨r5, 1, none⟩ = some (.int .i64 zv) ∧ w'.cell? ⟨r5, 0, none⟩ = some (.int .i64 zn)) := fun w' hb => HCL.out w' (Js3.out.2.1.trans (hb.mono Js3.out.2.1.size))
                have HBY3 : Hid (∀ w', Below s3.heap.size s3 w' → Bs w' (.slice a0 L0 c0) A0) := fun w' hb => HBY.out.2.below (Js3.out.2.1.trans (hb.mono Js3.out.2.1.size))
                clear Js3 HCL HBY
                generalize s3 = t0 at *
                refine' take_at (i := 7) (d := 127) (v := _) rfl rfl (by kernel_rfl) (by kernel_rfl) (by kernel_rfl) (fun _ _ _ h => h) (Or.inl ⟨by rfl, ?h7⟩) (Jt0.out.2.1) ?_
                case h7 =>
                  intro w hSw
                  go_simp
                  with_reducible rfl
                simp only [List.setIfInBounds_toArray, List.set_cons_zero, List.set_cons_succ]
                refine' take_at (i := 8) (d := 128) (v := _) rfl rfl (by kernel_rfl) (by kernel_rfl) (by kernel_rfl) (fun _ _ _ h => h) (Or.inl ⟨by rfl, ?h8⟩) (Jt0.out.2.1) ?_
                case h8 =>
                  intro w hSw
                  go_simp
                  with_reducible rfl
                simp only [List.setIfInBounds_toArray, List.set_cons_zero, List.set_cons_succ]
                refine' take_at (i := 9) (d := 129) (v := _) rfl rfl (by kernel_rfl) (by kernel_rfl) (by kernel_rfl) (fun _ _ _ h => h) (Or.inl ⟨by rfl, ?h9⟩) (Jt0.out.2.1) ?_
                case h9 =>
                  intro w hSw
                  go_simp
                  with_reducible rfl
                simp only [List.setIfInBounds_toArray, List.set_cons_zero, List.set_cons_succ]
                refine' take_at (i := 11) (d := 131) (v := _) rfl rfl (by kernel_rfl) (by kernel_rfl) (by kernel_rfl) (fun _ _ _ h => h) (Or.inl ⟨by rfl, ?h11⟩) (Jt0.out.2.1) ?_
                case h11 =>
                  intro w hSw
                  go_simp
                  with_reducible rfl
                simp only [List.setIfInBounds_toArray, List.set_cons_zero, List.set_cons_succ]
                refine' take_at (i := 12) (d := 132) (v := _) rfl rfl (by kernel_rfl) (by kernel_rfl) (by kernel_rfl) (fun _ _ _ h => h) (Or.inl ⟨by rfl, ?h12⟩) (Jt0.out.2.1) ?_
                case h12 =>
                  intro w hSw
                  go_simp
                  with_reducible rfl
                simp only [List.setIfInBounds_toArray, List.set_cons_zero, List.set_cons_succ]
                refine' take_at (i := 13) (d := 133) (v := _) rfl rfl (by kernel_rfl) (by kernel_rfl) (by kernel_rfl) (fun _ _ _ h => h) (Or.inl ⟨by rfl, ?h13⟩) (Jt0.out.2.1) ?_
                case h13 =>
                  intro w hSw
                  go_simp
                  with_reducible rfl
                simp only [List.setIfInBounds_toArray, List.set_cons_zero, List.set_cons_succ]
                refine' take_at (i := 14) (d := 134) (v := _) rfl rfl (by kernel_rfl) (by kernel_rfl) (by kernel_rfl) (fun _ _ _ h => h) (Or.inl ⟨by rfl, ?h14⟩) (Jt0.out.2.1) ?_
                case h14 =>
                  intro w hSw
                  obtain ⟨y1, y0⟩ := HCL3.out w hSw
                  go_simp
                  with_reducible rfl
                simp only [List.setIfInBounds_toArray, List.set_cons_zero, List.set_cons_succ]
                refine wpAnyH_ready (rs := [10]) (by kernel_rfl) (by simp) ?_
                refine AllReadyH.cons (o := _) rfl (fun KQ hKQ => ?_) AllReadyH.nil
                go_simp
                refine (Jt0.out.1.one.version HS.out.1 zv HZV.out.1).mono ?_
                rintro e t3 ⟨rfl, hM, hb⟩
                have Jt3 : Hid (Bo16 LS LRb W t3 q5 r5 1099511627776 st st F5 G5 ∧ Below t0.heap.size t0 t3) := ⟨Jt0.out.1.later HS.out.1 LRb.lt LRb.keep hb, Jt0.out.2.1.trans (hb.mono Jt0.out.2.1.size)⟩
                clear Jt0 hb hM
                refine hKQ.out _ _ Jt3.out.2 (fun _ => ?_)
                clear hKQ KQ
                refine' take_at (i := 15) (d := 135) (v := _) rfl rfl (by kernel_rfl) (by kernel_rfl) (by kernel_rfl) (fun _ _ _ h => h) (Or.inl ⟨by rfl, ?h15⟩) (Jt3.out.2) ?_
                case h15 =>
                  intro w hSw
                  go_simp
                  with_reducible rfl
                simp only [List.setIfInBounds_toArray, List.set_cons_zero, List.set_cons_succ]
                refine' take_at (i := 16) (d := 136) (v := _) rfl rfl (by kernel_rfl) (by kernel_rfl) (by kernel_rfl) (fun _ _ _ h => h) (Or.inl ⟨by rfl, ?h16⟩) (Jt3.out.2) ?_
                case h16 =>
                  intro w hSw
                  go_simp
                  with_reducible rfl
                simp only [List.setIfInBounds_toArray, List.set_cons_zero, List.set_cons_succ]
                refine' take_at (i := 17) (d := 137) (v := _) rfl rfl (by kernel_rfl) (by kernel_rfl) (by kernel_rfl) (fun _ _ _ h => h) (Or.inl ⟨by rfl, ?h17⟩) (Jt3.out.2) ?_
                case h17 =>
                  intro w hSw
                  go_simp
                  with_reducible rfl
                simp only [List.setIfInBounds_toArray, List.set_cons_zero, List.set_cons_succ]
                refine' take_at (i := 18) (d := 138) (v := _) rfl rfl (by kernel_rfl) (by kernel_rfl) (by kernel_rfl) (fun _ _ _ h => h) (Or.inl ⟨by rfl, ?h18⟩) (Jt3.out.2) ?_
                case h18 =>
                  intro w hSw
                  go_simp
                  with_reducible rfl
                simp only [List.setIfInBounds_toArray, List.set_cons_zero, List.set_cons_succ]
                refine' take_at (i := 20) (d := 140) (v := _) rfl rfl (by kernel_rfl) (by kernel_rfl) (by kernel_rfl) (fun _ _ _ h => h) (Or.inl ⟨by rfl, ?h20⟩) (Jt3.out.2) ?_
                case h20 =>
                  intro w hSw
                  go_simp
                  with_reducible rfl
                simp only [List.setIfInBounds_toArray, List.set_cons_zero, List.set_cons_succ]
                refine' take_at (i := 21) (d := 141) (v := _) rfl rfl (by kernel_rfl) (by kernel_rfl) (by kernel_rfl) (fun _ _ _ h => h) (Or.inl ⟨by rfl, ?h21⟩) (Jt3.out.2) ?_
                case h21 =>
                  intro w hSw
                  go_simp
                  with_reducible rfl
                simp only [List.setIfInBounds_toArray, List.set_cons_zero, List.set_cons_succ]
                refine' take_at (i := 22) (d := 142) (v := _) rfl rfl (by kernel_rfl) (by kernel_rfl) (by kernel_rfl) (fun _ _ _ h => h) (Or.inl ⟨by rfl, ?h22⟩) (Jt3.out.2) ?_
                case h22 =>
                  intro w hSw
                  go_simp
                  with_reducible rfl
                simp only [List.setIfInBounds_toArray, List.set_cons_zero, List.set_cons_succ]
                refine' take_at (i := 23) (d := 143) (v := _) rfl rfl (by kernel_rfl) (by kernel_rfl) (by kernel_rfl) (fun _ _ _ h => h) (Or.inl ⟨by rfl, ?h23⟩) (Jt3.out.2) ?_
                case h23 =>
                  intro w hSw
                  obtain ⟨y1, y0⟩ := HCL3.out w hSw
                  go_simp
                  with_reducible rfl
                simp only [List.setIfInBounds_toArray, List.set_cons_zero, List.set_cons_succ]
                refine wpAnyH_ready (rs := [19]) (by kernel_rfl) (by simp) ?_
                refine AllReadyH.cons (o := _) rfl (fun KQ hKQ => ?_) AllReadyH.nil
                go_simp
                refine (Jt3.out.1.one.shards HS.out.1 zn HZV.out.2).mono ?_
                rintro e t4 ⟨rfl, hM, hb⟩
                have Jt4 : Hid (Bo16 LS LRb W t4 q5 r5 1099511627776 st st F5 G5 ∧ Below t0.heap.size t0 t4) := ⟨Jt3.out.1.later HS.out.1 LRb.lt LRb.keep hb, Jt3.out.2.trans (hb.mono Jt3.out.2.size)⟩
                clear Jt3 hb hM
                refine hKQ.out _ _ Jt4.out.2 (fun _ => ?_)
                clear hKQ KQ
                refine' take_at (i := 24) (d := 144) (v := _) rfl rfl (by kernel_rfl) (by kernel_rfl) (by kernel_rfl) (fun _ _ _ h => h) (Or.inl ⟨by rfl, ?h24⟩) (Jt4.out.2) ?_
                case h24 =>
                  intro w hSw
                  go_simp
                  with_reducible rfl
                simp only [List.setIfInBounds_toArray, List.set_cons_zero, List.set_cons_succ]
                refine' take_at (i := 25) (d := 145) (v := _) rfl rfl (by kernel_rfl) (by kernel_rfl) (by kernel_rfl) (fun _ _ _ h => h) (Or.inl ⟨by rfl, ?h25⟩) (Jt4.out.2) ?_
                case h25 =>
                  intro w hSw
                  go_simp
                  with_reducible rfl
                simp only [List.setIfInBounds_toArray, List.set_cons_zero, List.set_cons_succ]
                refine' take_at (i := 26) (d := 146) (v := _) rfl rfl (by kernel_rfl) (by kernel_rfl) (by kernel_rfl) (fun _ _ _ h => h) (Or.inl ⟨by rfl, ?h26⟩) (Jt4.out.2) ?_
                case h26 =>
                  intro w hSw
                  go_simp
                  with_reducible rfl
                simp only [List.setIfInBounds_toArray, List.set_cons_zero, List.set_cons_succ]
                refine wpAnyH_done (by kernel_rfl) ?_ _
                go_wp2
                go_roundw
                case rel => exact ⟨0 + 1, by omega, by go_num, Jt4.out.1.one.below, HBY3.out _ Jt4.out.2⟩
                case measure => simp [intOf]
            · have HP1 : Hid (Bs wr (.slice au M cu) bs ∧ bs.length ≤ 4000) := ⟨HU.out.1.below HW.out.1, HM5.out.1⟩
              have hix := (index_two16 a0 au L0 M c0 cu wr).2
              have HCY : Hid (Bs wr (.slice au M cu) bs ∧ bs.length ≤ 4000) := HP1.out
              cases hg : Tb.get bs with
              | none =>
                have HGN : Hid (Tb.get bs = none) := hg
                clear hg
                go_wp2_with fail
                refine (mine16_getno HS.out.1 _ bs wr (HS.out.2.1.below HW.out.1) HCY.out.1 HCY.out.2 HGN.out).mono ?_
                rintro e s1 ⟨rfl, hb⟩
                have J1 : Hid (Below W.heap.size W s1 ∧ Bs s1 (.slice au M cu) bs ∧ Bs s1 (.slice a0 L0 c0) A0) := ⟨HW.out.1.trans (hb.mono HW.out.1.size), HCY.out.1.below hb, HW.out.2.below hb⟩
                clear hb
                go_wp2_with fail
                refine (refGet_walk16 _ bs s1 J1.out.2.1 HCY.out.2).mono ?_
                intro e s2 hP
                obtain ⟨hb2, hno, _⟩ := hP
                obtain ⟨pv, rfl⟩ := hno HGN.out
                have J2 : Hid (Below W.heap.size W s2 ∧ Bs s2 (.slice a0 L0 c0) A0) := ⟨J1.out.1.trans (hb2.mono J1.out.1.size), J1.out.2.2.below hb2⟩
                clear hb2 hno J1
                go_wp2
                go_quiet (fail)
                have J3 : Hid (Below W.heap.size W (s2.drewN nq) ∧ Bs (s2.drewN nq) (.slice a0 L0 c0) A0) := ⟨below_drewN J2.out.1 _, J2.out.2.below (below_drewN (Below.refl _ _) _)⟩
                go_wp2
                go_roundw
                case rel => exact ⟨1 + 1, by omega, by go_num, J3.out.1, J3.out.2⟩
                case measure => simp [intOf]
              | some st =>
                have HGS : Hid (Tb.get bs = some st ∧ Tb.bytes st = bs) := ⟨hg, (Tb.get_inv hg).2⟩
                clear hg
                go_wp2_with fail
                refine (mine16_get HS.out.1 HW.out.1 HS.out.2.1 _ bs HCY.out.1 HCY.out.2 st HGS.out.1).mono ?_
                rintro e s1 ⟨q5, F5, rfl, hM1, hF5, hb⟩
                have J1 : Hid (Mine16 LS W s1 q5 1099511627776 st F5 ∧ Bs s1 (.slice au M cu) bs ∧ Bs s1 (.slice a0 L0 c0) A0) := ⟨hM1, HCY.out.1.below hb, HW.out.2.below hb⟩
                clear hb hM1 hF5
                go_wp2_with fail
                refine (refGet_walk16 _ bs s1 J1.out.2.1 HCY.out.2).mono ?_
                intro e s2 hP
                obtain ⟨hb2, _, hys⟩ := hP
                obtain ⟨r5, G5, rfl, hR5, hG5⟩ := hys st HGS.out.1
                have J2 : Hid (Bo16 LS LRb W s2 q5 r5 1099511627776 st st F5 G5 ∧ Bs s2 (.slice au M cu) bs ∧ Bs s2 (.slice a0 L0 c0) A0) := by
                  have h1 := J1.out.1.later HS.out.1 hb2
                  have hsz := J1.out.1.below.size
                  exact ⟨⟨h1, ⟨hR5, h1.fine, fun j hj => by have := hG5 j hj; omega, h1.below⟩, fun j hj e => by have := HS.out.1.lt J1.out.1.ld hj; have := hG5 j e; omega⟩, J1.out.2.1.below hb2, J1.out.2.2.below hb2⟩
                clear hb2 hys hR5 hG5 J1
                obtain ⟨Z, hZ⟩ : ∃ Z : ByteArray, Z = ⟨bs.toArray⟩ := ⟨_, rfl⟩
                have HZZ : Hid (Z = ⟨bs.toArray⟩) := hZ
                have hzz : (Z.toList == Z.toList) = true := by simp
                have hzn : (Z.toList != Z.toList) = false := by simp
                obtain ⟨zv, hzv⟩ : ∃ z, z = st.version := ⟨_, rfl⟩
                obtain ⟨zn, hzn9⟩ : ∃ z, z = st.shards := ⟨_, rfl⟩
                have HZV : Hid (st.version = zv ∧ st.shards = zn) := ⟨hzv.symm, hzn9.symm⟩
                have hnn : (zv != zv) = false := by simp
                have hss : (zn != zn) = false := by simp
                clear hZ hzv hzn9
                go_wp2
                refine wp_region_held_drew (S := fun w' => Below s2.heap.size s2 w') (by kernel_rfl) (Below.refl _ _).drew (fun _ => ?_)
                refine wpAnyH_more (S' := fun w' => Below s2.drew.heap.size s2.drew w') (fun w' h => below_drew h) _ _ _ _ ?_
                have Js0 : Hid (Bo16 LS LRb W s2.drew q5 r5 1099511627776 st st F5 G5 ∧ Below s2.drew.heap.size s2.drew s2.drew) := ⟨J2.out.1.later HS.out.1 LRb.lt LRb.keep (Below.refl _ _).drew, Below.refl _ _⟩
                have HCL : Hid (∀ w', Below s2.drew.heap.size s2.drew w' → w'.cell? ⟨r5, 1, none⟩ = some (.int .i64 zv) ∧ w'.cell? ⟨r5, 0, none⟩ = some (.int .i64 zn)) := by
                  have hR := Js0.out.1.two.ld
                  exact fun w' hb => by
                    obtain ⟨vr, hvr, _⟩ := hR
                    rw [← HZV.out.1, ← HZV.out.2]
                    exact ⟨(hvr.later hb).blk.cell 1, (hvr.later hb).blk.cell 0⟩
                have HBY : Hid (Bs s2.drew (.slice au M cu) bs ∧ Bs s2.drew (.slice a0 L0 c0) A0) := ⟨J2.out.2.1.below (Below.refl _ _).drew, J2.out.2.2.below (Below.refl _ _).drew⟩
                clear J2
                generalize s2.drew = s0 at *
                refine' take_at (i := 0) (d := 120) (v := _) rfl rfl (by kernel_rfl) (by kernel_rfl) (by kernel_rfl) (fun _ _ _ h => h) (Or.inl ⟨by rfl, ?h0⟩) (Js0.out.2) ?_
                case h0 =>
                  intro w hSw
                  go_simp
                  with_reducible rfl
                simp only [List.setIfInBounds_toArray, List.set_cons_zero, List.set_cons_succ]
                refine' take_at (i := 1) (d := 121) (v := _) rfl rfl (by kernel_rfl) (by kernel_rfl) (by kernel_rfl) (fun _ _ _ h => h) (Or.inl ⟨by rfl, ?h1⟩) (Js0.out.2) ?_
                case h1 =>
                  intro w hSw
                  go_simp
                  with_reducible rfl
                simp only [List.setIfInBounds_toArray, List.set_cons_zero, List.set_cons_succ]
                refine' take_at (i := 2) (d := 122) (v := _) rfl rfl (by kernel_rfl) (by kernel_rfl) (by kernel_rfl) (fun _ _ _ h => h) (Or.inl ⟨by rfl, ?h2⟩) (Js0.out.2) ?_
                case h2 =>
                  intro w hSw
                  go_simp
                  with_reducible rfl
                simp only [List.setIfInBounds_toArray, List.set_cons_zero, List.set_cons_succ]
                refine' take_at (i := 5) (d := 125) (v := _) rfl rfl (by kernel_rfl) (by kernel_rfl) (by kernel_rfl) (fun _ _ _ h => h) (Or.inl ⟨by rfl, ?h5⟩) (Js0.out.2) ?_
                case h5 =>
                  intro w hSw
                  go_simp
                  with_reducible rfl
                simp only [List.setIfInBounds_toArray, List.set_cons_zero, List.set_cons_succ]
                refine' take_at (i := 6) (d := 126) (v := _) rfl rfl (by kernel_rfl) (by kernel_rfl) (by kernel_rfl) (fun _ _ _ h => h) (Or.inl ⟨by rfl, ?h6⟩) (Js0.out.2) ?_
                case h6 =>
                  intro w hSw
                  have hcv := (HBY.out.1.below hSw).conv
                  rw [← HZZ.out] at hcv
                  go_simp
                  with_reducible rfl
                simp only [List.setIfInBounds_toArray, List.set_cons_zero, List.set_cons_succ]
                refine wpAnyH_ready (rs := [3]) (by kernel_rfl) (by simp) ?_
                refine AllReadyH.cons (o := _) rfl (fun KQ hKQ => ?_) AllReadyH.nil
                go_simp
                refine (Js0.out.1.one.put HS.out.1).mono ?_
                rintro e s3 ⟨vp, rfl, hvp, hM, hb⟩
                have Js3 : Hid (Bo16 LS LRb W s3 q5 r5 1099511627776 st st F5 G5 ∧ Below s0.heap.size s0 s3 ∧ Bs s3 vp bs) := ⟨Js0.out.1.later HS.out.1 LRb.lt LRb.keep hb, Js0.out.2.trans (hb.mono Js0.out.2.size), by have h := Bs.own hvp; rw [HGS.out.2] at h; exact h⟩
                obtain ⟨ap3, cp3, hve3, _, _⟩ := row_form hvp
                obtain ⟨LB3, hLB3⟩ : ∃ z, z = (Tb.bytes st).length := ⟨_, rfl⟩
                rw [← hLB3] at hve3
                subst hve3
                clear hvp hM hLB3 Js0 hb
                simp only []
                refine hKQ.out _ _ Js3.out.2.1 (fun _ => ?_)
                refine wpAnyH_more (S' := fun w' => Below s3.heap.size s3 w') (fun w' h => Js3.out.2.1.trans (h.mono Js3.out.2.1.size)) _ _ _ _ ?_
                clear hKQ KQ
                refine' take_at (i := 4) (d := 124) (v := _) rfl rfl (by kernel_rfl) (by kernel_rfl) (by kernel_rfl) (fun _ _ _ h => h) (Or.inl ⟨by rfl, ?h4⟩) (Below.refl _ _) ?_
                case h4 =>
                  intro w hSw
                  have hcv := (Js3.out.2.2.below hSw).conv
                  rw [← HZZ.out] at hcv
                  go_simp
                  with_reducible rfl
                simp only [List.setIfInBounds_toArray, List.set_cons_zero, List.set_cons_succ]
                refine wpAnyH_more (S' := fun w' => Below s3.heap.size s3 w') (fun w' h => h) _ _ _ _ ?_
                have Jt0 : Hid (Bo16 LS LRb W s3 q5 r5 1099511627776 st st F5 G5 ∧ Below s3.heap.size s3 s3 ∧ Below s0.heap.size s0 s3) := ⟨Js3.out.1, Below.refl _ _, Js3.out.2.1⟩
                have HCL3 : Hid (∀ w', Below s3.heap.size s3 w' → w'.cell? ⟨r5, 1, none⟩ = some (.int .i64 zv) ∧ w'.cell? ⟨r5, 0, none⟩ = some (.int .i64 zn)) := fun w' hb => HCL.out w' (Js3.out.2.1.trans (hb.mono Js3.out.2.1.size))
                have HBY3 : Hid (∀ w', Below s3.heap.size s3 w' → Bs w' (.slice a0 L0 c0) A0) := fun w' hb => HBY.out.2.below (Js3.out.2.1.trans (hb.mono Js3.out.2.1.size))
                clear Js3 HCL HBY
                generalize s3 = t0 at *
                refine' take_at (i := 7) (d := 127) (v := _) rfl rfl (by kernel_rfl) (by kernel_rfl) (by kernel_rfl) (fun _ _ _ h => h) (Or.inl ⟨by rfl, ?h7⟩) (Jt0.out.2.1) ?_
                case h7 =>
                  intro w hSw
                  go_simp
                  with_reducible rfl
                simp only [List.setIfInBounds_toArray, List.set_cons_zero, List.set_cons_succ]
                refine' take_at (i := 8) (d := 128) (v := _) rfl rfl (by kernel_rfl) (by kernel_rfl) (by kernel_rfl) (fun _ _ _ h => h) (Or.inl ⟨by rfl, ?h8⟩) (Jt0.out.2.1) ?_
                case h8 =>
                  intro w hSw
                  go_simp
                  with_reducible rfl
                simp only [List.setIfInBounds_toArray, List.set_cons_zero, List.set_cons_succ]
                refine' take_at (i := 9) (d := 129) (v := _) rfl rfl (by kernel_rfl) (by kernel_rfl) (by kernel_rfl) (fun _ _ _ h => h) (Or.inl ⟨by rfl, ?h9⟩) (Jt0.out.2.1) ?_
                case h9 =>
                  intro w hSw
                  go_simp
                  with_reducible rfl
                simp only [List.setIfInBounds_toArray, List.set_cons_zero, List.set_cons_succ]
                refine' take_at (i := 11) (d := 131) (v := _) rfl rfl (by kernel_rfl) (by kernel_rfl) (by kernel_rfl) (fun _ _ _ h => h) (Or.inl ⟨by rfl, ?h11⟩) (Jt0.out.2.1) ?_
                case h11 =>
                  intro w hSw
                  go_simp
                  with_reducible rfl
                simp only [List.setIfInBounds_toArray, List.set_cons_zero, List.set_cons_succ]
                refine' take_at (i := 12) (d := 132) (v := _) rfl rfl (by kernel_rfl) (by kernel_rfl) (by kernel_rfl) (fun _ _ _ h => h) (Or.inl ⟨by rfl, ?h12⟩) (Jt0.out.2.1) ?_
                case h12 =>
                  intro w hSw
                  go_simp
                  with_reducible rfl
                simp only [List.setIfInBounds_toArray, List.set_cons_zero, List.set_cons_succ]
                refine' take_at (i := 13) (d := 133) (v := _) rfl rfl (by kernel_rfl) (by kernel_rfl) (by kernel_rfl) (fun _ _ _ h => h) (Or.inl ⟨by rfl, ?h13⟩) (Jt0.out.2.1) ?_
                case h13 =>
                  intro w hSw
                  go_simp
                  with_reducible rfl
                simp only [List.setIfInBounds_toArray, List.set_cons_zero, List.set_cons_succ]
                refine' take_at (i := 14) (d := 134) (v := _) rfl rfl (by kernel_rfl) (by kernel_rfl) (by kernel_rfl) (fun _ _ _ h => h) (Or.inl ⟨by rfl, ?h14⟩) (Jt0.out.2.1) ?_
                case h14 =>
                  intro w hSw
                  obtain ⟨y1, y0⟩ := HCL3.out w hSw
                  go_simp
                  with_reducible rfl
                simp only [List.setIfInBounds_toArray, List.set_cons_zero, List.set_cons_succ]
                refine wpAnyH_ready (rs := [10]) (by kernel_rfl) (by simp) ?_
                refine AllReadyH.cons (o := _) rfl (fun KQ hKQ => ?_) AllReadyH.nil
                go_simp
                refine (Jt0.out.1.one.version HS.out.1 zv HZV.out.1).mono ?_
                rintro e t3 ⟨rfl, hM, hb⟩
                have Jt3 : Hid (Bo16 LS LRb W t3 q5 r5 1099511627776 st st F5 G5 ∧ Below t0.heap.size t0 t3) := ⟨Jt0.out.1.later HS.out.1 LRb.lt LRb.keep hb, Jt0.out.2.1.trans (hb.mono Jt0.out.2.1.size)⟩
                clear Jt0 hb hM
                refine hKQ.out _ _ Jt3.out.2 (fun _ => ?_)
                clear hKQ KQ
                refine' take_at (i := 15) (d := 135) (v := _) rfl rfl (by kernel_rfl) (by kernel_rfl) (by kernel_rfl) (fun _ _ _ h => h) (Or.inl ⟨by rfl, ?h15⟩) (Jt3.out.2) ?_
                case h15 =>
                  intro w hSw
                  go_simp
                  with_reducible rfl
                simp only [List.setIfInBounds_toArray, List.set_cons_zero, List.set_cons_succ]
                refine' take_at (i := 16) (d := 136) (v := _) rfl rfl (by kernel_rfl) (by kernel_rfl) (by kernel_rfl) (fun _ _ _ h => h) (Or.inl ⟨by rfl, ?h16⟩) (Jt3.out.2) ?_
                case h16 =>
                  intro w hSw
                  go_simp
                  with_reducible rfl
                simp only [List.setIfInBounds_toArray, List.set_cons_zero, List.set_cons_succ]
                refine' take_at (i := 17) (d := 137) (v := _) rfl rfl (by kernel_rfl) (by kernel_rfl) (by kernel_rfl) (fun _ _ _ h => h) (Or.inl ⟨by rfl, ?h17⟩) (Jt3.out.2) ?_
                case h17 =>
                  intro w hSw
                  go_simp
                  with_reducible rfl
                simp only [List.setIfInBounds_toArray, List.set_cons_zero, List.set_cons_succ]
                refine' take_at (i := 18) (d := 138) (v := _) rfl rfl (by kernel_rfl) (by kernel_rfl) (by kernel_rfl) (fun _ _ _ h => h) (Or.inl ⟨by rfl, ?h18⟩) (Jt3.out.2) ?_
                case h18 =>
                  intro w hSw
                  go_simp
                  with_reducible rfl
                simp only [List.setIfInBounds_toArray, List.set_cons_zero, List.set_cons_succ]
                refine' take_at (i := 20) (d := 140) (v := _) rfl rfl (by kernel_rfl) (by kernel_rfl) (by kernel_rfl) (fun _ _ _ h => h) (Or.inl ⟨by rfl, ?h20⟩) (Jt3.out.2) ?_
                case h20 =>
                  intro w hSw
                  go_simp
                  with_reducible rfl
                simp only [List.setIfInBounds_toArray, List.set_cons_zero, List.set_cons_succ]
                refine' take_at (i := 21) (d := 141) (v := _) rfl rfl (by kernel_rfl) (by kernel_rfl) (by kernel_rfl) (fun _ _ _ h => h) (Or.inl ⟨by rfl, ?h21⟩) (Jt3.out.2) ?_
                case h21 =>
                  intro w hSw
                  go_simp
                  with_reducible rfl
                simp only [List.setIfInBounds_toArray, List.set_cons_zero, List.set_cons_succ]
                refine' take_at (i := 22) (d := 142) (v := _) rfl rfl (by kernel_rfl) (by kernel_rfl) (by kernel_rfl) (fun _ _ _ h => h) (Or.inl ⟨by rfl, ?h22⟩) (Jt3.out.2) ?_
                case h22 =>
                  intro w hSw
                  go_simp
                  with_reducible rfl
                simp only [List.setIfInBounds_toArray, List.set_cons_zero, List.set_cons_succ]
                refine' take_at (i := 23) (d := 143) (v := _) rfl rfl (by kernel_rfl) (by kernel_rfl) (by kernel_rfl) (fun _ _ _ h => h) (Or.inl ⟨by rfl, ?h23⟩) (Jt3.out.2) ?_
                case h23 =>
                  intro w hSw
                  obtain ⟨y1, y0⟩ := HCL3.out w hSw
                  go_simp
                  with_reducible rfl
                simp only [List.setIfInBounds_toArray, List.set_cons_zero, List.set_cons_succ]
                refine wpAnyH_ready (rs := [19]) (by kernel_rfl) (by simp) ?_
                refine AllReadyH.cons (o := _) rfl (fun KQ hKQ => ?_) AllReadyH.nil
                go_simp
                refine (Jt3.out.1.one.shards HS.out.1 zn HZV.out.2).mono ?_
                rintro e t4 ⟨rfl, hM, hb⟩
                have Jt4 : Hid (Bo16 LS LRb W t4 q5 r5 1099511627776 st st F5 G5 ∧ Below t0.heap.size t0 t4) := ⟨Jt3.out.1.later HS.out.1 LRb.lt LRb.keep hb, Jt3.out.2.trans (hb.mono Jt3.out.2.size)⟩
                clear Jt3 hb hM
                refine hKQ.out _ _ Jt4.out.2 (fun _ => ?_)
                clear hKQ KQ
                refine' take_at (i := 24) (d := 144) (v := _) rfl rfl (by kernel_rfl) (by kernel_rfl) (by kernel_rfl) (fun _ _ _ h => h) (Or.inl ⟨by rfl, ?h24⟩) (Jt4.out.2) ?_
                case h24 =>
                  intro w hSw
                  go_simp
                  with_reducible rfl
                simp only [List.setIfInBounds_toArray, List.set_cons_zero, List.set_cons_succ]
                refine' take_at (i := 25) (d := 145) (v := _) rfl rfl (by kernel_rfl) (by kernel_rfl) (by kernel_rfl) (fun _ _ _ h => h) (Or.inl ⟨by rfl, ?h25⟩) (Jt4.out.2) ?_
                case h25 =>
                  intro w hSw
                  go_simp
                  with_reducible rfl
                simp only [List.setIfInBounds_toArray, List.set_cons_zero, List.set_cons_succ]
                refine' take_at (i := 26) (d := 146) (v := _) rfl rfl (by kernel_rfl) (by kernel_rfl) (by kernel_rfl) (fun _ _ _ h => h) (Or.inl ⟨by rfl, ?h26⟩) (Jt4.out.2) ?_
                case h26 =>
                  intro w hSw
                  go_simp
                  with_reducible rfl
                simp only [List.setIfInBounds_toArray, List.set_cons_zero, List.set_cons_succ]
                refine wpAnyH_done (by kernel_rfl) ?_ _
                go_wp2
                go_roundw
                case rel => exact ⟨1 + 1, by omega, by go_num, Jt4.out.1.one.below, HBY3.out _ Jt4.out.2⟩
                case measure => simp [intOf]
          · obtain rfl : k2 = 2 := by omega
            go_wp2
            go_ret
            exact ⟨rfl, HW.out.1⟩
      · have hp2 : (decide (0 ≤ pt) && decide (pt < (LB : Int))) = false := by
          cases e : (decide (0 ≤ pt) && decide (pt < (LB : Int))) with
          | false => rfl
          | true => simp at e; omega
        obtain ⟨A0, hA0⟩ : ∃ A, A = Tb.bytes s := ⟨_, rfl⟩
        have HY : Hid (Below W.heap.size W w4 ∧ Bs w4 (.slice ap LB cp) A0 ∧ A0.length ≤ 4000) := ⟨H4.out.1, by rw [hA0]; exact Bs.own H4.out.2.1, by rw [hA0]; have := HBL.out; omega⟩
        clear hA0
        obtain ⟨a0, ha0⟩ : ∃ z, z = ap := ⟨_, rfl⟩
        obtain ⟨L0, hL0⟩ : ∃ z, z = LB := ⟨_, rfl⟩
        obtain ⟨c0, hc0⟩ : ∃ z, z = cp := ⟨_, rfl⟩
        rw [← ha0, ← hL0, ← hc0] at HY
        rw [← ha0, ← hL0, ← hc0]
        rw [← hL0] at hp1 hp2 hLB1
        clear ha0 hL0 hc0 H4 HAP
        by_cases hq0 : 0 ≤ pt
        · have hq1 : ¬ pt < (L0 : Int) := fun e => hp1 ⟨hq0, e⟩
          clear hp1 hp2
          go_wp2
          go_loopw [91] (fun i wx => ∃ k : Nat, k ≤ 2 ∧ i = .int .i64 (k : Int) ∧ Below W.heap.size W wx ∧ Bs wx (.slice a0 L0 c0) A0) (fun i _ => 2 - (intOf i).toNat)
          case atStart => exact ⟨0, by omega, rfl, HY.out.1, HY.out.2.1⟩
          case round =>
            obtain ⟨k2, hk2, rfl, hbw, hbs⟩ := hrel
            have HW : Hid (Below W.heap.size W wr ∧ Bs wr (.slice a0 L0 c0) A0) := ⟨hbw, hbs⟩
            clear hbw hbs
            by_cases h2 : k2 < 2
            · rcases (show k2 = 0 ∨ k2 = 1 by omega) with rfl | rfl
              · have HP0 : Hid (Bs wr (.slice a0 L0 c0) A0 ∧ A0.length ≤ 4000) := ⟨HW.out.2, HY.out.2.2⟩
                have hix := (index_two16 a0 au L0 M c0 cu wr).1
                have HCY : Hid (Bs wr (.slice a0 L0 c0) A0 ∧ A0.length ≤ 4000) := HP0.out
                cases hg : Tb.get A0 with
                | none =>
                  have HGN : Hid (Tb.get A0 = none) := hg
                  clear hg
                  go_wp2_with fail
                  refine (mine16_getno HS.out.1 _ A0 wr (HS.out.2.1.below HW.out.1) HCY.out.1 HCY.out.2 HGN.out).mono ?_
                  rintro e s1 ⟨rfl, hb⟩
                  have J1 : Hid (Below W.heap.size W s1 ∧ Bs s1 (.slice a0 L0 c0) A0 ∧ Bs s1 (.slice a0 L0 c0) A0) := ⟨HW.out.1.trans (hb.mono HW.out.1.size), HCY.out.1.below hb, HW.out.2.below hb⟩
                  clear hb
                  go_wp2_with fail
                  refine (refGet_walk16 _ A0 s1 J1.out.2.1 HCY.out.2).mono ?_
                  intro e s2 hP
                  obtain ⟨hb2, hno, _⟩ := hP
                  obtain ⟨pv, rfl⟩ := hno HGN.out
                  have J2 : Hid (Below W.heap.size W s2 ∧ Bs s2 (.slice a0 L0 c0) A0) := ⟨J1.out.1.trans (hb2.mono J1.out.1.size), J1.out.2.2.below hb2⟩
                  clear hb2 hno J1
                  go_wp2
                  go_quiet (fail)
                  have J3 : Hid (Below W.heap.size W (s2.drewN nq) ∧ Bs (s2.drewN nq) (.slice a0 L0 c0) A0) := ⟨below_drewN J2.out.1 _, J2.out.2.below (below_drewN (Below.refl _ _) _)⟩
                  go_wp2
                  go_roundw
                  case rel => exact ⟨0 + 1, by omega, by go_num, J3.out.1, J3.out.2⟩
                  case measure => simp [intOf]
                | some st =>
                  have HGS : Hid (Tb.get A0 = some st ∧ Tb.bytes st = A0) := ⟨hg, (Tb.get_inv hg).2⟩
                  clear hg
                  go_wp2_with fail
                  refine (mine16_get HS.out.1 HW.out.1 HS.out.2.1 _ A0 HCY.out.1 HCY.out.2 st HGS.out.1).mono ?_
                  rintro e s1 ⟨q5, F5, rfl, hM1, hF5, hb⟩
                  have J1 : Hid (Mine16 LS W s1 q5 1099511627776 st F5 ∧ Bs s1 (.slice a0 L0 c0) A0 ∧ Bs s1 (.slice a0 L0 c0) A0) := ⟨hM1, HCY.out.1.below hb, HW.out.2.below hb⟩
                  clear hb hM1 hF5
                  go_wp2_with fail
                  refine (refGet_walk16 _ A0 s1 J1.out.2.1 HCY.out.2).mono ?_
                  intro e s2 hP
                  obtain ⟨hb2, _, hys⟩ := hP
                  obtain ⟨r5, G5, rfl, hR5, hG5⟩ := hys st HGS.out.1
                  have J2 : Hid (Bo16 LS LRb W s2 q5 r5 1099511627776 st st F5 G5 ∧ Bs s2 (.slice a0 L0 c0) A0 ∧ Bs s2 (.slice a0 L0 c0) A0) := by
                    have h1 := J1.out.1.later HS.out.1 hb2
                    have hsz := J1.out.1.below.size
                    exact ⟨⟨h1, ⟨hR5, h1.fine, fun j hj => by have := hG5 j hj; omega, h1.below⟩, fun j hj e => by have := HS.out.1.lt J1.out.1.ld hj; have := hG5 j e; omega⟩, J1.out.2.1.below hb2, J1.out.2.2.below hb2⟩
                  clear hb2 hys hR5 hG5 J1
                  obtain ⟨Z, hZ⟩ : ∃ Z : ByteArray, Z = ⟨A0.toArray⟩ := ⟨_, rfl⟩
                  have HZZ : Hid (Z = ⟨A0.toArray⟩) := hZ
                  have hzz : (Z.toList == Z.toList) = true := by simp
                  have hzn : (Z.toList != Z.toList) = false := by simp
                  obtain ⟨zv, hzv⟩ : ∃ z, z = st.version := ⟨_, rfl⟩
                  obtain ⟨zn, hzn9⟩ : ∃ z, z = st.shards := ⟨_, rfl⟩
                  have HZV : Hid (st.version = zv ∧ st.shards = zn) := ⟨hzv.symm, hzn9.symm⟩
                  have hnn : (zv != zv) = false := by simp
                  have hss : (zn != zn) = false := by simp
                  clear hZ hzv hzn9
                  go_wp2
                  refine wp_region_held_drew (S := fun w' => Below s2.heap.size s2 w') (by kernel_rfl) (Below.refl _ _).drew (fun _ => ?_)
                  refine wpAnyH_more (S' := fun w' => Below s2.drew.heap.size s2.drew w') (fun w' h => below_drew h) _ _ _ _ ?_
                  have Js0 : Hid (Bo16 LS LRb W s2.drew q5 r5 1099511627776 st st F5 G5 ∧ Below s2.drew.heap.size s2.drew s2.drew) := ⟨J2.out.1.later HS.out.1 LRb.lt LRb.keep (Below.refl _ _).drew, Below.refl _ _⟩
                  have HCL : Hid (∀ w', Below s2.drew.heap.size s2.drew w' → w'.cell? ⟨r5, 1, none⟩ = some (.int .i64 zv) ∧ w'.cell? ⟨r5, 0, none⟩ = some (.int .i64 zn)) := by
                    have hR := Js0.out.1.two.ld
                    exact fun w' hb => by
                      obtain ⟨vr, hvr, _⟩ := hR
                      rw [← HZV.out.1, ← HZV.out.2]
                      exact ⟨(hvr.later hb).blk.cell 1, (hvr.later hb).blk.cell 0⟩
                  have HBY : Hid (Bs s2.drew (.slice a0 L0 c0) A0 ∧ Bs s2.drew (.slice a0 L0 c0) A0) := ⟨J2.out.2.1.below (Below.refl _ _).drew, J2.out.2.2.below (Below.refl _ _).drew⟩
                  clear J2
                  generalize s2.drew = s0 at *
                  refine' take_at (i := 0) (d := 120) (v := _) rfl rfl (by kernel_rfl) (by kernel_rfl) (by kernel_rfl) (fun _ _ _ h => h) (Or.inl ⟨by rfl, ?h0⟩) (Js0.out.2) ?_
                  case h0 =>
                    intro w hSw
                    go_simp
                    with_reducible rfl
                  simp only [List.setIfInBounds_toArray, List.set_cons_zero, List.set_cons_succ]
                  refine' take_at (i := 1) (d := 121) (v := _) rfl rfl (by kernel_rfl) (by kernel_rfl) (by kernel_rfl) (fun _ _ _ h => h) (Or.inl ⟨by rfl, ?h1⟩) (Js0.out.2) ?_
                  case h1 =>
                    intro w hSw
                    go_simp
                    with_reducible rfl
                  simp only [List.setIfInBounds_toArray, List.set_cons_zero, List.set_cons_succ]
                  refine' take_at (i := 2) (d := 122) (v := _) rfl rfl (by kernel_rfl) (by kernel_rfl) (by kernel_rfl) (fun _ _ _ h => h) (Or.inl ⟨by rfl, ?h2⟩) (Js0.out.2) ?_
                  case h2 =>
                    intro w hSw
                    go_simp
                    with_reducible rfl
                  simp only [List.setIfInBounds_toArray, List.set_cons_zero, List.set_cons_succ]
                  refine' take_at (i := 5) (d := 125) (v := _) rfl rfl (by kernel_rfl) (by kernel_rfl) (by kernel_rfl) (fun _ _ _ h => h) (Or.inl ⟨by rfl, ?h5⟩) (Js0.out.2) ?_
                  case h5 =>
                    intro w hSw
                    go_simp
                    with_reducible rfl
                  simp only [List.setIfInBounds_toArray, List.set_cons_zero, List.set_cons_succ]
                  refine' take_at (i := 6) (d := 126) (v := _) rfl rfl (by kernel_rfl) (by kernel_rfl) (by kernel_rfl) (fun _ _ _ h => h) (Or.inl ⟨by rfl, ?h6⟩) (Js0.out.2) ?_
                  case h6 =>
                    intro w hSw
                    have hcv := (HBY.out.1.below hSw).conv
                    rw [← HZZ.out] at hcv
                    go_simp
                    with_reducible rfl
                  simp only [List.setIfInBounds_toArray, List.set_cons_zero, List.set_cons_succ]
                  refine wpAnyH_ready (rs := [3]) (by kernel_rfl) (by simp) ?_
                  refine AllReadyH.cons (o := _) rfl (fun KQ hKQ => ?_) AllReadyH.nil
                  go_simp
                  refine (Js0.out.1.one.put HS.out.1).mono ?_
                  rintro e s3 ⟨vp, rfl, hvp, hM, hb⟩
                  have Js3 : Hid (Bo16 LS LRb W s3 q5 r5 1099511627776 st st F5 G5 ∧ Below s0.heap.size s0 s3 ∧ Bs s3 vp A0) := ⟨Js0.out.1.later HS.out.1 LRb.lt LRb.keep hb, Js0.out.2.trans (hb.mono Js0.out.2.size), by have h := Bs.own hvp; rw [HGS.out.2] at h; exact h⟩
                  obtain ⟨ap3, cp3, hve3, _, _⟩ := row_form hvp
                  obtain ⟨LB3, hLB3⟩ : ∃ z, z = (Tb.bytes st).length := ⟨_, rfl⟩
                  rw [← hLB3] at hve3
                  subst hve3
                  clear hvp hM hLB3 Js0 hb
                  simp only []
                  refine hKQ.out _ _ Js3.out.2.1 (fun _ => ?_)
                  refine wpAnyH_more (S' := fun w' => Below s3.heap.size s3 w') (fun w' h => Js3.out.2.1.trans (h.mono Js3.out.2.1.size)) _ _ _ _ ?_
                  clear hKQ KQ
                  refine' take_at (i := 4) (d := 124) (v := _) rfl rfl (by kernel_rfl) (by kernel_rfl) (by kernel_rfl) (fun _ _ _ h => h) (Or.inl ⟨by rfl, ?h4⟩) (Below.refl _ _) ?_
                  case h4 =>
                    intro w hSw
                    have hcv := (Js3.out.2.2.below hSw).conv
                    rw [← HZZ.out] at hcv
                    go_simp
                    with_reducible rfl
                  simp only [List.setIfInBounds_toArray, List.set_cons_zero, List.set_cons_succ]
                  refine wpAnyH_more (S' := fun w' => Below s3.heap.size s3 w') (fun w' h => h) _ _ _ _ ?_
                  have Jt0 : Hid (Bo16 LS LRb W s3 q5 r5 1099511627776 st st F5 G5 ∧ Below s3.heap.size s3 s3 ∧ Below s0.heap.size s0 s3) := ⟨Js3.out.1, Below.refl _ _, Js3.out.2.1⟩
                  have HCL3 : Hid (∀ w', Below s3.heap.size s3 w' → w'.cell? ⟨r5, 1, none⟩ = some (.int .i64 zv) ∧ w'.cell? ⟨r5, 0, none⟩ = some (.int .i64 zn)) := fun w' hb => HCL.out w' (Js3.out.2.1.trans (hb.mono Js3.out.2.1.size))
                  have HBY3 : Hid (∀ w', Below s3.heap.size s3 w' → Bs w' (.slice a0 L0 c0) A0) := fun w' hb => HBY.out.2.below (Js3.out.2.1.trans (hb.mono Js3.out.2.1.size))
                  clear Js3 HCL HBY
                  generalize s3 = t0 at *
                  refine' take_at (i := 7) (d := 127) (v := _) rfl rfl (by kernel_rfl) (by kernel_rfl) (by kernel_rfl) (fun _ _ _ h => h) (Or.inl ⟨by rfl, ?h7⟩) (Jt0.out.2.1) ?_
                  case h7 =>
                    intro w hSw
                    go_simp
                    with_reducible rfl
                  simp only [List.setIfInBounds_toArray, List.set_cons_zero, List.set_cons_succ]
                  refine' take_at (i := 8) (d := 128) (v := _) rfl rfl (by kernel_rfl) (by kernel_rfl) (by kernel_rfl) (fun _ _ _ h => h) (Or.inl ⟨by rfl, ?h8⟩) (Jt0.out.2.1) ?_
                  case h8 =>
                    intro w hSw
                    go_simp
                    with_reducible rfl
                  simp only [List.setIfInBounds_toArray, List.set_cons_zero, List.set_cons_succ]
                  refine' take_at (i := 9) (d := 129) (v := _) rfl rfl (by kernel_rfl) (by kernel_rfl) (by kernel_rfl) (fun _ _ _ h => h) (Or.inl ⟨by rfl, ?h9⟩) (Jt0.out.2.1) ?_
                  case h9 =>
                    intro w hSw
                    go_simp
                    with_reducible rfl
                  simp only [List.setIfInBounds_toArray, List.set_cons_zero, List.set_cons_succ]
                  refine' take_at (i := 11) (d := 131) (v := _) rfl rfl (by kernel_rfl) (by kernel_rfl) (by kernel_rfl) (fun _ _ _ h => h) (Or.inl ⟨by rfl, ?h11⟩) (Jt0.out.2.1) ?_
                  case h11 =>
                    intro w hSw
                    go_simp
                    with_reducible rfl
                  simp only [List.setIfInBounds_toArray, List.set_cons_zero, List.set_cons_succ]
                  refine' take_at (i := 12) (d := 132) (v := _) rfl rfl (by kernel_rfl) (by kernel_rfl) (by kernel_rfl) (fun _ _ _ h => h) (Or.inl ⟨by rfl, ?h12⟩) (Jt0.out.2.1) ?_
                  case h12 =>
                    intro w hSw
                    go_simp
                    with_reducible rfl
                  simp only [List.setIfInBounds_toArray, List.set_cons_zero, List.set_cons_succ]
                  refine' take_at (i := 13) (d := 133) (v := _) rfl rfl (by kernel_rfl) (by kernel_rfl) (by kernel_rfl) (fun _ _ _ h => h) (Or.inl ⟨by rfl, ?h13⟩) (Jt0.out.2.1) ?_
                  case h13 =>
                    intro w hSw
                    go_simp
                    with_reducible rfl
                  simp only [List.setIfInBounds_toArray, List.set_cons_zero, List.set_cons_succ]
                  refine' take_at (i := 14) (d := 134) (v := _) rfl rfl (by kernel_rfl) (by kernel_rfl) (by kernel_rfl) (fun _ _ _ h => h) (Or.inl ⟨by rfl, ?h14⟩) (Jt0.out.2.1) ?_
                  case h14 =>
                    intro w hSw
                    obtain ⟨y1, y0⟩ := HCL3.out w hSw
                    go_simp
                    with_reducible rfl
                  simp only [List.setIfInBounds_toArray, List.set_cons_zero, List.set_cons_succ]
                  refine wpAnyH_ready (rs := [10]) (by kernel_rfl) (by simp) ?_
                  refine AllReadyH.cons (o := _) rfl (fun KQ hKQ => ?_) AllReadyH.nil
                  go_simp
                  refine (Jt0.out.1.one.version HS.out.1 zv HZV.out.1).mono ?_
                  rintro e t3 ⟨rfl, hM, hb⟩
                  have Jt3 : Hid (Bo16 LS LRb W t3 q5 r5 1099511627776 st st F5 G5 ∧ Below t0.heap.size t0 t3) := ⟨Jt0.out.1.later HS.out.1 LRb.lt LRb.keep hb, Jt0.out.2.1.trans (hb.mono Jt0.out.2.1.size)⟩
                  clear Jt0 hb hM
                  refine hKQ.out _ _ Jt3.out.2 (fun _ => ?_)
                  clear hKQ KQ
                  refine' take_at (i := 15) (d := 135) (v := _) rfl rfl (by kernel_rfl) (by kernel_rfl) (by kernel_rfl) (fun _ _ _ h => h) (Or.inl ⟨by rfl, ?h15⟩) (Jt3.out.2) ?_
                  case h15 =>
                    intro w hSw
                    go_simp
                    with_reducible rfl
                  simp only [List.setIfInBounds_toArray, List.set_cons_zero, List.set_cons_succ]
                  refine' take_at (i := 16) (d := 136) (v := _) rfl rfl (by kernel_rfl) (by kernel_rfl) (by kernel_rfl) (fun _ _ _ h => h) (Or.inl ⟨by rfl, ?h16⟩) (Jt3.out.2) ?_
                  case h16 =>
                    intro w hSw
                    go_simp
                    with_reducible rfl
                  simp only [List.setIfInBounds_toArray, List.set_cons_zero, List.set_cons_succ]
                  refine' take_at (i := 17) (d := 137) (v := _) rfl rfl (by kernel_rfl) (by kernel_rfl) (by kernel_rfl) (fun _ _ _ h => h) (Or.inl ⟨by rfl, ?h17⟩) (Jt3.out.2) ?_
                  case h17 =>
                    intro w hSw
                    go_simp
                    with_reducible rfl
                  simp only [List.setIfInBounds_toArray, List.set_cons_zero, List.set_cons_succ]
                  refine' take_at (i := 18) (d := 138) (v := _) rfl rfl (by kernel_rfl) (by kernel_rfl) (by kernel_rfl) (fun _ _ _ h => h) (Or.inl ⟨by rfl, ?h18⟩) (Jt3.out.2) ?_
                  case h18 =>
                    intro w hSw
                    go_simp
                    with_reducible rfl
                  simp only [List.setIfInBounds_toArray, List.set_cons_zero, List.set_cons_succ]
                  refine' take_at (i := 20) (d := 140) (v := _) rfl rfl (by kernel_rfl) (by kernel_rfl) (by kernel_rfl) (fun _ _ _ h => h) (Or.inl ⟨by rfl, ?h20⟩) (Jt3.out.2) ?_
                  case h20 =>
                    intro w hSw
                    go_simp
                    with_reducible rfl
                  simp only [List.setIfInBounds_toArray, List.set_cons_zero, List.set_cons_succ]
                  refine' take_at (i := 21) (d := 141) (v := _) rfl rfl (by kernel_rfl) (by kernel_rfl) (by kernel_rfl) (fun _ _ _ h => h) (Or.inl ⟨by rfl, ?h21⟩) (Jt3.out.2) ?_
                  case h21 =>
                    intro w hSw
                    go_simp
                    with_reducible rfl
                  simp only [List.setIfInBounds_toArray, List.set_cons_zero, List.set_cons_succ]
                  refine' take_at (i := 22) (d := 142) (v := _) rfl rfl (by kernel_rfl) (by kernel_rfl) (by kernel_rfl) (fun _ _ _ h => h) (Or.inl ⟨by rfl, ?h22⟩) (Jt3.out.2) ?_
                  case h22 =>
                    intro w hSw
                    go_simp
                    with_reducible rfl
                  simp only [List.setIfInBounds_toArray, List.set_cons_zero, List.set_cons_succ]
                  refine' take_at (i := 23) (d := 143) (v := _) rfl rfl (by kernel_rfl) (by kernel_rfl) (by kernel_rfl) (fun _ _ _ h => h) (Or.inl ⟨by rfl, ?h23⟩) (Jt3.out.2) ?_
                  case h23 =>
                    intro w hSw
                    obtain ⟨y1, y0⟩ := HCL3.out w hSw
                    go_simp
                    with_reducible rfl
                  simp only [List.setIfInBounds_toArray, List.set_cons_zero, List.set_cons_succ]
                  refine wpAnyH_ready (rs := [19]) (by kernel_rfl) (by simp) ?_
                  refine AllReadyH.cons (o := _) rfl (fun KQ hKQ => ?_) AllReadyH.nil
                  go_simp
                  refine (Jt3.out.1.one.shards HS.out.1 zn HZV.out.2).mono ?_
                  rintro e t4 ⟨rfl, hM, hb⟩
                  have Jt4 : Hid (Bo16 LS LRb W t4 q5 r5 1099511627776 st st F5 G5 ∧ Below t0.heap.size t0 t4) := ⟨Jt3.out.1.later HS.out.1 LRb.lt LRb.keep hb, Jt3.out.2.trans (hb.mono Jt3.out.2.size)⟩
                  clear Jt3 hb hM
                  refine hKQ.out _ _ Jt4.out.2 (fun _ => ?_)
                  clear hKQ KQ
                  refine' take_at (i := 24) (d := 144) (v := _) rfl rfl (by kernel_rfl) (by kernel_rfl) (by kernel_rfl) (fun _ _ _ h => h) (Or.inl ⟨by rfl, ?h24⟩) (Jt4.out.2) ?_
                  case h24 =>
                    intro w hSw
                    go_simp
                    with_reducible rfl
                  simp only [List.setIfInBounds_toArray, List.set_cons_zero, List.set_cons_succ]
                  refine' take_at (i := 25) (d := 145) (v := _) rfl rfl (by kernel_rfl) (by kernel_rfl) (by kernel_rfl) (fun _ _ _ h => h) (Or.inl ⟨by rfl, ?h25⟩) (Jt4.out.2) ?_
                  case h25 =>
                    intro w hSw
                    go_simp
                    with_reducible rfl
                  simp only [List.setIfInBounds_toArray, List.set_cons_zero, List.set_cons_succ]
                  refine' take_at (i := 26) (d := 146) (v := _) rfl rfl (by kernel_rfl) (by kernel_rfl) (by kernel_rfl) (fun _ _ _ h => h) (Or.inl ⟨by rfl, ?h26⟩) (Jt4.out.2) ?_
                  case h26 =>
                    intro w hSw
                    go_simp
                    with_reducible rfl
                  simp only [List.setIfInBounds_toArray, List.set_cons_zero, List.set_cons_succ]
                  refine wpAnyH_done (by kernel_rfl) ?_ _
                  go_wp2
                  go_roundw
                  case rel => exact ⟨0 + 1, by omega, by go_num, Jt4.out.1.one.below, HBY3.out _ Jt4.out.2⟩
                  case measure => simp [intOf]
              · have HP1 : Hid (Bs wr (.slice au M cu) bs ∧ bs.length ≤ 4000) := ⟨HU.out.1.below HW.out.1, HM5.out.1⟩
                have hix := (index_two16 a0 au L0 M c0 cu wr).2
                have HCY : Hid (Bs wr (.slice au M cu) bs ∧ bs.length ≤ 4000) := HP1.out
                cases hg : Tb.get bs with
                | none =>
                  have HGN : Hid (Tb.get bs = none) := hg
                  clear hg
                  go_wp2_with fail
                  refine (mine16_getno HS.out.1 _ bs wr (HS.out.2.1.below HW.out.1) HCY.out.1 HCY.out.2 HGN.out).mono ?_
                  rintro e s1 ⟨rfl, hb⟩
                  have J1 : Hid (Below W.heap.size W s1 ∧ Bs s1 (.slice au M cu) bs ∧ Bs s1 (.slice a0 L0 c0) A0) := ⟨HW.out.1.trans (hb.mono HW.out.1.size), HCY.out.1.below hb, HW.out.2.below hb⟩
                  clear hb
                  go_wp2_with fail
                  refine (refGet_walk16 _ bs s1 J1.out.2.1 HCY.out.2).mono ?_
                  intro e s2 hP
                  obtain ⟨hb2, hno, _⟩ := hP
                  obtain ⟨pv, rfl⟩ := hno HGN.out
                  have J2 : Hid (Below W.heap.size W s2 ∧ Bs s2 (.slice a0 L0 c0) A0) := ⟨J1.out.1.trans (hb2.mono J1.out.1.size), J1.out.2.2.below hb2⟩
                  clear hb2 hno J1
                  go_wp2
                  go_quiet (fail)
                  have J3 : Hid (Below W.heap.size W (s2.drewN nq) ∧ Bs (s2.drewN nq) (.slice a0 L0 c0) A0) := ⟨below_drewN J2.out.1 _, J2.out.2.below (below_drewN (Below.refl _ _) _)⟩
                  go_wp2
                  go_roundw
                  case rel => exact ⟨1 + 1, by omega, by go_num, J3.out.1, J3.out.2⟩
                  case measure => simp [intOf]
                | some st =>
                  have HGS : Hid (Tb.get bs = some st ∧ Tb.bytes st = bs) := ⟨hg, (Tb.get_inv hg).2⟩
                  clear hg
                  go_wp2_with fail
                  refine (mine16_get HS.out.1 HW.out.1 HS.out.2.1 _ bs HCY.out.1 HCY.out.2 st HGS.out.1).mono ?_
                  rintro e s1 ⟨q5, F5, rfl, hM1, hF5, hb⟩
                  have J1 : Hid (Mine16 LS W s1 q5 1099511627776 st F5 ∧ Bs s1 (.slice au M cu) bs ∧ Bs s1 (.slice a0 L0 c0) A0) := ⟨hM1, HCY.out.1.below hb, HW.out.2.below hb⟩
                  clear hb hM1 hF5
                  go_wp2_with fail
                  refine (refGet_walk16 _ bs s1 J1.out.2.1 HCY.out.2).mono ?_
                  intro e s2 hP
                  obtain ⟨hb2, _, hys⟩ := hP
                  obtain ⟨r5, G5, rfl, hR5, hG5⟩ := hys st HGS.out.1
                  have J2 : Hid (Bo16 LS LRb W s2 q5 r5 1099511627776 st st F5 G5 ∧ Bs s2 (.slice au M cu) bs ∧ Bs s2 (.slice a0 L0 c0) A0) := by
                    have h1 := J1.out.1.later HS.out.1 hb2
                    have hsz := J1.out.1.below.size
                    exact ⟨⟨h1, ⟨hR5, h1.fine, fun j hj => by have := hG5 j hj; omega, h1.below⟩, fun j hj e => by have := HS.out.1.lt J1.out.1.ld hj; have := hG5 j e; omega⟩, J1.out.2.1.below hb2, J1.out.2.2.below hb2⟩
                  clear hb2 hys hR5 hG5 J1
                  obtain ⟨Z, hZ⟩ : ∃ Z : ByteArray, Z = ⟨bs.toArray⟩ := ⟨_, rfl⟩
                  have HZZ : Hid (Z = ⟨bs.toArray⟩) := hZ
                  have hzz : (Z.toList == Z.toList) = true := by simp
                  have hzn : (Z.toList != Z.toList) = false := by simp
                  obtain ⟨zv, hzv⟩ : ∃ z, z = st.version := ⟨_, rfl⟩
                  obtain ⟨zn, hzn9⟩ : ∃ z, z = st.shards := ⟨_, rfl⟩
                  have HZV : Hid (st.version = zv ∧ st.shards = zn) := ⟨hzv.symm, hzn9.symm⟩
                  have hnn : (zv != zv) = false := by simp
                  have hss : (zn != zn) = false := by simp
                  clear hZ hzv hzn9
                  go_wp2
                  refine wp_region_held_drew (S := fun w' => Below s2.heap.size s2 w') (by kernel_rfl) (Below.refl _ _).drew (fun _ => ?_)
                  refine wpAnyH_more (S' := fun w' => Below s2.drew.heap.size s2.drew w') (fun w' h => below_drew h) _ _ _ _ ?_
                  have Js0 : Hid (Bo16 LS LRb W s2.drew q5 r5 1099511627776 st st F5 G5 ∧ Below s2.drew.heap.size s2.drew s2.drew) := ⟨J2.out.1.later HS.out.1 LRb.lt LRb.keep (Below.refl _ _).drew, Below.refl _ _⟩
                  have HCL : Hid (∀ w', Below s2.drew.heap.size s2.drew w' → w'.cell? ⟨r5, 1, none⟩ = some (.int .i64 zv) ∧ w'.cell? ⟨r5, 0, none⟩ = some (.int .i64 zn)) := by
                    have hR := Js0.out.1.two.ld
                    exact fun w' hb => by
                      obtain ⟨vr, hvr, _⟩ := hR
                      rw [← HZV.out.1, ← HZV.out.2]
                      exact ⟨(hvr.later hb).blk.cell 1, (hvr.later hb).blk.cell 0⟩
                  have HBY : Hid (Bs s2.drew (.slice au M cu) bs ∧ Bs s2.drew (.slice a0 L0 c0) A0) := ⟨J2.out.2.1.below (Below.refl _ _).drew, J2.out.2.2.below (Below.refl _ _).drew⟩
                  clear J2
                  generalize s2.drew = s0 at *
                  refine' take_at (i := 0) (d := 120) (v := _) rfl rfl (by kernel_rfl) (by kernel_rfl) (by kernel_rfl) (fun _ _ _ h => h) (Or.inl ⟨by rfl, ?h0⟩) (Js0.out.2) ?_
                  case h0 =>
                    intro w hSw
                    go_simp
                    with_reducible rfl
                  simp only [List.setIfInBounds_toArray, List.set_cons_zero, List.set_cons_succ]
                  refine' take_at (i := 1) (d := 121) (v := _) rfl rfl (by kernel_rfl) (by kernel_rfl) (by kernel_rfl) (fun _ _ _ h => h) (Or.inl ⟨by rfl, ?h1⟩) (Js0.out.2) ?_
                  case h1 =>
                    intro w hSw
                    go_simp
                    with_reducible rfl
                  simp only [List.setIfInBounds_toArray, List.set_cons_zero, List.set_cons_succ]
                  refine' take_at (i := 2) (d := 122) (v := _) rfl rfl (by kernel_rfl) (by kernel_rfl) (by kernel_rfl) (fun _ _ _ h => h) (Or.inl ⟨by rfl, ?h2⟩) (Js0.out.2) ?_
                  case h2 =>
                    intro w hSw
                    go_simp
                    with_reducible rfl
                  simp only [List.setIfInBounds_toArray, List.set_cons_zero, List.set_cons_succ]
                  refine' take_at (i := 5) (d := 125) (v := _) rfl rfl (by kernel_rfl) (by kernel_rfl) (by kernel_rfl) (fun _ _ _ h => h) (Or.inl ⟨by rfl, ?h5⟩) (Js0.out.2) ?_
                  case h5 =>
                    intro w hSw
                    go_simp
                    with_reducible rfl
                  simp only [List.setIfInBounds_toArray, List.set_cons_zero, List.set_cons_succ]
                  refine' take_at (i := 6) (d := 126) (v := _) rfl rfl (by kernel_rfl) (by kernel_rfl) (by kernel_rfl) (fun _ _ _ h => h) (Or.inl ⟨by rfl, ?h6⟩) (Js0.out.2) ?_
                  case h6 =>
                    intro w hSw
                    have hcv := (HBY.out.1.below hSw).conv
                    rw [← HZZ.out] at hcv
                    go_simp
                    with_reducible rfl
                  simp only [List.setIfInBounds_toArray, List.set_cons_zero, List.set_cons_succ]
                  refine wpAnyH_ready (rs := [3]) (by kernel_rfl) (by simp) ?_
                  refine AllReadyH.cons (o := _) rfl (fun KQ hKQ => ?_) AllReadyH.nil
                  go_simp
                  refine (Js0.out.1.one.put HS.out.1).mono ?_
                  rintro e s3 ⟨vp, rfl, hvp, hM, hb⟩
                  have Js3 : Hid (Bo16 LS LRb W s3 q5 r5 1099511627776 st st F5 G5 ∧ Below s0.heap.size s0 s3 ∧ Bs s3 vp bs) := ⟨Js0.out.1.later HS.out.1 LRb.lt LRb.keep hb, Js0.out.2.trans (hb.mono Js0.out.2.size), by have h := Bs.own hvp; rw [HGS.out.2] at h; exact h⟩
                  obtain ⟨ap3, cp3, hve3, _, _⟩ := row_form hvp
                  obtain ⟨LB3, hLB3⟩ : ∃ z, z = (Tb.bytes st).length := ⟨_, rfl⟩
                  rw [← hLB3] at hve3
                  subst hve3
                  clear hvp hM hLB3 Js0 hb
                  simp only []
                  refine hKQ.out _ _ Js3.out.2.1 (fun _ => ?_)
                  refine wpAnyH_more (S' := fun w' => Below s3.heap.size s3 w') (fun w' h => Js3.out.2.1.trans (h.mono Js3.out.2.1.size)) _ _ _ _ ?_
                  clear hKQ KQ
                  refine' take_at (i := 4) (d := 124) (v := _) rfl rfl (by kernel_rfl) (by kernel_rfl) (by kernel_rfl) (fun _ _ _ h => h) (Or.inl ⟨by rfl, ?h4⟩) (Below.refl _ _) ?_
                  case h4 =>
                    intro w hSw
                    have hcv := (Js3.out.2.2.below hSw).conv
                    rw [← HZZ.out] at hcv
                    go_simp
                    with_reducible rfl
                  simp only [List.setIfInBounds_toArray, List.set_cons_zero, List.set_cons_succ]
                  refine wpAnyH_more (S' := fun w' => Below s3.heap.size s3 w') (fun w' h => h) _ _ _ _ ?_
                  have Jt0 : Hid (Bo16 LS LRb W s3 q5 r5 1099511627776 st st F5 G5 ∧ Below s3.heap.size s3 s3 ∧ Below s0.heap.size s0 s3) := ⟨Js3.out.1, Below.refl _ _, Js3.out.2.1⟩
                  have HCL3 : Hid (∀ w', Below s3.heap.size s3 w' → w'.cell? ⟨r5, 1, none⟩ = some (.int .i64 zv) ∧ w'.cell? ⟨r5, 0, none⟩ = some (.int .i64 zn)) := fun w' hb => HCL.out w' (Js3.out.2.1.trans (hb.mono Js3.out.2.1.size))
                  have HBY3 : Hid (∀ w', Below s3.heap.size s3 w' → Bs w' (.slice a0 L0 c0) A0) := fun w' hb => HBY.out.2.below (Js3.out.2.1.trans (hb.mono Js3.out.2.1.size))
                  clear Js3 HCL HBY
                  generalize s3 = t0 at *
                  refine' take_at (i := 7) (d := 127) (v := _) rfl rfl (by kernel_rfl) (by kernel_rfl) (by kernel_rfl) (fun _ _ _ h => h) (Or.inl ⟨by rfl, ?h7⟩) (Jt0.out.2.1) ?_
                  case h7 =>
                    intro w hSw
                    go_simp
                    with_reducible rfl
                  simp only [List.setIfInBounds_toArray, List.set_cons_zero, List.set_cons_succ]
                  refine' take_at (i := 8) (d := 128) (v := _) rfl rfl (by kernel_rfl) (by kernel_rfl) (by kernel_rfl) (fun _ _ _ h => h) (Or.inl ⟨by rfl, ?h8⟩) (Jt0.out.2.1) ?_
                  case h8 =>
                    intro w hSw
                    go_simp
                    with_reducible rfl
                  simp only [List.setIfInBounds_toArray, List.set_cons_zero, List.set_cons_succ]
                  refine' take_at (i := 9) (d := 129) (v := _) rfl rfl (by kernel_rfl) (by kernel_rfl) (by kernel_rfl) (fun _ _ _ h => h) (Or.inl ⟨by rfl, ?h9⟩) (Jt0.out.2.1) ?_
                  case h9 =>
                    intro w hSw
                    go_simp
                    with_reducible rfl
                  simp only [List.setIfInBounds_toArray, List.set_cons_zero, List.set_cons_succ]
                  refine' take_at (i := 11) (d := 131) (v := _) rfl rfl (by kernel_rfl) (by kernel_rfl) (by kernel_rfl) (fun _ _ _ h => h) (Or.inl ⟨by rfl, ?h11⟩) (Jt0.out.2.1) ?_
                  case h11 =>
                    intro w hSw
                    go_simp
                    with_reducible rfl
                  simp only [List.setIfInBounds_toArray, List.set_cons_zero, List.set_cons_succ]
                  refine' take_at (i := 12) (d := 132) (v := _) rfl rfl (by kernel_rfl) (by kernel_rfl) (by kernel_rfl) (fun _ _ _ h => h) (Or.inl ⟨by rfl, ?h12⟩) (Jt0.out.2.1) ?_
                  case h12 =>
                    intro w hSw
                    go_simp
                    with_reducible rfl
                  simp only [List.setIfInBounds_toArray, List.set_cons_zero, List.set_cons_succ]
                  refine' take_at (i := 13) (d := 133) (v := _) rfl rfl (by kernel_rfl) (by kernel_rfl) (by kernel_rfl) (fun _ _ _ h => h) (Or.inl ⟨by rfl, ?h13⟩) (Jt0.out.2.1) ?_
                  case h13 =>
                    intro w hSw
                    go_simp
                    with_reducible rfl
                  simp only [List.setIfInBounds_toArray, List.set_cons_zero, List.set_cons_succ]
                  refine' take_at (i := 14) (d := 134) (v := _) rfl rfl (by kernel_rfl) (by kernel_rfl) (by kernel_rfl) (fun _ _ _ h => h) (Or.inl ⟨by rfl, ?h14⟩) (Jt0.out.2.1) ?_
                  case h14 =>
                    intro w hSw
                    obtain ⟨y1, y0⟩ := HCL3.out w hSw
                    go_simp
                    with_reducible rfl
                  simp only [List.setIfInBounds_toArray, List.set_cons_zero, List.set_cons_succ]
                  refine wpAnyH_ready (rs := [10]) (by kernel_rfl) (by simp) ?_
                  refine AllReadyH.cons (o := _) rfl (fun KQ hKQ => ?_) AllReadyH.nil
                  go_simp
                  refine (Jt0.out.1.one.version HS.out.1 zv HZV.out.1).mono ?_
                  rintro e t3 ⟨rfl, hM, hb⟩
                  have Jt3 : Hid (Bo16 LS LRb W t3 q5 r5 1099511627776 st st F5 G5 ∧ Below t0.heap.size t0 t3) := ⟨Jt0.out.1.later HS.out.1 LRb.lt LRb.keep hb, Jt0.out.2.1.trans (hb.mono Jt0.out.2.1.size)⟩
                  clear Jt0 hb hM
                  refine hKQ.out _ _ Jt3.out.2 (fun _ => ?_)
                  clear hKQ KQ
                  refine' take_at (i := 15) (d := 135) (v := _) rfl rfl (by kernel_rfl) (by kernel_rfl) (by kernel_rfl) (fun _ _ _ h => h) (Or.inl ⟨by rfl, ?h15⟩) (Jt3.out.2) ?_
                  case h15 =>
                    intro w hSw
                    go_simp
                    with_reducible rfl
                  simp only [List.setIfInBounds_toArray, List.set_cons_zero, List.set_cons_succ]
                  refine' take_at (i := 16) (d := 136) (v := _) rfl rfl (by kernel_rfl) (by kernel_rfl) (by kernel_rfl) (fun _ _ _ h => h) (Or.inl ⟨by rfl, ?h16⟩) (Jt3.out.2) ?_
                  case h16 =>
                    intro w hSw
                    go_simp
                    with_reducible rfl
                  simp only [List.setIfInBounds_toArray, List.set_cons_zero, List.set_cons_succ]
                  refine' take_at (i := 17) (d := 137) (v := _) rfl rfl (by kernel_rfl) (by kernel_rfl) (by kernel_rfl) (fun _ _ _ h => h) (Or.inl ⟨by rfl, ?h17⟩) (Jt3.out.2) ?_
                  case h17 =>
                    intro w hSw
                    go_simp
                    with_reducible rfl
                  simp only [List.setIfInBounds_toArray, List.set_cons_zero, List.set_cons_succ]
                  refine' take_at (i := 18) (d := 138) (v := _) rfl rfl (by kernel_rfl) (by kernel_rfl) (by kernel_rfl) (fun _ _ _ h => h) (Or.inl ⟨by rfl, ?h18⟩) (Jt3.out.2) ?_
                  case h18 =>
                    intro w hSw
                    go_simp
                    with_reducible rfl
                  simp only [List.setIfInBounds_toArray, List.set_cons_zero, List.set_cons_succ]
                  refine' take_at (i := 20) (d := 140) (v := _) rfl rfl (by kernel_rfl) (by kernel_rfl) (by kernel_rfl) (fun _ _ _ h => h) (Or.inl ⟨by rfl, ?h20⟩) (Jt3.out.2) ?_
                  case h20 =>
                    intro w hSw
                    go_simp
                    with_reducible rfl
                  simp only [List.setIfInBounds_toArray, List.set_cons_zero, List.set_cons_succ]
                  refine' take_at (i := 21) (d := 141) (v := _) rfl rfl (by kernel_rfl) (by kernel_rfl) (by kernel_rfl) (fun _ _ _ h => h) (Or.inl ⟨by rfl, ?h21⟩) (Jt3.out.2) ?_
                  case h21 =>
                    intro w hSw
                    go_simp
                    with_reducible rfl
                  simp only [List.setIfInBounds_toArray, List.set_cons_zero, List.set_cons_succ]
                  refine' take_at (i := 22) (d := 142) (v := _) rfl rfl (by kernel_rfl) (by kernel_rfl) (by kernel_rfl) (fun _ _ _ h => h) (Or.inl ⟨by rfl, ?h22⟩) (Jt3.out.2) ?_
                  case h22 =>
                    intro w hSw
                    go_simp
                    with_reducible rfl
                  simp only [List.setIfInBounds_toArray, List.set_cons_zero, List.set_cons_succ]
                  refine' take_at (i := 23) (d := 143) (v := _) rfl rfl (by kernel_rfl) (by kernel_rfl) (by kernel_rfl) (fun _ _ _ h => h) (Or.inl ⟨by rfl, ?h23⟩) (Jt3.out.2) ?_
                  case h23 =>
                    intro w hSw
                    obtain ⟨y1, y0⟩ := HCL3.out w hSw
                    go_simp
                    with_reducible rfl
                  simp only [List.setIfInBounds_toArray, List.set_cons_zero, List.set_cons_succ]
                  refine wpAnyH_ready (rs := [19]) (by kernel_rfl) (by simp) ?_
                  refine AllReadyH.cons (o := _) rfl (fun KQ hKQ => ?_) AllReadyH.nil
                  go_simp
                  refine (Jt3.out.1.one.shards HS.out.1 zn HZV.out.2).mono ?_
                  rintro e t4 ⟨rfl, hM, hb⟩
                  have Jt4 : Hid (Bo16 LS LRb W t4 q5 r5 1099511627776 st st F5 G5 ∧ Below t0.heap.size t0 t4) := ⟨Jt3.out.1.later HS.out.1 LRb.lt LRb.keep hb, Jt3.out.2.trans (hb.mono Jt3.out.2.size)⟩
                  clear Jt3 hb hM
                  refine hKQ.out _ _ Jt4.out.2 (fun _ => ?_)
                  clear hKQ KQ
                  refine' take_at (i := 24) (d := 144) (v := _) rfl rfl (by kernel_rfl) (by kernel_rfl) (by kernel_rfl) (fun _ _ _ h => h) (Or.inl ⟨by rfl, ?h24⟩) (Jt4.out.2) ?_
                  case h24 =>
                    intro w hSw
                    go_simp
                    with_reducible rfl
                  simp only [List.setIfInBounds_toArray, List.set_cons_zero, List.set_cons_succ]
                  refine' take_at (i := 25) (d := 145) (v := _) rfl rfl (by kernel_rfl) (by kernel_rfl) (by kernel_rfl) (fun _ _ _ h => h) (Or.inl ⟨by rfl, ?h25⟩) (Jt4.out.2) ?_
                  case h25 =>
                    intro w hSw
                    go_simp
                    with_reducible rfl
                  simp only [List.setIfInBounds_toArray, List.set_cons_zero, List.set_cons_succ]
                  refine' take_at (i := 26) (d := 146) (v := _) rfl rfl (by kernel_rfl) (by kernel_rfl) (by kernel_rfl) (fun _ _ _ h => h) (Or.inl ⟨by rfl, ?h26⟩) (Jt4.out.2) ?_
                  case h26 =>
                    intro w hSw
                    go_simp
                    with_reducible rfl
                  simp only [List.setIfInBounds_toArray, List.set_cons_zero, List.set_cons_succ]
                  refine wpAnyH_done (by kernel_rfl) ?_ _
                  go_wp2
                  go_roundw
                  case rel => exact ⟨1 + 1, by omega, by go_num, Jt4.out.1.one.below, HBY3.out _ Jt4.out.2⟩
                  case measure => simp [intOf]
            · obtain rfl : k2 = 2 := by omega
              go_wp2
              go_ret
              exact ⟨rfl, HW.out.1⟩
        · clear hp1 hp2
          go_wp2
          go_loopw [91] (fun i wx => ∃ k : Nat, k ≤ 2 ∧ i = .int .i64 (k : Int) ∧ Below W.heap.size W wx ∧ Bs wx (.slice a0 L0 c0) A0) (fun i _ => 2 - (intOf i).toNat)
          case atStart => exact ⟨0, by omega, rfl, HY.out.1, HY.out.2.1⟩
          case round =>
            obtain ⟨k2, hk2, rfl, hbw, hbs⟩ := hrel
            have HW : Hid (Below W.heap.size W wr ∧ Bs wr (.slice a0 L0 c0) A0) := ⟨hbw, hbs⟩
            clear hbw hbs
            by_cases h2 : k2 < 2
            · rcases (show k2 = 0 ∨ k2 = 1 by omega) with rfl | rfl
              · have HP0 : Hid (Bs wr (.slice a0 L0 c0) A0 ∧ A0.length ≤ 4000) := ⟨HW.out.2, HY.out.2.2⟩
                have hix := (index_two16 a0 au L0 M c0 cu wr).1
                have HCY : Hid (Bs wr (.slice a0 L0 c0) A0 ∧ A0.length ≤ 4000) := HP0.out
                cases hg : Tb.get A0 with
                | none =>
                  have HGN : Hid (Tb.get A0 = none) := hg
                  clear hg
                  go_wp2_with fail
                  refine (mine16_getno HS.out.1 _ A0 wr (HS.out.2.1.below HW.out.1) HCY.out.1 HCY.out.2 HGN.out).mono ?_
                  rintro e s1 ⟨rfl, hb⟩
                  have J1 : Hid (Below W.heap.size W s1 ∧ Bs s1 (.slice a0 L0 c0) A0 ∧ Bs s1 (.slice a0 L0 c0) A0) := ⟨HW.out.1.trans (hb.mono HW.out.1.size), HCY.out.1.below hb, HW.out.2.below hb⟩
                  clear hb
                  go_wp2_with fail
                  refine (refGet_walk16 _ A0 s1 J1.out.2.1 HCY.out.2).mono ?_
                  intro e s2 hP
                  obtain ⟨hb2, hno, _⟩ := hP
                  obtain ⟨pv, rfl⟩ := hno HGN.out
                  have J2 : Hid (Below W.heap.size W s2 ∧ Bs s2 (.slice a0 L0 c0) A0) := ⟨J1.out.1.trans (hb2.mono J1.out.1.size), J1.out.2.2.below hb2⟩
                  clear hb2 hno J1
                  go_wp2
                  go_quiet (fail)
                  have J3 : Hid (Below W.heap.size W (s2.drewN nq) ∧ Bs (s2.drewN nq) (.slice a0 L0 c0) A0) := ⟨below_drewN J2.out.1 _, J2.out.2.below (below_drewN (Below.refl _ _) _)⟩
                  go_wp2
                  go_roundw
                  case rel => exact ⟨0 + 1, by omega, by go_num, J3.out.1, J3.out.2⟩
                  case measure => simp [intOf]
                | some st =>
                  have HGS : Hid (Tb.get A0 = some st ∧ Tb.bytes st = A0) := ⟨hg, (Tb.get_inv hg).2⟩
                  clear hg
                  go_wp2_with fail
                  refine (mine16_get HS.out.1 HW.out.1 HS.out.2.1 _ A0 HCY.out.1 HCY.out.2 st HGS.out.1).mono ?_
                  rintro e s1 ⟨q5, F5, rfl, hM1, hF5, hb⟩
                  have J1 : Hid (Mine16 LS W s1 q5 1099511627776 st F5 ∧ Bs s1 (.slice a0 L0 c0) A0 ∧ Bs s1 (.slice a0 L0 c0) A0) := ⟨hM1, HCY.out.1.below hb, HW.out.2.below hb⟩
                  clear hb hM1 hF5
                  go_wp2_with fail
                  refine (refGet_walk16 _ A0 s1 J1.out.2.1 HCY.out.2).mono ?_
                  intro e s2 hP
                  obtain ⟨hb2, _, hys⟩ := hP
                  obtain ⟨r5, G5, rfl, hR5, hG5⟩ := hys st HGS.out.1
                  have J2 : Hid (Bo16 LS LRb W s2 q5 r5 1099511627776 st st F5 G5 ∧ Bs s2 (.slice a0 L0 c0) A0 ∧ Bs s2 (.slice a0 L0 c0) A0) := by
                    have h1 := J1.out.1.later HS.out.1 hb2
                    have hsz := J1.out.1.below.size
                    exact ⟨⟨h1, ⟨hR5, h1.fine, fun j hj => by have := hG5 j hj; omega, h1.below⟩, fun j hj e => by have := HS.out.1.lt J1.out.1.ld hj; have := hG5 j e; omega⟩, J1.out.2.1.below hb2, J1.out.2.2.below hb2⟩
                  clear hb2 hys hR5 hG5 J1
                  obtain ⟨Z, hZ⟩ : ∃ Z : ByteArray, Z = ⟨A0.toArray⟩ := ⟨_, rfl⟩
                  have HZZ : Hid (Z = ⟨A0.toArray⟩) := hZ
                  have hzz : (Z.toList == Z.toList) = true := by simp
                  have hzn : (Z.toList != Z.toList) = false := by simp
                  obtain ⟨zv, hzv⟩ : ∃ z, z = st.version := ⟨_, rfl⟩
                  obtain ⟨zn, hzn9⟩ : ∃ z, z = st.shards := ⟨_, rfl⟩
                  have HZV : Hid (st.version = zv ∧ st.shards = zn) := ⟨hzv.symm, hzn9.symm⟩
                  have hnn : (zv != zv) = false := by simp
                  have hss : (zn != zn) = false := by simp
                  clear hZ hzv hzn9
                  go_wp2
                  refine wp_region_held_drew (S := fun w' => Below s2.heap.size s2 w') (by kernel_rfl) (Below.refl _ _).drew (fun _ => ?_)
                  refine wpAnyH_more (S' := fun w' => Below s2.drew.heap.size s2.drew w') (fun w' h => below_drew h) _ _ _ _ ?_
                  have Js0 : Hid (Bo16 LS LRb W s2.drew q5 r5 1099511627776 st st F5 G5 ∧ Below s2.drew.heap.size s2.drew s2.drew) := ⟨J2.out.1.later HS.out.1 LRb.lt LRb.keep (Below.refl _ _).drew, Below.refl _ _⟩
                  have HCL : Hid (∀ w', Below s2.drew.heap.size s2.drew w' → w'.cell? ⟨r5, 1, none⟩ = some (.int .i64 zv) ∧ w'.cell? ⟨r5, 0, none⟩ = some (.int .i64 zn)) := by
                    have hR := Js0.out.1.two.ld
                    exact fun w' hb => by
                      obtain ⟨vr, hvr, _⟩ := hR
                      rw [← HZV.out.1, ← HZV.out.2]
                      exact ⟨(hvr.later hb).blk.cell 1, (hvr.later hb).blk.cell 0⟩
                  have HBY : Hid (Bs s2.drew (.slice a0 L0 c0) A0 ∧ Bs s2.drew (.slice a0 L0 c0) A0) := ⟨J2.out.2.1.below (Below.refl _ _).drew, J2.out.2.2.below (Below.refl _ _).drew⟩
                  clear J2
                  generalize s2.drew = s0 at *
                  refine' take_at (i := 0) (d := 120) (v := _) rfl rfl (by kernel_rfl) (by kernel_rfl) (by kernel_rfl) (fun _ _ _ h => h) (Or.inl ⟨by rfl, ?h0⟩) (Js0.out.2) ?_
                  case h0 =>
                    intro w hSw
                    go_simp
                    with_reducible rfl
                  simp only [List.setIfInBounds_toArray, List.set_cons_zero, List.set_cons_succ]
                  refine' take_at (i := 1) (d := 121) (v := _) rfl rfl (by kernel_rfl) (by kernel_rfl) (by kernel_rfl) (fun _ _ _ h => h) (Or.inl ⟨by rfl, ?h1⟩) (Js0.out.2) ?_
                  case h1 =>
                    intro w hSw
                    go_simp
                    with_reducible rfl
                  simp only [List.setIfInBounds_toArray, List.set_cons_zero, List.set_cons_succ]
                  refine' take_at (i := 2) (d := 122) (v := _) rfl rfl (by kernel_rfl) (by kernel_rfl) (by kernel_rfl) (fun _ _ _ h => h) (Or.inl ⟨by rfl, ?h2⟩) (Js0.out.2) ?_
                  case h2 =>
                    intro w hSw
                    go_simp
                    with_reducible rfl
                  simp only [List.setIfInBounds_toArray, List.set_cons_zero, List.set_cons_succ]
                  refine' take_at (i := 5) (d := 125) (v := _) rfl rfl (by kernel_rfl) (by kernel_rfl) (by kernel_rfl) (fun _ _ _ h => h) (Or.inl ⟨by rfl, ?h5⟩) (Js0.out.2) ?_
                  case h5 =>
                    intro w hSw
                    go_simp
                    with_reducible rfl
                  simp only [List.setIfInBounds_toArray, List.set_cons_zero, List.set_cons_succ]
                  refine' take_at (i := 6) (d := 126) (v := _) rfl rfl (by kernel_rfl) (by kernel_rfl) (by kernel_rfl) (fun _ _ _ h => h) (Or.inl ⟨by rfl, ?h6⟩) (Js0.out.2) ?_
                  case h6 =>
                    intro w hSw
                    have hcv := (HBY.out.1.below hSw).conv
                    rw [← HZZ.out] at hcv
                    go_simp
                    with_reducible rfl
                  simp only [List.setIfInBounds_toArray, List.set_cons_zero, List.set_cons_succ]
                  refine wpAnyH_ready (rs := [3]) (by kernel_rfl) (by simp) ?_
                  refine AllReadyH.cons (o := _) rfl (fun KQ hKQ => ?_) AllReadyH.nil
                  go_simp
                  refine (Js0.out.1.one.put HS.out.1).mono ?_
                  rintro e s3 ⟨vp, rfl, hvp, hM, hb⟩
                  have Js3 : Hid (Bo16 LS LRb W s3 q5 r5 1099511627776 st st F5 G5 ∧ Below s0.heap.size s0 s3 ∧ Bs s3 vp A0) := ⟨Js0.out.1.later HS.out.1 LRb.lt LRb.keep hb, Js0.out.2.trans (hb.mono Js0.out.2.size), by have h := Bs.own hvp; rw [HGS.out.2] at h; exact h⟩
                  obtain ⟨ap3, cp3, hve3, _, _⟩ := row_form hvp
                  obtain ⟨LB3, hLB3⟩ : ∃ z, z = (Tb.bytes st).length := ⟨_, rfl⟩
                  rw [← hLB3] at hve3
                  subst hve3
                  clear hvp hM hLB3 Js0 hb
                  simp only []
                  refine hKQ.out _ _ Js3.out.2.1 (fun _ => ?_)
                  refine wpAnyH_more (S' := fun w' => Below s3.heap.size s3 w') (fun w' h => Js3.out.2.1.trans (h.mono Js3.out.2.1.size)) _ _ _ _ ?_
                  clear hKQ KQ
                  refine' take_at (i := 4) (d := 124) (v := _) rfl rfl (by kernel_rfl) (by kernel_rfl) (by kernel_rfl) (fun _ _ _ h => h) (Or.inl ⟨by rfl, ?h4⟩) (Below.refl _ _) ?_
                  case h4 =>
                    intro w hSw
                    have hcv := (Js3.out.2.2.below hSw).conv
                    rw [← HZZ.out] at hcv
                    go_simp
                    with_reducible rfl
                  simp only [List.setIfInBounds_toArray, List.set_cons_zero, List.set_cons_succ]
                  refine wpAnyH_more (S' := fun w' => Below s3.heap.size s3 w') (fun w' h => h) _ _ _ _ ?_
                  have Jt0 : Hid (Bo16 LS LRb W s3 q5 r5 1099511627776 st st F5 G5 ∧ Below s3.heap.size s3 s3 ∧ Below s0.heap.size s0 s3) := ⟨Js3.out.1, Below.refl _ _, Js3.out.2.1⟩
                  have HCL3 : Hid (∀ w', Below s3.heap.size s3 w' → w'.cell? ⟨r5, 1, none⟩ = some (.int .i64 zv) ∧ w'.cell? ⟨r5, 0, none⟩ = some (.int .i64 zn)) := fun w' hb => HCL.out w' (Js3.out.2.1.trans (hb.mono Js3.out.2.1.size))
                  have HBY3 : Hid (∀ w', Below s3.heap.size s3 w' → Bs w' (.slice a0 L0 c0) A0) := fun w' hb => HBY.out.2.below (Js3.out.2.1.trans (hb.mono Js3.out.2.1.size))
                  clear Js3 HCL HBY
                  generalize s3 = t0 at *
                  refine' take_at (i := 7) (d := 127) (v := _) rfl rfl (by kernel_rfl) (by kernel_rfl) (by kernel_rfl) (fun _ _ _ h => h) (Or.inl ⟨by rfl, ?h7⟩) (Jt0.out.2.1) ?_
                  case h7 =>
                    intro w hSw
                    go_simp
                    with_reducible rfl
                  simp only [List.setIfInBounds_toArray, List.set_cons_zero, List.set_cons_succ]
                  refine' take_at (i := 8) (d := 128) (v := _) rfl rfl (by kernel_rfl) (by kernel_rfl) (by kernel_rfl) (fun _ _ _ h => h) (Or.inl ⟨by rfl, ?h8⟩) (Jt0.out.2.1) ?_
                  case h8 =>
                    intro w hSw
                    go_simp
                    with_reducible rfl
                  simp only [List.setIfInBounds_toArray, List.set_cons_zero, List.set_cons_succ]
                  refine' take_at (i := 9) (d := 129) (v := _) rfl rfl (by kernel_rfl) (by kernel_rfl) (by kernel_rfl) (fun _ _ _ h => h) (Or.inl ⟨by rfl, ?h9⟩) (Jt0.out.2.1) ?_
                  case h9 =>
                    intro w hSw
                    go_simp
                    with_reducible rfl
                  simp only [List.setIfInBounds_toArray, List.set_cons_zero, List.set_cons_succ]
                  refine' take_at (i := 11) (d := 131) (v := _) rfl rfl (by kernel_rfl) (by kernel_rfl) (by kernel_rfl) (fun _ _ _ h => h) (Or.inl ⟨by rfl, ?h11⟩) (Jt0.out.2.1) ?_
                  case h11 =>
                    intro w hSw
                    go_simp
                    with_reducible rfl
                  simp only [List.setIfInBounds_toArray, List.set_cons_zero, List.set_cons_succ]
                  refine' take_at (i := 12) (d := 132) (v := _) rfl rfl (by kernel_rfl) (by kernel_rfl) (by kernel_rfl) (fun _ _ _ h => h) (Or.inl ⟨by rfl, ?h12⟩) (Jt0.out.2.1) ?_
                  case h12 =>
                    intro w hSw
                    go_simp
                    with_reducible rfl
                  simp only [List.setIfInBounds_toArray, List.set_cons_zero, List.set_cons_succ]
                  refine' take_at (i := 13) (d := 133) (v := _) rfl rfl (by kernel_rfl) (by kernel_rfl) (by kernel_rfl) (fun _ _ _ h => h) (Or.inl ⟨by rfl, ?h13⟩) (Jt0.out.2.1) ?_
                  case h13 =>
                    intro w hSw
                    go_simp
                    with_reducible rfl
                  simp only [List.setIfInBounds_toArray, List.set_cons_zero, List.set_cons_succ]
                  refine' take_at (i := 14) (d := 134) (v := _) rfl rfl (by kernel_rfl) (by kernel_rfl) (by kernel_rfl) (fun _ _ _ h => h) (Or.inl ⟨by rfl, ?h14⟩) (Jt0.out.2.1) ?_
                  case h14 =>
                    intro w hSw
                    obtain ⟨y1, y0⟩ := HCL3.out w hSw
                    go_simp
                    with_reducible rfl
                  simp only [List.setIfInBounds_toArray, List.set_cons_zero, List.set_cons_succ]
                  refine wpAnyH_ready (rs := [10]) (by kernel_rfl) (by simp) ?_
                  refine AllReadyH.cons (o := _) rfl (fun KQ hKQ => ?_) AllReadyH.nil
                  go_simp
                  refine (Jt0.out.1.one.version HS.out.1 zv HZV.out.1).mono ?_
                  rintro e t3 ⟨rfl, hM, hb⟩
                  have Jt3 : Hid (Bo16 LS LRb W t3 q5 r5 1099511627776 st st F5 G5 ∧ Below t0.heap.size t0 t3) := ⟨Jt0.out.1.later HS.out.1 LRb.lt LRb.keep hb, Jt0.out.2.1.trans (hb.mono Jt0.out.2.1.size)⟩
                  clear Jt0 hb hM
                  refine hKQ.out _ _ Jt3.out.2 (fun _ => ?_)
                  clear hKQ KQ
                  refine' take_at (i := 15) (d := 135) (v := _) rfl rfl (by kernel_rfl) (by kernel_rfl) (by kernel_rfl) (fun _ _ _ h => h) (Or.inl ⟨by rfl, ?h15⟩) (Jt3.out.2) ?_
                  case h15 =>
                    intro w hSw
                    go_simp
                    with_reducible rfl
                  simp only [List.setIfInBounds_toArray, List.set_cons_zero, List.set_cons_succ]
                  refine' take_at (i := 16) (d := 136) (v := _) rfl rfl (by kernel_rfl) (by kernel_rfl) (by kernel_rfl) (fun _ _ _ h => h) (Or.inl ⟨by rfl, ?h16⟩) (Jt3.out.2) ?_
                  case h16 =>
                    intro w hSw
                    go_simp
                    with_reducible rfl
                  simp only [List.setIfInBounds_toArray, List.set_cons_zero, List.set_cons_succ]
                  refine' take_at (i := 17) (d := 137) (v := _) rfl rfl (by kernel_rfl) (by kernel_rfl) (by kernel_rfl) (fun _ _ _ h => h) (Or.inl ⟨by rfl, ?h17⟩) (Jt3.out.2) ?_
                  case h17 =>
                    intro w hSw
                    go_simp
                    with_reducible rfl
                  simp only [List.setIfInBounds_toArray, List.set_cons_zero, List.set_cons_succ]
                  refine' take_at (i := 18) (d := 138) (v := _) rfl rfl (by kernel_rfl) (by kernel_rfl) (by kernel_rfl) (fun _ _ _ h => h) (Or.inl ⟨by rfl, ?h18⟩) (Jt3.out.2) ?_
                  case h18 =>
                    intro w hSw
                    go_simp
                    with_reducible rfl
                  simp only [List.setIfInBounds_toArray, List.set_cons_zero, List.set_cons_succ]
                  refine' take_at (i := 20) (d := 140) (v := _) rfl rfl (by kernel_rfl) (by kernel_rfl) (by kernel_rfl) (fun _ _ _ h => h) (Or.inl ⟨by rfl, ?h20⟩) (Jt3.out.2) ?_
                  case h20 =>
                    intro w hSw
                    go_simp
                    with_reducible rfl
                  simp only [List.setIfInBounds_toArray, List.set_cons_zero, List.set_cons_succ]
                  refine' take_at (i := 21) (d := 141) (v := _) rfl rfl (by kernel_rfl) (by kernel_rfl) (by kernel_rfl) (fun _ _ _ h => h) (Or.inl ⟨by rfl, ?h21⟩) (Jt3.out.2) ?_
                  case h21 =>
                    intro w hSw
                    go_simp
                    with_reducible rfl
                  simp only [List.setIfInBounds_toArray, List.set_cons_zero, List.set_cons_succ]
                  refine' take_at (i := 22) (d := 142) (v := _) rfl rfl (by kernel_rfl) (by kernel_rfl) (by kernel_rfl) (fun _ _ _ h => h) (Or.inl ⟨by rfl, ?h22⟩) (Jt3.out.2) ?_
                  case h22 =>
                    intro w hSw
                    go_simp
                    with_reducible rfl
                  simp only [List.setIfInBounds_toArray, List.set_cons_zero, List.set_cons_succ]
                  refine' take_at (i := 23) (d := 143) (v := _) rfl rfl (by kernel_rfl) (by kernel_rfl) (by kernel_rfl) (fun _ _ _ h => h) (Or.inl ⟨by rfl, ?h23⟩) (Jt3.out.2) ?_
                  case h23 =>
                    intro w hSw
                    obtain ⟨y1, y0⟩ := HCL3.out w hSw
                    go_simp
                    with_reducible rfl
                  simp only [List.setIfInBounds_toArray, List.set_cons_zero, List.set_cons_succ]
                  refine wpAnyH_ready (rs := [19]) (by kernel_rfl) (by simp) ?_
                  refine AllReadyH.cons (o := _) rfl (fun KQ hKQ => ?_) AllReadyH.nil
                  go_simp
                  refine (Jt3.out.1.one.shards HS.out.1 zn HZV.out.2).mono ?_
                  rintro e t4 ⟨rfl, hM, hb⟩
                  have Jt4 : Hid (Bo16 LS LRb W t4 q5 r5 1099511627776 st st F5 G5 ∧ Below t0.heap.size t0 t4) := ⟨Jt3.out.1.later HS.out.1 LRb.lt LRb.keep hb, Jt3.out.2.trans (hb.mono Jt3.out.2.size)⟩
                  clear Jt3 hb hM
                  refine hKQ.out _ _ Jt4.out.2 (fun _ => ?_)
                  clear hKQ KQ
                  refine' take_at (i := 24) (d := 144) (v := _) rfl rfl (by kernel_rfl) (by kernel_rfl) (by kernel_rfl) (fun _ _ _ h => h) (Or.inl ⟨by rfl, ?h24⟩) (Jt4.out.2) ?_
                  case h24 =>
                    intro w hSw
                    go_simp
                    with_reducible rfl
                  simp only [List.setIfInBounds_toArray, List.set_cons_zero, List.set_cons_succ]
                  refine' take_at (i := 25) (d := 145) (v := _) rfl rfl (by kernel_rfl) (by kernel_rfl) (by kernel_rfl) (fun _ _ _ h => h) (Or.inl ⟨by rfl, ?h25⟩) (Jt4.out.2) ?_
                  case h25 =>
                    intro w hSw
                    go_simp
                    with_reducible rfl
                  simp only [List.setIfInBounds_toArray, List.set_cons_zero, List.set_cons_succ]
                  refine' take_at (i := 26) (d := 146) (v := _) rfl rfl (by kernel_rfl) (by kernel_rfl) (by kernel_rfl) (fun _ _ _ h => h) (Or.inl ⟨by rfl, ?h26⟩) (Jt4.out.2) ?_
                  case h26 =>
                    intro w hSw
                    go_simp
                    with_reducible rfl
                  simp only [List.setIfInBounds_toArray, List.set_cons_zero, List.set_cons_succ]
                  refine wpAnyH_done (by kernel_rfl) ?_ _
                  go_wp2
                  go_roundw
                  case rel => exact ⟨0 + 1, by omega, by go_num, Jt4.out.1.one.below, HBY3.out _ Jt4.out.2⟩
                  case measure => simp [intOf]
              · have HP1 : Hid (Bs wr (.slice au M cu) bs ∧ bs.length ≤ 4000) := ⟨HU.out.1.below HW.out.1, HM5.out.1⟩
                have hix := (index_two16 a0 au L0 M c0 cu wr).2
                have HCY : Hid (Bs wr (.slice au M cu) bs ∧ bs.length ≤ 4000) := HP1.out
                cases hg : Tb.get bs with
                | none =>
                  have HGN : Hid (Tb.get bs = none) := hg
                  clear hg
                  go_wp2_with fail
                  refine (mine16_getno HS.out.1 _ bs wr (HS.out.2.1.below HW.out.1) HCY.out.1 HCY.out.2 HGN.out).mono ?_
                  rintro e s1 ⟨rfl, hb⟩
                  have J1 : Hid (Below W.heap.size W s1 ∧ Bs s1 (.slice au M cu) bs ∧ Bs s1 (.slice a0 L0 c0) A0) := ⟨HW.out.1.trans (hb.mono HW.out.1.size), HCY.out.1.below hb, HW.out.2.below hb⟩
                  clear hb
                  go_wp2_with fail
                  refine (refGet_walk16 _ bs s1 J1.out.2.1 HCY.out.2).mono ?_
                  intro e s2 hP
                  obtain ⟨hb2, hno, _⟩ := hP
                  obtain ⟨pv, rfl⟩ := hno HGN.out
                  have J2 : Hid (Below W.heap.size W s2 ∧ Bs s2 (.slice a0 L0 c0) A0) := ⟨J1.out.1.trans (hb2.mono J1.out.1.size), J1.out.2.2.below hb2⟩
                  clear hb2 hno J1
                  go_wp2
                  go_quiet (fail)
                  have J3 : Hid (Below W.heap.size W (s2.drewN nq) ∧ Bs (s2.drewN nq) (.slice a0 L0 c0) A0) := ⟨below_drewN J2.out.1 _, J2.out.2.below (below_drewN (Below.refl _ _) _)⟩
                  go_wp2
                  go_roundw
                  case rel => exact ⟨1 + 1, by omega, by go_num, J3.out.1, J3.out.2⟩
                  case measure => simp [intOf]
                | some st =>
                  have HGS : Hid (Tb.get bs = some st ∧ Tb.bytes st = bs) := ⟨hg, (Tb.get_inv hg).2⟩
                  clear hg
                  go_wp2_with fail
                  refine (mine16_get HS.out.1 HW.out.1 HS.out.2.1 _ bs HCY.out.1 HCY.out.2 st HGS.out.1).mono ?_
                  rintro e s1 ⟨q5, F5, rfl, hM1, hF5, hb⟩
                  have J1 : Hid (Mine16 LS W s1 q5 1099511627776 st F5 ∧ Bs s1 (.slice au M cu) bs ∧ Bs s1 (.slice a0 L0 c0) A0) := ⟨hM1, HCY.out.1.below hb, HW.out.2.below hb⟩
                  clear hb hM1 hF5
                  go_wp2_with fail
                  refine (refGet_walk16 _ bs s1 J1.out.2.1 HCY.out.2).mono ?_
                  intro e s2 hP
                  obtain ⟨hb2, _, hys⟩ := hP
                  obtain ⟨r5, G5, rfl, hR5, hG5⟩ := hys st HGS.out.1
                  have J2 : Hid (Bo16 LS LRb W s2 q5 r5 1099511627776 st st F5 G5 ∧ Bs s2 (.slice au M cu) bs ∧ Bs s2 (.slice a0 L0 c0) A0) := by
                    have h1 := J1.out.1.later HS.out.1 hb2
                    have hsz := J1.out.1.below.size
                    exact ⟨⟨h1, ⟨hR5, h1.fine, fun j hj => by have := hG5 j hj; omega, h1.below⟩, fun j hj e => by have := HS.out.1.lt J1.out.1.ld hj; have := hG5 j e; omega⟩, J1.out.2.1.below hb2, J1.out.2.2.below hb2⟩
                  clear hb2 hys hR5 hG5 J1
                  obtain ⟨Z, hZ⟩ : ∃ Z : ByteArray, Z = ⟨bs.toArray⟩ := ⟨_, rfl⟩
                  have HZZ : Hid (Z = ⟨bs.toArray⟩) := hZ
                  have hzz : (Z.toList == Z.toList) = true := by simp
                  have hzn : (Z.toList != Z.toList) = false := by simp
                  obtain ⟨zv, hzv⟩ : ∃ z, z = st.version := ⟨_, rfl⟩
                  obtain ⟨zn, hzn9⟩ : ∃ z, z = st.shards := ⟨_, rfl⟩
                  have HZV : Hid (st.version = zv ∧ st.shards = zn) := ⟨hzv.symm, hzn9.symm⟩
                  have hnn : (zv != zv) = false := by simp
                  have hss : (zn != zn) = false := by simp
                  clear hZ hzv hzn9
                  go_wp2
                  refine wp_region_held_drew (S := fun w' => Below s2.heap.size s2 w') (by kernel_rfl) (Below.refl _ _).drew (fun _ => ?_)
                  refine wpAnyH_more (S' := fun w' => Below s2.drew.heap.size s2.drew w') (fun w' h => below_drew h) _ _ _ _ ?_
                  have Js0 : Hid (Bo16 LS LRb W s2.drew q5 r5 1099511627776 st st F5 G5 ∧ Below s2.drew.heap.size s2.drew s2.drew) := ⟨J2.out.1.later HS.out.1 LRb.lt LRb.keep (Below.refl _ _).drew, Below.refl _ _⟩
                  have HCL : Hid (∀ w', Below s2.drew.heap.size s2.drew w' → w'.cell? ⟨r5, 1, none⟩ = some (.int .i64 zv) ∧ w'.cell? ⟨r5, 0, none⟩ = some (.int .i64 zn)) := by
                    have hR := Js0.out.1.two.ld
                    exact fun w' hb => by
                      obtain ⟨vr, hvr, _⟩ := hR
                      rw [← HZV.out.1, ← HZV.out.2]
                      exact ⟨(hvr.later hb).blk.cell 1, (hvr.later hb).blk.cell 0⟩
                  have HBY : Hid (Bs s2.drew (.slice au M cu) bs ∧ Bs s2.drew (.slice a0 L0 c0) A0) := ⟨J2.out.2.1.below (Below.refl _ _).drew, J2.out.2.2.below (Below.refl _ _).drew⟩
                  clear J2
                  generalize s2.drew = s0 at *
                  refine' take_at (i := 0) (d := 120) (v := _) rfl rfl (by kernel_rfl) (by kernel_rfl) (by kernel_rfl) (fun _ _ _ h => h) (Or.inl ⟨by rfl, ?h0⟩) (Js0.out.2) ?_
                  case h0 =>
                    intro w hSw
                    go_simp
                    with_reducible rfl
                  simp only [List.setIfInBounds_toArray, List.set_cons_zero, List.set_cons_succ]
                  refine' take_at (i := 1) (d := 121) (v := _) rfl rfl (by kernel_rfl) (by kernel_rfl) (by kernel_rfl) (fun _ _ _ h => h) (Or.inl ⟨by rfl, ?h1⟩) (Js0.out.2) ?_
                  case h1 =>
                    intro w hSw
                    go_simp
                    with_reducible rfl
                  simp only [List.setIfInBounds_toArray, List.set_cons_zero, List.set_cons_succ]
                  refine' take_at (i := 2) (d := 122) (v := _) rfl rfl (by kernel_rfl) (by kernel_rfl) (by kernel_rfl) (fun _ _ _ h => h) (Or.inl ⟨by rfl, ?h2⟩) (Js0.out.2) ?_
                  case h2 =>
                    intro w hSw
                    go_simp
                    with_reducible rfl
                  simp only [List.setIfInBounds_toArray, List.set_cons_zero, List.set_cons_succ]
                  refine' take_at (i := 5) (d := 125) (v := _) rfl rfl (by kernel_rfl) (by kernel_rfl) (by kernel_rfl) (fun _ _ _ h => h) (Or.inl ⟨by rfl, ?h5⟩) (Js0.out.2) ?_
                  case h5 =>
                    intro w hSw
                    go_simp
                    with_reducible rfl
                  simp only [List.setIfInBounds_toArray, List.set_cons_zero, List.set_cons_succ]
                  refine' take_at (i := 6) (d := 126) (v := _) rfl rfl (by kernel_rfl) (by kernel_rfl) (by kernel_rfl) (fun _ _ _ h => h) (Or.inl ⟨by rfl, ?h6⟩) (Js0.out.2) ?_
                  case h6 =>
                    intro w hSw
                    have hcv := (HBY.out.1.below hSw).conv
                    rw [← HZZ.out] at hcv
                    go_simp
                    with_reducible rfl
                  simp only [List.setIfInBounds_toArray, List.set_cons_zero, List.set_cons_succ]
                  refine wpAnyH_ready (rs := [3]) (by kernel_rfl) (by simp) ?_
                  refine AllReadyH.cons (o := _) rfl (fun KQ hKQ => ?_) AllReadyH.nil
                  go_simp
                  refine (Js0.out.1.one.put HS.out.1).mono ?_
                  rintro e s3 ⟨vp, rfl, hvp, hM, hb⟩
                  have Js3 : Hid (Bo16 LS LRb W s3 q5 r5 1099511627776 st st F5 G5 ∧ Below s0.heap.size s0 s3 ∧ Bs s3 vp bs) := ⟨Js0.out.1.later HS.out.1 LRb.lt LRb.keep hb, Js0.out.2.trans (hb.mono Js0.out.2.size), by have h := Bs.own hvp; rw [HGS.out.2] at h; exact h⟩
                  obtain ⟨ap3, cp3, hve3, _, _⟩ := row_form hvp
                  obtain ⟨LB3, hLB3⟩ : ∃ z, z = (Tb.bytes st).length := ⟨_, rfl⟩
                  rw [← hLB3] at hve3
                  subst hve3
                  clear hvp hM hLB3 Js0 hb
                  simp only []
                  refine hKQ.out _ _ Js3.out.2.1 (fun _ => ?_)
                  refine wpAnyH_more (S' := fun w' => Below s3.heap.size s3 w') (fun w' h => Js3.out.2.1.trans (h.mono Js3.out.2.1.size)) _ _ _ _ ?_
                  clear hKQ KQ
                  refine' take_at (i := 4) (d := 124) (v := _) rfl rfl (by kernel_rfl) (by kernel_rfl) (by kernel_rfl) (fun _ _ _ h => h) (Or.inl ⟨by rfl, ?h4⟩) (Below.refl _ _) ?_
                  case h4 =>
                    intro w hSw
                    have hcv := (Js3.out.2.2.below hSw).conv
                    rw [← HZZ.out] at hcv
                    go_simp
                    with_reducible rfl
                  simp only [List.setIfInBounds_toArray, List.set_cons_zero, List.set_cons_succ]
                  refine wpAnyH_more (S' := fun w' => Below s3.heap.size s3 w') (fun w' h => h) _ _ _ _ ?_
                  have Jt0 : Hid (Bo16 LS LRb W s3 q5 r5 1099511627776 st st F5 G5 ∧ Below s3.heap.size s3 s3 ∧ Below s0.heap.size s0 s3) := ⟨Js3.out.1, Below.refl _ _, Js3.out.2.1⟩
                  have HCL3 : Hid (∀ w', Below s3.heap.size s3 w' → w'.cell? ⟨r5, 1, none⟩ = some (.int .i64 zv) ∧ w'.cell? ⟨r5, 0, none⟩ = some (.int .i64 zn)) := fun w' hb => HCL.out w' (Js3.out.2.1.trans (hb.mono Js3.out.2.1.size))
                  have HBY3 : Hid (∀ w', Below s3.heap.size s3 w' → Bs w' (.slice a0 L0 c0) A0) := fun w' hb => HBY.out.2.below (Js3.out.2.1.trans (hb.mono Js3.out.2.1.size))
                  clear Js3 HCL HBY
                  generalize s3 = t0 at *
                  refine' take_at (i := 7) (d := 127) (v := _) rfl rfl (by kernel_rfl) (by kernel_rfl) (by kernel_rfl) (fun _ _ _ h => h) (Or.inl ⟨by rfl, ?h7⟩) (Jt0.out.2.1) ?_
                  case h7 =>
                    intro w hSw
                    go_simp
                    with_reducible rfl
                  simp only [List.setIfInBounds_toArray, List.set_cons_zero, List.set_cons_succ]
                  refine' take_at (i := 8) (d := 128) (v := _) rfl rfl (by kernel_rfl) (by kernel_rfl) (by kernel_rfl) (fun _ _ _ h => h) (Or.inl ⟨by rfl, ?h8⟩) (Jt0.out.2.1) ?_
                  case h8 =>
                    intro w hSw
                    go_simp
                    with_reducible rfl
                  simp only [List.setIfInBounds_toArray, List.set_cons_zero, List.set_cons_succ]
                  refine' take_at (i := 9) (d := 129) (v := _) rfl rfl (by kernel_rfl) (by kernel_rfl) (by kernel_rfl) (fun _ _ _ h => h) (Or.inl ⟨by rfl, ?h9⟩) (Jt0.out.2.1) ?_
                  case h9 =>
                    intro w hSw
                    go_simp
                    with_reducible rfl
                  simp only [List.setIfInBounds_toArray, List.set_cons_zero, List.set_cons_succ]
                  refine' take_at (i := 11) (d := 131) (v := _) rfl rfl (by kernel_rfl) (by kernel_rfl) (by kernel_rfl) (fun _ _ _ h => h) (Or.inl ⟨by rfl, ?h11⟩) (Jt0.out.2.1) ?_
                  case h11 =>
                    intro w hSw
                    go_simp
                    with_reducible rfl
                  simp only [List.setIfInBounds_toArray, List.set_cons_zero, List.set_cons_succ]
                  refine' take_at (i := 12) (d := 132) (v := _) rfl rfl (by kernel_rfl) (by kernel_rfl) (by kernel_rfl) (fun _ _ _ h => h) (Or.inl ⟨by rfl, ?h12⟩) (Jt0.out.2.1) ?_
                  case h12 =>
                    intro w hSw
                    go_simp
                    with_reducible rfl
                  simp only [List.setIfInBounds_toArray, List.set_cons_zero, List.set_cons_succ]
                  refine' take_at (i := 13) (d := 133) (v := _) rfl rfl (by kernel_rfl) (by kernel_rfl) (by kernel_rfl) (fun _ _ _ h => h) (Or.inl ⟨by rfl, ?h13⟩) (Jt0.out.2.1) ?_
                  case h13 =>
                    intro w hSw
                    go_simp
                    with_reducible rfl
                  simp only [List.setIfInBounds_toArray, List.set_cons_zero, List.set_cons_succ]
                  refine' take_at (i := 14) (d := 134) (v := _) rfl rfl (by kernel_rfl) (by kernel_rfl) (by kernel_rfl) (fun _ _ _ h => h) (Or.inl ⟨by rfl, ?h14⟩) (Jt0.out.2.1) ?_
                  case h14 =>
                    intro w hSw
                    obtain ⟨y1, y0⟩ := HCL3.out w hSw
                    go_simp
                    with_reducible rfl
                  simp only [List.setIfInBounds_toArray, List.set_cons_zero, List.set_cons_succ]
                  refine wpAnyH_ready (rs := [10]) (by kernel_rfl) (by simp) ?_
                  refine AllReadyH.cons (o := _) rfl (fun KQ hKQ => ?_) AllReadyH.nil
                  go_simp
                  refine (Jt0.out.1.one.version HS.out.1 zv HZV.out.1).mono ?_
                  rintro e t3 ⟨rfl, hM, hb⟩
                  have Jt3 : Hid (Bo16 LS LRb W t3 q5 r5 1099511627776 st st F5 G5 ∧ Below t0.heap.size t0 t3) := ⟨Jt0.out.1.later HS.out.1 LRb.lt LRb.keep hb, Jt0.out.2.1.trans (hb.mono Jt0.out.2.1.size)⟩
                  clear Jt0 hb hM
                  refine hKQ.out _ _ Jt3.out.2 (fun _ => ?_)
                  clear hKQ KQ
                  refine' take_at (i := 15) (d := 135) (v := _) rfl rfl (by kernel_rfl) (by kernel_rfl) (by kernel_rfl) (fun _ _ _ h => h) (Or.inl ⟨by rfl, ?h15⟩) (Jt3.out.2) ?_
                  case h15 =>
                    intro w hSw
                    go_simp
                    with_reducible rfl
                  simp only [List.setIfInBounds_toArray, List.set_cons_zero, List.set_cons_succ]
                  refine' take_at (i := 16) (d := 136) (v := _) rfl rfl (by kernel_rfl) (by kernel_rfl) (by kernel_rfl) (fun _ _ _ h => h) (Or.inl ⟨by rfl, ?h16⟩) (Jt3.out.2) ?_
                  case h16 =>
                    intro w hSw
                    go_simp
                    with_reducible rfl
                  simp only [List.setIfInBounds_toArray, List.set_cons_zero, List.set_cons_succ]
                  refine' take_at (i := 17) (d := 137) (v := _) rfl rfl (by kernel_rfl) (by kernel_rfl) (by kernel_rfl) (fun _ _ _ h => h) (Or.inl ⟨by rfl, ?h17⟩) (Jt3.out.2) ?_
                  case h17 =>
                    intro w hSw
                    go_simp
                    with_reducible rfl
                  simp only [List.setIfInBounds_toArray, List.set_cons_zero, List.set_cons_succ]
                  refine' take_at (i := 18) (d := 138) (v := _) rfl rfl (by kernel_rfl) (by kernel_rfl) (by kernel_rfl) (fun _ _ _ h => h) (Or.inl ⟨by rfl, ?h18⟩) (Jt3.out.2) ?_
                  case h18 =>
                    intro w hSw
                    go_simp
                    with_reducible rfl
                  simp only [List.setIfInBounds_toArray, List.set_cons_zero, List.set_cons_succ]
                  refine' take_at (i := 20) (d := 140) (v := _) rfl rfl (by kernel_rfl) (by kernel_rfl) (by kernel_rfl) (fun _ _ _ h => h) (Or.inl ⟨by rfl, ?h20⟩) (Jt3.out.2) ?_
                  case h20 =>
                    intro w hSw
                    go_simp
                    with_reducible rfl
                  simp only [List.setIfInBounds_toArray, List.set_cons_zero, List.set_cons_succ]
                  refine' take_at (i := 21) (d := 141) (v := _) rfl rfl (by kernel_rfl) (by kernel_rfl) (by kernel_rfl) (fun _ _ _ h => h) (Or.inl ⟨by rfl, ?h21⟩) (Jt3.out.2) ?_
                  case h21 =>
                    intro w hSw
                    go_simp
                    with_reducible rfl
                  simp only [List.setIfInBounds_toArray, List.set_cons_zero, List.set_cons_succ]
                  refine' take_at (i := 22) (d := 142) (v := _) rfl rfl (by kernel_rfl) (by kernel_rfl) (by kernel_rfl) (fun _ _ _ h => h) (Or.inl ⟨by rfl, ?h22⟩) (Jt3.out.2) ?_
                  case h22 =>
                    intro w hSw
                    go_simp
                    with_reducible rfl
                  simp only [List.setIfInBounds_toArray, List.set_cons_zero, List.set_cons_succ]
                  refine' take_at (i := 23) (d := 143) (v := _) rfl rfl (by kernel_rfl) (by kernel_rfl) (by kernel_rfl) (fun _ _ _ h => h) (Or.inl ⟨by rfl, ?h23⟩) (Jt3.out.2) ?_
                  case h23 =>
                    intro w hSw
                    obtain ⟨y1, y0⟩ := HCL3.out w hSw
                    go_simp
                    with_reducible rfl
                  simp only [List.setIfInBounds_toArray, List.set_cons_zero, List.set_cons_succ]
                  refine wpAnyH_ready (rs := [19]) (by kernel_rfl) (by simp) ?_
                  refine AllReadyH.cons (o := _) rfl (fun KQ hKQ => ?_) AllReadyH.nil
                  go_simp
                  refine (Jt3.out.1.one.shards HS.out.1 zn HZV.out.2).mono ?_
                  rintro e t4 ⟨rfl, hM, hb⟩
                  have Jt4 : Hid (Bo16 LS LRb W t4 q5 r5 1099511627776 st st F5 G5 ∧ Below t0.heap.size t0 t4) := ⟨Jt3.out.1.later HS.out.1 LRb.lt LRb.keep hb, Jt3.out.2.trans (hb.mono Jt3.out.2.size)⟩
                  clear Jt3 hb hM
                  refine hKQ.out _ _ Jt4.out.2 (fun _ => ?_)
                  clear hKQ KQ
                  refine' take_at (i := 24) (d := 144) (v := _) rfl rfl (by kernel_rfl) (by kernel_rfl) (by kernel_rfl) (fun _ _ _ h => h) (Or.inl ⟨by rfl, ?h24⟩) (Jt4.out.2) ?_
                  case h24 =>
                    intro w hSw
                    go_simp
                    with_reducible rfl
                  simp only [List.setIfInBounds_toArray, List.set_cons_zero, List.set_cons_succ]
                  refine' take_at (i := 25) (d := 145) (v := _) rfl rfl (by kernel_rfl) (by kernel_rfl) (by kernel_rfl) (fun _ _ _ h => h) (Or.inl ⟨by rfl, ?h25⟩) (Jt4.out.2) ?_
                  case h25 =>
                    intro w hSw
                    go_simp
                    with_reducible rfl
                  simp only [List.setIfInBounds_toArray, List.set_cons_zero, List.set_cons_succ]
                  refine' take_at (i := 26) (d := 146) (v := _) rfl rfl (by kernel_rfl) (by kernel_rfl) (by kernel_rfl) (fun _ _ _ h => h) (Or.inl ⟨by rfl, ?h26⟩) (Jt4.out.2) ?_
                  case h26 =>
                    intro w hSw
                    go_simp
                    with_reducible rfl
                  simp only [List.setIfInBounds_toArray, List.set_cons_zero, List.set_cons_succ]
                  refine wpAnyH_done (by kernel_rfl) ?_ _
                  go_wp2
                  go_roundw
                  case rel => exact ⟨1 + 1, by omega, by go_num, Jt4.out.1.one.below, HBY3.out _ Jt4.out.2⟩
                  case measure => simp [intOf]
            · obtain rfl : k2 = 2 := by omega
              go_wp2
              go_ret
              exact ⟨rfl, HW.out.1⟩
theorem reads_any16 {LS : Rep16} (S : Specs16 LS) (n : Int) (v u : Value) (xs : List Tb.Ac) (pt yb : Int) (bs : List UInt8) (W : World) (hS : Pa.Std W) (hv : Acl16 W v xs) (hu : Bs W u bs) (hl : xs.length ≤ maxLen) (hl2 : bs.length ≤ maxLen) (hok : ∀ x ∈ xs, AcOk16 x) (hy : yb = ((UInt8.ofNat yb.toNat).toNat : Int)) :
    Calls Tryd.prog 5 #[.int .i64 n, v, .int .i64 pt, .int .u8 yb, u] W fun e w' => e = .returned (.bool true) ∧ Below W.heap.size W w' := by
  rw [hy]
  exact reads_walk16 S n v u xs pt _ bs W hS hv hu hl hl2 hok
end Go.Proofs.YtpjdjobdbandhaaDoor
