/- What Arm does. -/
import Derived.Test.YtjejpkognjedpaaDoorWIns13
import Derived.Test.YtjejpkognjedpaaDoorHeld
namespace Go.Proofs.YtjejpkognjedpaaDoor
open Go.RowKit

theorem search_row13 (v : Value) (N : Nat) (l : List Hq.Wt) (x : Hq.Wt) (w : World) (h : w.ownsRow 0 54 3 v N (wcs l)) (hN : N = l.length) (hl : N ≤ 1000) (hr : Hq.Rises l) :
    Calls Tryd.prog 19 #[v, wv x, .func (.func 20) #[] #[]] w fun e w' => e = .returned (.tuple #[.int .i64 (Hq.pos l x : Int), .bool (Hq.has l x)]) ∧ Below w.heap.size w w' := by
  rcases h.2 with ⟨rfl, rfl⟩ | ⟨g, c, cur, rfl, _⟩
  · obtain rfl : l = [] := List.length_eq_zero_iff.1 hN.symm
    exact search_none13 x w
  · exact search_any13 g N c l x w h hN hl hr
theorem insert_row13 (v : Value) (N i : Nat) (l : List Hq.Wt) (x : Hq.Wt) (vb : Nat) (w : World) (h : w.ownsRow 0 54 3 v N (wcs l)) (hN : N ≤ 1000) (hl : N = l.length) (hi : i ≤ N) (hc : Cb w vb (wc x) 54) (hv : v.ownBlock ≠ some vb) :
    Calls Tryd.prog 21 #[v, .int .i64 (i : Int), .slice (some ⟨vb, 0, none⟩) 1 1] w (InsP 0 v N (l.take i ++ x :: l.drop i) w) := by
  by_cases hiN : i = N
  · subst hiN
    rw [List.take_of_length_le (by omega), List.drop_of_length_le (by omega)]
    exact insert_end13 0 v i l x vb w h (Nat.zero_le _) hN hc
  · rcases h.2 with ⟨rfl, rfl⟩ | ⟨g, c, cur, rfl, _, _, hNc, _⟩
    · omega
    · by_cases hr : N + 1 ≤ c
      · exact insert_shift13 0 g N c i l x vb w h hN hl (by omega) hr hc (fun e => hv (by rw [e]; rfl))
      · obtain rfl : c = N := by omega
        exact insert_grow13 0 g c i l x vb w h (Nat.zero_le _) hN hl (by omega) hc

set_option maxRecDepth 20000 in
set_option maxHeartbeats 4000000 in
theorem arm_any13 (q : Nat) (s : Hq.St) (F : Nat → Prop) (x : Hq.Wt) (w : World) (hL : LWt w q s F) (hf : Hq.Fine s) (hS : Pa.Std w) (hp : x.path.size ≤ maxLen) :
    Calls Tryd.prog 10 #[dptr q, .int .i64 x.sess, .string x.path, .int .i64 x.kind] w fun e w' => ∃ F', e = .returned (.int .i64 (Hq.arm s x).1) ∧ LWt w' q (Hq.arm s x).2 F' ∧ Moved w w' F F' := by
  obtain ⟨v, hl, rfl⟩ := hL
  obtain ⟨R, hR⟩ : ∃ R, R = Hq.arm s x := ⟨_, rfl⟩
  obtain ⟨gd, hgd⟩ : ∃ z, z = Pl.goodB x.path.data.toList := ⟨_, rfl⟩
  have H0 : Hid (Lw13 w q s v ∧ Hq.Fine s ∧ Pa.Std w ∧ x.path.size ≤ maxLen ∧ R = Hq.arm s x ∧ gd = Pl.goodB x.path.data.toList) := ⟨hl, hf, hS, hp, hR, hgd⟩
  rw [← hR]
  have HG : Hid (Calls Tryd.prog 18 #[.string x.path] w fun e w' => e = .returned (.bool gd) ∧ Below w.heap.size w w') := by
    rw [hgd]
    exact Pa.good_any x.path w hS hp
  have HNO : Hid (Hq.may x = false → R = (1, s)) := fun e => by rw [hR]; unfold Hq.arm; rw [e]; rfl
  have HIN : Hid (∀ w', Below w.heap.size w w' → Lw13 w' q s v ∧ Moved w w' (Fw13 v q) (Fw13 v q)) := fun w' hb => ⟨⟨hl.blk.below hb, row_stays hl.row fun k hk => hb.block k (hl.row.lt k hk).2⟩, Moved.of_below _ hb⟩
  clear hl hf hS hp hR hgd
  unfold dptr
  go_enter Tryd.func10, Tryd.ntmps10
  by_cases h1 : x.sess < 1
  · have HR : Hid (R = (1, s)) := HNO.out (by
      have h : ¬ Hq.may x = true := fun e => by have := (Hq.may_iff.1 e).1; omega
      simpa using h)
    go_wp2
    go_ret
    refine ⟨Fw13 v q, ?_, ?_, Moved.refl _ _⟩
    · rw [HR.out]; rfl
    · rw [HR.out]; exact ⟨v, H0.out.1, rfl⟩
  go_wp2_with fail
  refine HG.out.mono ?_
  rintro e w1 ⟨rfl, hb1⟩
  have H1 : Hid (Below w.heap.size w w1) := hb1
  clear hb1 HG
  cases gd with
  | false =>
    have HR : Hid (R = (1, s)) := HNO.out (by
      have h : ¬ Hq.may x = true := fun e => by have := (Hq.may_iff.1 e).2.1; rw [← H0.out.2.2.2.2.2] at this; cases this
      simpa using h)
    go_wp2
    go_ret
    refine ⟨Fw13 v q, ?_, ?_, (HIN.out _ H1.out).2⟩
    · rw [HR.out]; rfl
    · rw [HR.out]; exact ⟨v, (HIN.out _ H1.out).1, rfl⟩
  | true =>
    by_cases hk : x.kind = 1 ∨ x.kind = 2
    · have HM : Hid (Hq.may x = true) := Hq.may_iff.2 ⟨by omega, H0.out.2.2.2.2.2.symm, hk⟩
      have hkb : ((x.kind != 1) = false) ∨ ((x.kind != 1) = true ∧ (x.kind != 2) = false) := by
        rcases hk with e | e <;> simp [e]
      obtain ⟨N, hN⟩ : ∃ N, N = s.l.length := ⟨_, rfl⟩
      have hN1 : N ≤ 1000 := by rw [hN]; exact H0.out.2.1.len
      obtain ⟨a, c, hv, hNc, hj⟩ := row_form H0.out.1.row
      rw [← hN] at hv
      subst hv
      obtain ⟨p, hpp⟩ : ∃ p, p = Hq.pos s.l x := ⟨_, rfl⟩
      obtain ⟨hs, hhs⟩ : ∃ z, z = Hq.has s.l x := ⟨_, rfl⟩
      have HP : Hid (N = s.l.length ∧ p = Hq.pos s.l x ∧ hs = Hq.has s.l x) := ⟨hN, hpp, hhs⟩
      have hpN : p ≤ N := by rw [hpp, hN]; exact Hq.pos_le _ _
      clear hk hN hNc hj hpp hhs
      have c1 : w1.cell? ⟨q, 1, none⟩ = some (.slice a N c) := (HIN.out _ H1.out).1.blk.cell 1
      have HSR : Hid (∀ w', Below w.heap.size w w' → Calls Tryd.prog 19 #[.slice a N c, wv x, .func (.func 20) #[] #[]] w' fun e w'' => e = .returned (.tuple #[.int .i64 (p : Int), .bool hs]) ∧ Below w'.heap.size w' w'') := fun w' hb => by
        rw [HP.out.2.1, HP.out.2.2]
        have hr := (HIN.out _ hb).1.row
        rw [← HP.out.1] at hr
        exact search_row13 _ N s.l x w' hr HP.out.1 hN1 H0.out.2.1.rises
      unfold wv at HSR
      rcases hkb with hk1 | ⟨hk1, hk2⟩
      · go_wp2_with fail
        refine (HSR.out _ H1.out).mono ?_
        rintro e w2 ⟨rfl, hb2⟩
        have H2 : Hid (Below w.heap.size w w2) := H1.out.trans (hb2.mono H1.out.size)
        clear hb2 c1 HSR
        cases hs with
        | true =>
          have HR : Hid (R = (0, s)) := (show R = (0, s) by
            rw [H0.out.2.2.2.2.1]
            unfold Hq.arm
            rw [HM.out, ← HP.out.2.2]
            rfl)
          go_wp2
          go_ret
          refine ⟨Fw13 (.slice a N c) q, ?_, ?_, (HIN.out _ H2.out).2⟩
          · rw [HR.out]; rfl
          · rw [HR.out]; exact ⟨_, (HIN.out _ H2.out).1, rfl⟩
        | false =>
          have c0 : w2.cell? ⟨q, 0, none⟩ = some (.int .i64 s.room) := (HIN.out _ H2.out).1.blk.cell 0
          have c1 : w2.cell? ⟨q, 1, none⟩ = some (.slice a N c) := (HIN.out _ H2.out).1.blk.cell 1
          have HRR : Hid (R = if s.room ≤ (N : Int) then (9, s) else (0, { s with l := Hq.ins s.l x })) := (show R = _ by
            rw [H0.out.2.2.2.2.1]
            unfold Hq.arm
            rw [HM.out, ← HP.out.2.2, ← HP.out.1]
            rfl)
          go_upto_region 6 with fail
          by_cases hrm : s.room ≤ (N : Int)
          · have HR : Hid (R = (9, s)) := (show R = (9, s) by rw [HRR.out, if_pos hrm])
            go_quiet (fail)
            have H3 : Hid (Below w.heap.size w (w2.drewN nq)) := below_drewN H2.out _
            clear c0 c1
            go_wp2
            go_ret
            refine ⟨Fw13 (.slice a N c) q, ?_, ?_, (HIN.out _ H3.out).2⟩
            · rw [HR.out]; rfl
            · rw [HR.out]; exact ⟨_, (HIN.out _ H3.out).1, rfl⟩
          · have HR : Hid (R = (0, { s with l := Hq.ins s.l x })) := (show R = _ by rw [HRR.out, if_neg hrm])
            go_quiet (fail)
            have H3 : Hid (Below w.heap.size w (w2.drewN nq)) := below_drewN H2.out _
            clear c0 c1 hrm
            generalize w2.drewN nq = w3 at *
            go_upto_region 8 with fail
            refine wp_region_T (fun w' => w'.cell? ⟨q, 1, none⟩ = some (.slice a N c)) 15 (by kernel_rfl) ?_
            have H4 : Hid (Below w.heap.size w w3.drew) := H3.out.drew
            clear H3
            generalize w3.drew = wX at *
            have HCL : Hid (∀ w', Below w.heap.size w w' → w'.cell? ⟨q, 1, none⟩ = some (.slice a N c)) := fun w' hb => (HIN.out _ hb).1.blk.cell 1
            refine' take_T (i := 0) (d := 49) (v := _) rfl rfl (by kernel_rfl) (by kernel_rfl) (by kernel_rfl) (by kernel_rfl) (by kernel_rfl) (fun _ _ _ h => h) (Or.inl ⟨by rfl, ?h0⟩) (HCL.out _ H4.out) ?_
            case h0 =>
              intro w hSw
              go_simp
              with_reducible rfl
            simp only [List.setIfInBounds_toArray, List.set_cons_zero, List.set_cons_succ]
            refine' take_T (i := 1) (d := 50) (v := _) rfl rfl (by kernel_rfl) (by kernel_rfl) (by kernel_rfl) (by kernel_rfl) (by kernel_rfl) (fun _ _ _ h => h) (Or.inl ⟨by rfl, ?h1⟩) (HCL.out _ H4.out) ?_
            case h1 =>
              intro w hSw
              go_simp
              with_reducible rfl
            simp only [List.setIfInBounds_toArray, List.set_cons_zero, List.set_cons_succ]
            refine' take_T (i := 2) (d := 51) (v := _) rfl rfl (by kernel_rfl) (by kernel_rfl) (by kernel_rfl) (by kernel_rfl) (by kernel_rfl) (fun _ _ _ h => h) (Or.inl ⟨by rfl, ?h2⟩) (HCL.out _ H4.out) ?_
            case h2 =>
              intro w hSw
              go_simp
              with_reducible rfl
            simp only [List.setIfInBounds_toArray, List.set_cons_zero, List.set_cons_succ]
            refine' take_T (i := 3) (d := 52) (v := _) rfl rfl (by kernel_rfl) (by kernel_rfl) (by kernel_rfl) (by kernel_rfl) (by kernel_rfl) (fun _ _ _ h => h) (Or.inl ⟨by rfl, ?h3⟩) (HCL.out _ H4.out) ?_
            case h3 =>
              intro w hSw
              go_simp
              with_reducible rfl
            simp only [List.setIfInBounds_toArray, List.set_cons_zero, List.set_cons_succ]
            refine' take_T (i := 4) (d := 53) (v := _) rfl rfl (by kernel_rfl) (by kernel_rfl) (by kernel_rfl) (by kernel_rfl) (by kernel_rfl) (fun _ _ _ h => h) (Or.inl ⟨by rfl, ?h4⟩) (HCL.out _ H4.out) ?_
            case h4 =>
              intro w hSw
              go_simp
              with_reducible rfl
            simp only [List.setIfInBounds_toArray, List.set_cons_zero, List.set_cons_succ]
            refine' take_T (i := 5) (d := 54) (v := _) rfl rfl (by kernel_rfl) (by kernel_rfl) (by kernel_rfl) (by kernel_rfl) (by kernel_rfl) (fun _ _ _ h => h) (Or.inl ⟨by rfl, ?h5⟩) (HCL.out _ H4.out) ?_
            case h5 =>
              intro w hSw
              go_simp
              with_reducible rfl
            simp only [List.setIfInBounds_toArray, List.set_cons_zero, List.set_cons_succ]
            refine' take_T (i := 6) (d := 55) (v := _) rfl rfl (by kernel_rfl) (by kernel_rfl) (by kernel_rfl) (by kernel_rfl) (by kernel_rfl) (fun _ _ _ h => h) (Or.inl ⟨by rfl, ?h6⟩) (HCL.out _ H4.out) ?_
            case h6 =>
              intro w hSw
              go_simp
              with_reducible rfl
            simp only [List.setIfInBounds_toArray, List.set_cons_zero, List.set_cons_succ]
            refine' take_T (i := 7) (d := 56) (v := _) rfl rfl (by kernel_rfl) (by kernel_rfl) (by kernel_rfl) (by kernel_rfl) (by kernel_rfl) (fun _ _ _ h => h) (Or.inl ⟨by rfl, ?h7⟩) (HCL.out _ H4.out) ?_
            case h7 =>
              intro w hSw
              go_simp
              with_reducible rfl
            simp only [List.setIfInBounds_toArray, List.set_cons_zero, List.set_cons_succ]
            refine' take_T (i := 8) (d := 57) (v := _) rfl rfl (by kernel_rfl) (by kernel_rfl) (by kernel_rfl) (by kernel_rfl) (by kernel_rfl) (fun _ _ _ h => h) (Or.inl ⟨by rfl, ?h8⟩) (HCL.out _ H4.out) ?_
            case h8 =>
              intro w hSw
              go_simp
              with_reducible rfl
            simp only [List.setIfInBounds_toArray, List.set_cons_zero, List.set_cons_succ]
            refine wpAnyT_ready (rs := [9]) (by kernel_rfl) (by simp) ?_
            refine AllReadyT.cons (o := _) rfl (fun KQ hKQ => ?_) AllReadyT.nil
            go_simp
            refine (clone_any13 x.path wX (by have h1 := (Pl.good_parts H0.out.2.2.2.2.2.symm).2.2; have h2 : x.path.size = x.path.data.toList.length := Lib.size_eq x.path; omega)).mono ?_
            rintro e w4 ⟨rfl, hb4⟩
            have H5 : Hid (Below w.heap.size w w4) := H4.out.trans (hb4.mono H4.out.size)
            clear hb4
            refine hKQ.out _ _ (fun _ => HCL.out _ H5.out) ?_
            clear hKQ KQ
            refine' take_T (i := 10) (d := 59) (v := _) rfl rfl (by kernel_rfl) (by kernel_rfl) (by kernel_rfl) (by kernel_rfl) (by kernel_rfl) (fun _ _ _ h => h) (Or.inl ⟨by rfl, ?h10⟩) (HCL.out _ H5.out) ?_
            case h10 =>
              intro w hSw
              go_simp
              with_reducible rfl
            simp only [List.setIfInBounds_toArray, List.set_cons_zero, List.set_cons_succ]
            refine wpAnyT_ready (rs := [11]) (by kernel_rfl) (by simp) ?_
            refine AllReadyT.cons (o := _) rfl (fun KQ hKQ => ?_) AllReadyT.nil
            go_simp
            obtain ⟨vb, hvb⟩ : ∃ z, z = w4.heap.size := ⟨_, rfl⟩
            have H6 : Hid (Below w.heap.size w (w4.alloc (.cells #[.int .i64 x.sess, .int .i64 x.kind, .string x.path] 54)) ∧ Cb (w4.alloc (.cells #[.int .i64 x.sess, .int .i64 x.kind, .string x.path] 54)) vb (wc x) 54 ∧ w.heap.size ≤ vb) := by
              have h1 := (Below.refl _ w4).alloc (Nat.le_refl _) (.cells #[.int .i64 x.sess, .int .i64 x.kind, .string x.path] 54)
              rw [hvb]
              exact ⟨H5.out.trans (h1.mono H5.out.size), Cb.made w4 _ _, H5.out.size⟩
            rw [← hvb]
            clear hvb
            generalize w4.alloc (.cells #[.int .i64 x.sess, .int .i64 x.kind, .string x.path] 54) = w5 at *
            refine hKQ.out _ _ (fun _ => HCL.out _ H6.out.1) ?_
            clear hKQ KQ
            refine wpAnyT_ready (rs := [12]) (by kernel_rfl) (by simp) ?_
            refine AllReadyT.cons (o := _) rfl (fun KQ hKQ => ?_) AllReadyT.nil
            go_simp
            have HROW : Hid (w5.ownsRow 0 54 3 (.slice a N c) N (wcs s.l) ∧ (Value.slice a N c).ownBlock ≠ some vb ∧ (Value.slice a N c).ownBlock ≠ some q ∧ Cb w5 q [.int .i64 s.room, .slice a N c] 49) := by
              have h1 := (HIN.out _ H6.out.1).1
              have h2 := h1.row
              rw [← HP.out.1] at h2
              have h3 := H0.out.1.row
              exact ⟨h2, fun e => by have := (h3.lt vb e).2; have := H6.out.2.2; omega, h1.blk.apart h2 (by decide), h1.blk⟩
            refine (insert_row13 (.slice a N c) N p s.l x vb w5 HROW.out.1 hN1 HP.out.1 hpN H6.out.2.1 HROW.out.2.1).mono ?_
            rintro e w6 ⟨v6, rfl, hr6, hg6, hv6⟩
            have H7 : Hid (w6.ownsRow 0 54 3 v6 (N + 1) (wcs (Hq.ins s.l x)) ∧ w5.grownBy w6 (Value.slice a N c).ownBlock ∧ (v6.ownBlock = (Value.slice a N c).ownBlock ∨ v6.ownBlock = some w5.heap.size) ∧ Cb w6 q [.int .i64 s.room, .slice a N c] 49) := by
              refine ⟨?_, hg6, hv6, HROW.out.2.2.2.keep (hg6.block q HROW.out.2.2.2.lt (fun e => HROW.out.2.2.1 e.symm))⟩
              rw [HP.out.2.1] at hr6
              exact hr6
            obtain ⟨a6, c6, e6, j1, j2⟩ := row_form hr6
            subst e6
            clear hr6 hg6 hv6 j1 j2
            have c61 : w6.cell? ⟨q, 1, none⟩ = some (.slice a N c) := H7.out.2.2.2.cell 1
            have f61 := H7.out.2.2.2.free 1
            have HC6 : Hid (w6.cell? ⟨q, 1, none⟩ = some (.slice a N c)) := c61
            refine hKQ.out _ _ (fun _ => HC6.out) ?_
            clear hKQ KQ
            refine' take_T (i := 13) (d := 62) (v := _) rfl rfl (by kernel_rfl) (by kernel_rfl) (by kernel_rfl) (by kernel_rfl) (by kernel_rfl) (fun _ _ _ h => h) (Or.inl ⟨by rfl, ?h13⟩) (HC6.out) ?_
            case h13 =>
              intro w hSw
              go_simp
              with_reducible rfl
            simp only [List.setIfInBounds_toArray, List.set_cons_zero, List.set_cons_succ]
            refine' take_T (i := 14) (d := 63) (v := _) rfl rfl (by kernel_rfl) (by kernel_rfl) (by kernel_rfl) (by kernel_rfl) (by kernel_rfl) (fun _ _ _ h => h) (Or.inl ⟨by rfl, ?h14⟩) (HC6.out) ?_
            case h14 =>
              intro w hSw
              go_simp
              with_reducible rfl
            simp only [List.setIfInBounds_toArray, List.set_cons_zero, List.set_cons_succ]
            refine wpAnyT_ready (rs := [15]) (by kernel_rfl) (by simp) ?_
            refine AllReadyT.cons (o := _) rfl (fun KQ hKQ => ?_) AllReadyT.nil
            go_simp
            refine hKQ.out _ _ (fun h => absurd (by decide) h) ?_
            clear hKQ KQ
            refine wpAnyT_done (by kernel_rfl) ?_ _
            have HE : Hid (LWt (w6.setCell ⟨q, 1, none⟩ (.slice a6 (N + 1) c6)) q { s with l := Hq.ins s.l x } (Fw13 (.slice a6 (N + 1) c6) q) ∧ Moved w (w6.setCell ⟨q, 1, none⟩ (.slice a6 (N + 1) c6)) (Fw13 (.slice a N c) q) (Fw13 (.slice a6 (N + 1) c6) q)) := by
              have hb := H6.out.1
              have hg := H7.out.2.1
              have hs := grownBy_setCell w6 ⟨q, 1, none⟩ (.slice a6 (N + 1) c6)
              have hq := H7.out.2.2.2
              have hap : (Value.slice a6 (N + 1) c6).ownBlock ≠ some q := hq.apart H7.out.1 (by decide)
              refine ⟨⟨_, ⟨hq.set 1 _, ?_⟩, rfl⟩, ⟨hs.os.trans (hg.os.trans hb.os), hs.tape.trans (hg.tape.trans hb.tape), hs.output.trans (hg.output.trans hb.output), Nat.le_trans hb.size (Nat.le_trans hg.size hs.size), fun k hk hF => ?_, fun k hk => ?_⟩⟩
              · show (w6.setCell ⟨q, 1, none⟩ (.slice a6 (N + 1) c6)).ownsRow 0 54 3 _ (Hq.ins s.l x).length _
                rw [Hq.ins_len, ← HP.out.1]
                exact row_stays H7.out.1 fun k hk => hs.block k (H7.out.1.lt k hk).2 (fun e => hap (by rw [hk, e]))
              · have hsz := hb.size
                have hsg := hg.size
                have hk1 : k ≠ q := fun e => hF (Or.inr e)
                rw [hs.block k (by omega) (fun e => hk1 (by simpa using e)), hg.block k (by omega) (fun e => hF (Or.inl e.symm)), hb.block k hk]
              · rcases hk with hk | rfl
                · rcases H7.out.2.2.1 with e | e
                  · exact Or.inl (Or.inl (by rw [← e]; exact hk))
                  · rw [e] at hk
                    have hsz := hb.size
                    simp only [Option.some.injEq] at hk
                    exact Or.inr (by omega)
                · exact Or.inl (Or.inr rfl)
            clear c61 f61
            generalize w6.setCell ⟨q, 1, none⟩ (.slice a6 (N + 1) c6) = wz at *
            go_wp2
            go_ret
            refine ⟨_, ?_, ?_, HE.out.2⟩
            · rw [HR.out]; rfl
            · rw [HR.out]; exact HE.out.1
      · go_wp2_with fail
        refine (HSR.out _ H1.out).mono ?_
        rintro e w2 ⟨rfl, hb2⟩
        have H2 : Hid (Below w.heap.size w w2) := H1.out.trans (hb2.mono H1.out.size)
        clear hb2 c1 HSR
        cases hs with
        | true =>
          have HR : Hid (R = (0, s)) := (show R = (0, s) by
            rw [H0.out.2.2.2.2.1]
            unfold Hq.arm
            rw [HM.out, ← HP.out.2.2]
            rfl)
          go_wp2
          go_ret
          refine ⟨Fw13 (.slice a N c) q, ?_, ?_, (HIN.out _ H2.out).2⟩
          · rw [HR.out]; rfl
          · rw [HR.out]; exact ⟨_, (HIN.out _ H2.out).1, rfl⟩
        | false =>
          have c0 : w2.cell? ⟨q, 0, none⟩ = some (.int .i64 s.room) := (HIN.out _ H2.out).1.blk.cell 0
          have c1 : w2.cell? ⟨q, 1, none⟩ = some (.slice a N c) := (HIN.out _ H2.out).1.blk.cell 1
          have HRR : Hid (R = if s.room ≤ (N : Int) then (9, s) else (0, { s with l := Hq.ins s.l x })) := (show R = _ by
            rw [H0.out.2.2.2.2.1]
            unfold Hq.arm
            rw [HM.out, ← HP.out.2.2, ← HP.out.1]
            rfl)
          go_upto_region 6 with fail
          by_cases hrm : s.room ≤ (N : Int)
          · have HR : Hid (R = (9, s)) := (show R = (9, s) by rw [HRR.out, if_pos hrm])
            go_quiet (fail)
            have H3 : Hid (Below w.heap.size w (w2.drewN nq)) := below_drewN H2.out _
            clear c0 c1
            go_wp2
            go_ret
            refine ⟨Fw13 (.slice a N c) q, ?_, ?_, (HIN.out _ H3.out).2⟩
            · rw [HR.out]; rfl
            · rw [HR.out]; exact ⟨_, (HIN.out _ H3.out).1, rfl⟩
          · have HR : Hid (R = (0, { s with l := Hq.ins s.l x })) := (show R = _ by rw [HRR.out, if_neg hrm])
            go_quiet (fail)
            have H3 : Hid (Below w.heap.size w (w2.drewN nq)) := below_drewN H2.out _
            clear c0 c1 hrm
            generalize w2.drewN nq = w3 at *
            go_upto_region 8 with fail
            refine wp_region_T (fun w' => w'.cell? ⟨q, 1, none⟩ = some (.slice a N c)) 15 (by kernel_rfl) ?_
            have H4 : Hid (Below w.heap.size w w3.drew) := H3.out.drew
            clear H3
            generalize w3.drew = wX at *
            have HCL : Hid (∀ w', Below w.heap.size w w' → w'.cell? ⟨q, 1, none⟩ = some (.slice a N c)) := fun w' hb => (HIN.out _ hb).1.blk.cell 1
            refine' take_T (i := 0) (d := 49) (v := _) rfl rfl (by kernel_rfl) (by kernel_rfl) (by kernel_rfl) (by kernel_rfl) (by kernel_rfl) (fun _ _ _ h => h) (Or.inl ⟨by rfl, ?h0⟩) (HCL.out _ H4.out) ?_
            case h0 =>
              intro w hSw
              go_simp
              with_reducible rfl
            simp only [List.setIfInBounds_toArray, List.set_cons_zero, List.set_cons_succ]
            refine' take_T (i := 1) (d := 50) (v := _) rfl rfl (by kernel_rfl) (by kernel_rfl) (by kernel_rfl) (by kernel_rfl) (by kernel_rfl) (fun _ _ _ h => h) (Or.inl ⟨by rfl, ?h1⟩) (HCL.out _ H4.out) ?_
            case h1 =>
              intro w hSw
              go_simp
              with_reducible rfl
            simp only [List.setIfInBounds_toArray, List.set_cons_zero, List.set_cons_succ]
            refine' take_T (i := 2) (d := 51) (v := _) rfl rfl (by kernel_rfl) (by kernel_rfl) (by kernel_rfl) (by kernel_rfl) (by kernel_rfl) (fun _ _ _ h => h) (Or.inl ⟨by rfl, ?h2⟩) (HCL.out _ H4.out) ?_
            case h2 =>
              intro w hSw
              go_simp
              with_reducible rfl
            simp only [List.setIfInBounds_toArray, List.set_cons_zero, List.set_cons_succ]
            refine' take_T (i := 3) (d := 52) (v := _) rfl rfl (by kernel_rfl) (by kernel_rfl) (by kernel_rfl) (by kernel_rfl) (by kernel_rfl) (fun _ _ _ h => h) (Or.inl ⟨by rfl, ?h3⟩) (HCL.out _ H4.out) ?_
            case h3 =>
              intro w hSw
              go_simp
              with_reducible rfl
            simp only [List.setIfInBounds_toArray, List.set_cons_zero, List.set_cons_succ]
            refine' take_T (i := 4) (d := 53) (v := _) rfl rfl (by kernel_rfl) (by kernel_rfl) (by kernel_rfl) (by kernel_rfl) (by kernel_rfl) (fun _ _ _ h => h) (Or.inl ⟨by rfl, ?h4⟩) (HCL.out _ H4.out) ?_
            case h4 =>
              intro w hSw
              go_simp
              with_reducible rfl
            simp only [List.setIfInBounds_toArray, List.set_cons_zero, List.set_cons_succ]
            refine' take_T (i := 5) (d := 54) (v := _) rfl rfl (by kernel_rfl) (by kernel_rfl) (by kernel_rfl) (by kernel_rfl) (by kernel_rfl) (fun _ _ _ h => h) (Or.inl ⟨by rfl, ?h5⟩) (HCL.out _ H4.out) ?_
            case h5 =>
              intro w hSw
              go_simp
              with_reducible rfl
            simp only [List.setIfInBounds_toArray, List.set_cons_zero, List.set_cons_succ]
            refine' take_T (i := 6) (d := 55) (v := _) rfl rfl (by kernel_rfl) (by kernel_rfl) (by kernel_rfl) (by kernel_rfl) (by kernel_rfl) (fun _ _ _ h => h) (Or.inl ⟨by rfl, ?h6⟩) (HCL.out _ H4.out) ?_
            case h6 =>
              intro w hSw
              go_simp
              with_reducible rfl
            simp only [List.setIfInBounds_toArray, List.set_cons_zero, List.set_cons_succ]
            refine' take_T (i := 7) (d := 56) (v := _) rfl rfl (by kernel_rfl) (by kernel_rfl) (by kernel_rfl) (by kernel_rfl) (by kernel_rfl) (fun _ _ _ h => h) (Or.inl ⟨by rfl, ?h7⟩) (HCL.out _ H4.out) ?_
            case h7 =>
              intro w hSw
              go_simp
              with_reducible rfl
            simp only [List.setIfInBounds_toArray, List.set_cons_zero, List.set_cons_succ]
            refine' take_T (i := 8) (d := 57) (v := _) rfl rfl (by kernel_rfl) (by kernel_rfl) (by kernel_rfl) (by kernel_rfl) (by kernel_rfl) (fun _ _ _ h => h) (Or.inl ⟨by rfl, ?h8⟩) (HCL.out _ H4.out) ?_
            case h8 =>
              intro w hSw
              go_simp
              with_reducible rfl
            simp only [List.setIfInBounds_toArray, List.set_cons_zero, List.set_cons_succ]
            refine wpAnyT_ready (rs := [9]) (by kernel_rfl) (by simp) ?_
            refine AllReadyT.cons (o := _) rfl (fun KQ hKQ => ?_) AllReadyT.nil
            go_simp
            refine (clone_any13 x.path wX (by have h1 := (Pl.good_parts H0.out.2.2.2.2.2.symm).2.2; have h2 : x.path.size = x.path.data.toList.length := Lib.size_eq x.path; omega)).mono ?_
            rintro e w4 ⟨rfl, hb4⟩
            have H5 : Hid (Below w.heap.size w w4) := H4.out.trans (hb4.mono H4.out.size)
            clear hb4
            refine hKQ.out _ _ (fun _ => HCL.out _ H5.out) ?_
            clear hKQ KQ
            refine' take_T (i := 10) (d := 59) (v := _) rfl rfl (by kernel_rfl) (by kernel_rfl) (by kernel_rfl) (by kernel_rfl) (by kernel_rfl) (fun _ _ _ h => h) (Or.inl ⟨by rfl, ?h10⟩) (HCL.out _ H5.out) ?_
            case h10 =>
              intro w hSw
              go_simp
              with_reducible rfl
            simp only [List.setIfInBounds_toArray, List.set_cons_zero, List.set_cons_succ]
            refine wpAnyT_ready (rs := [11]) (by kernel_rfl) (by simp) ?_
            refine AllReadyT.cons (o := _) rfl (fun KQ hKQ => ?_) AllReadyT.nil
            go_simp
            obtain ⟨vb, hvb⟩ : ∃ z, z = w4.heap.size := ⟨_, rfl⟩
            have H6 : Hid (Below w.heap.size w (w4.alloc (.cells #[.int .i64 x.sess, .int .i64 x.kind, .string x.path] 54)) ∧ Cb (w4.alloc (.cells #[.int .i64 x.sess, .int .i64 x.kind, .string x.path] 54)) vb (wc x) 54 ∧ w.heap.size ≤ vb) := by
              have h1 := (Below.refl _ w4).alloc (Nat.le_refl _) (.cells #[.int .i64 x.sess, .int .i64 x.kind, .string x.path] 54)
              rw [hvb]
              exact ⟨H5.out.trans (h1.mono H5.out.size), Cb.made w4 _ _, H5.out.size⟩
            rw [← hvb]
            clear hvb
            generalize w4.alloc (.cells #[.int .i64 x.sess, .int .i64 x.kind, .string x.path] 54) = w5 at *
            refine hKQ.out _ _ (fun _ => HCL.out _ H6.out.1) ?_
            clear hKQ KQ
            refine wpAnyT_ready (rs := [12]) (by kernel_rfl) (by simp) ?_
            refine AllReadyT.cons (o := _) rfl (fun KQ hKQ => ?_) AllReadyT.nil
            go_simp
            have HROW : Hid (w5.ownsRow 0 54 3 (.slice a N c) N (wcs s.l) ∧ (Value.slice a N c).ownBlock ≠ some vb ∧ (Value.slice a N c).ownBlock ≠ some q ∧ Cb w5 q [.int .i64 s.room, .slice a N c] 49) := by
              have h1 := (HIN.out _ H6.out.1).1
              have h2 := h1.row
              rw [← HP.out.1] at h2
              have h3 := H0.out.1.row
              exact ⟨h2, fun e => by have := (h3.lt vb e).2; have := H6.out.2.2; omega, h1.blk.apart h2 (by decide), h1.blk⟩
            refine (insert_row13 (.slice a N c) N p s.l x vb w5 HROW.out.1 hN1 HP.out.1 hpN H6.out.2.1 HROW.out.2.1).mono ?_
            rintro e w6 ⟨v6, rfl, hr6, hg6, hv6⟩
            have H7 : Hid (w6.ownsRow 0 54 3 v6 (N + 1) (wcs (Hq.ins s.l x)) ∧ w5.grownBy w6 (Value.slice a N c).ownBlock ∧ (v6.ownBlock = (Value.slice a N c).ownBlock ∨ v6.ownBlock = some w5.heap.size) ∧ Cb w6 q [.int .i64 s.room, .slice a N c] 49) := by
              refine ⟨?_, hg6, hv6, HROW.out.2.2.2.keep (hg6.block q HROW.out.2.2.2.lt (fun e => HROW.out.2.2.1 e.symm))⟩
              rw [HP.out.2.1] at hr6
              exact hr6
            obtain ⟨a6, c6, e6, j1, j2⟩ := row_form hr6
            subst e6
            clear hr6 hg6 hv6 j1 j2
            have c61 : w6.cell? ⟨q, 1, none⟩ = some (.slice a N c) := H7.out.2.2.2.cell 1
            have f61 := H7.out.2.2.2.free 1
            have HC6 : Hid (w6.cell? ⟨q, 1, none⟩ = some (.slice a N c)) := c61
            refine hKQ.out _ _ (fun _ => HC6.out) ?_
            clear hKQ KQ
            refine' take_T (i := 13) (d := 62) (v := _) rfl rfl (by kernel_rfl) (by kernel_rfl) (by kernel_rfl) (by kernel_rfl) (by kernel_rfl) (fun _ _ _ h => h) (Or.inl ⟨by rfl, ?h13⟩) (HC6.out) ?_
            case h13 =>
              intro w hSw
              go_simp
              with_reducible rfl
            simp only [List.setIfInBounds_toArray, List.set_cons_zero, List.set_cons_succ]
            refine' take_T (i := 14) (d := 63) (v := _) rfl rfl (by kernel_rfl) (by kernel_rfl) (by kernel_rfl) (by kernel_rfl) (by kernel_rfl) (fun _ _ _ h => h) (Or.inl ⟨by rfl, ?h14⟩) (HC6.out) ?_
            case h14 =>
              intro w hSw
              go_simp
              with_reducible rfl
            simp only [List.setIfInBounds_toArray, List.set_cons_zero, List.set_cons_succ]
            refine wpAnyT_ready (rs := [15]) (by kernel_rfl) (by simp) ?_
            refine AllReadyT.cons (o := _) rfl (fun KQ hKQ => ?_) AllReadyT.nil
            go_simp
            refine hKQ.out _ _ (fun h => absurd (by decide) h) ?_
            clear hKQ KQ
            refine wpAnyT_done (by kernel_rfl) ?_ _
            have HE : Hid (LWt (w6.setCell ⟨q, 1, none⟩ (.slice a6 (N + 1) c6)) q { s with l := Hq.ins s.l x } (Fw13 (.slice a6 (N + 1) c6) q) ∧ Moved w (w6.setCell ⟨q, 1, none⟩ (.slice a6 (N + 1) c6)) (Fw13 (.slice a N c) q) (Fw13 (.slice a6 (N + 1) c6) q)) := by
              have hb := H6.out.1
              have hg := H7.out.2.1
              have hs := grownBy_setCell w6 ⟨q, 1, none⟩ (.slice a6 (N + 1) c6)
              have hq := H7.out.2.2.2
              have hap : (Value.slice a6 (N + 1) c6).ownBlock ≠ some q := hq.apart H7.out.1 (by decide)
              refine ⟨⟨_, ⟨hq.set 1 _, ?_⟩, rfl⟩, ⟨hs.os.trans (hg.os.trans hb.os), hs.tape.trans (hg.tape.trans hb.tape), hs.output.trans (hg.output.trans hb.output), Nat.le_trans hb.size (Nat.le_trans hg.size hs.size), fun k hk hF => ?_, fun k hk => ?_⟩⟩
              · show (w6.setCell ⟨q, 1, none⟩ (.slice a6 (N + 1) c6)).ownsRow 0 54 3 _ (Hq.ins s.l x).length _
                rw [Hq.ins_len, ← HP.out.1]
                exact row_stays H7.out.1 fun k hk => hs.block k (H7.out.1.lt k hk).2 (fun e => hap (by rw [hk, e]))
              · have hsz := hb.size
                have hsg := hg.size
                have hk1 : k ≠ q := fun e => hF (Or.inr e)
                rw [hs.block k (by omega) (fun e => hk1 (by simpa using e)), hg.block k (by omega) (fun e => hF (Or.inl e.symm)), hb.block k hk]
              · rcases hk with hk | rfl
                · rcases H7.out.2.2.1 with e | e
                  · exact Or.inl (Or.inl (by rw [← e]; exact hk))
                  · rw [e] at hk
                    have hsz := hb.size
                    simp only [Option.some.injEq] at hk
                    exact Or.inr (by omega)
                · exact Or.inl (Or.inr rfl)
            clear c61 f61
            generalize w6.setCell ⟨q, 1, none⟩ (.slice a6 (N + 1) c6) = wz at *
            go_wp2
            go_ret
            refine ⟨_, ?_, ?_, HE.out.2⟩
            · rw [HR.out]; rfl
            · rw [HR.out]; exact HE.out.1
    · have HR : Hid (R = (1, s)) := HNO.out (by
        have h : ¬ Hq.may x = true := fun e => hk (Hq.may_iff.1 e).2.2
        simpa using h)
      have hk1 : (x.kind != 1) = true := by simp; omega
      have hk2 : (x.kind != 2) = true := by simp; omega
      clear hk
      go_wp2
      go_ret
      refine ⟨Fw13 v q, ?_, ?_, (HIN.out _ H1.out).2⟩
      · rw [HR.out]; rfl
      · rw [HR.out]; exact ⟨v, (HIN.out _ H1.out).1, rfl⟩
end Go.Proofs.YtjejpkognjedpaaDoor
