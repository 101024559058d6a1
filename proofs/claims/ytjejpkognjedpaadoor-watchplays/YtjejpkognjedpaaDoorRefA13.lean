/- The reference's Arm. -/
import Derived.Test.YtjejpkognjedpaaDoorRefF13
import Derived.Deep.DeepCutAuto
namespace Go.Proofs.YtjejpkognjedpaaDoor
open Go.RowKit

set_option maxRecDepth 20000 in
set_option maxHeartbeats 16000000 in
theorem refArm_none13 (q : Nat) (N c : Nat) (s : Hq.St) (x : Hq.Wt) (w : World) (hl : Rr13 w q s (.slice (none) N c)) (hf : Hq.Fine s) (hN : N = s.l.length) (hNc : N ≤ c ∧ N = 0 ∧ c = 0) (hm : Hq.may x = true) :
    Calls Tryd.prog 14 #[dptr q, .int .i64 x.sess, .string x.path, .int .i64 x.kind] w fun e w' => ∃ F', e = .returned (.int .i64 (Hq.arm s x).1) ∧ LRf w' q (Hq.arm s x).2 F' ∧ Moved w w' (Fw13 (.slice (none) N c) q) F' := by
  obtain ⟨R, hR⟩ : ∃ R, R = Hq.arm s x := ⟨_, rfl⟩
  rw [← hR]
  obtain ⟨p, hp⟩ : ∃ p, p = Hq.pos s.l x := ⟨_, rfl⟩
  obtain ⟨hs, hhs⟩ : ∃ z, z = Hq.has s.l x := ⟨_, rfl⟩
  have hpN : p ≤ N := by rw [hp, hN]; exact Hq.pos_le _ _
  have hN1 : N ≤ 1000 := by rw [hN]; exact hf.len
  have HH : Hid (Rr13 w q s (.slice (none) N c)) := hl
  have H0 : Hid (N = s.l.length ∧ Hq.Fine s ∧ p = Hq.pos s.l x ∧ R = Hq.arm s x ∧ Hq.may x = true ∧ hs = Hq.has s.l x ∧ (N ≤ c ∧ N = 0 ∧ c = 0)) := ⟨hN, hf, hp, hR, hm, hhs, hNc⟩
  obtain ⟨hm1, hm2, hm3⟩ := Hq.may_iff.1 hm
  have hsz : x.path.size ≤ maxLen := by
    have e1 := (Pl.good_parts hm2).2.2
    have e2 : x.path.size = x.path.data.toList.length := Lib.size_eq x.path
    unfold maxLen
    omega
  have HG : Hid (Calls Tryd.prog 27 #[.string x.path] w fun e w' => e = .returned (.bool true) ∧ Below w.heap.size w w') := by
    rw [← hm2]
    exact Pa.refGood_any x.path w hsz
  have h1 : ¬ x.sess < 1 := by omega
  have hkb : ((x.kind != 1) = false) ∨ ((x.kind != 1) = true ∧ (x.kind != 2) = false) := by
    rcases hm3 with e | e <;> simp [e]
  have Nc : (N : Int) ≤ (c : Int) := by have := H0.out.2.2.2.2.2.2; omega
  clear hl hf hN hR hp hhs hm hm1 hm2 hm3 hsz hNc
  unfold dptr
  go_enter Tryd.func14, Tryd.ntmps14
  go_upto_region 1 with fail
  go_cut [25] (fun z wx => z = .bool false ∧ Below w.heap.size w wx)
  case first =>
    go_wp2_with fail
    refine HG.out.mono ?_
    rintro e w1 ⟨rfl, hb1⟩
    have H1 : Hid (Below w.heap.size w w1) := hb1
    clear hb1
    rcases hkb with hk1 | ⟨hk1, hk2⟩
    · go_wp2
      go_meet
      exact ⟨by go_num, H1.out⟩
    · go_wp2
      go_meet
      exact ⟨by go_num, H1.out⟩
  case rest =>
    obtain ⟨rfl, hb⟩ := hcut
    obtain ⟨b, hbb⟩ : ∃ z, z = wc.heap.size := ⟨_, rfl⟩
    have H1 : Hid (Below w.heap.size w (wc.alloc (.cells #[.int .i64 x.sess, .string x.path, .int .i64 x.kind] 63)) ∧ Cb (wc.alloc (.cells #[.int .i64 x.sess, .string x.path, .int .i64 x.kind] 63)) b (ev x) 63) := by
      have h2 := (Below.refl _ wc).alloc (Nat.le_refl _) (.cells #[.int .i64 x.sess, .string x.path, .int .i64 x.kind] 63)
      rw [hbb]
      exact ⟨hb.trans (h2.mono hb.size), Cb.made wc _ _⟩
    clear hb HG hkb h1
    go_upto_region 4 with fail
    rw [← hbb]
    clear hbb
    generalize wc.alloc (.cells #[.int .i64 x.sess, .string x.path, .int .i64 x.kind] 63) = w1 at *
    go_wp2
    go_loopw [10] (fun i wx => ∃ k : Nat, k ≤ p ∧ i = .int .i64 (k : Int) ∧ Below w.heap.size w wx ∧ Cb wx b (ev x) 63) (fun i _ => N + 1 - (intOf i).toNat)
    case atStart => exact ⟨0, Nat.zero_le _, rfl, H1.out.1, H1.out.2⟩
    case round =>
      obtain ⟨k, hk, rfl, hb, hcb⟩ := hrel
      have HW : Hid (Below w.heap.size w wr ∧ Cb wr b (ev x) 63) := ⟨hb, hcb⟩
      clear hb hcb H1
      have k0 : (0 : Int) ≤ (k : Int) := by omega
      have hwk : IntKind.wrap .i64 ((k : Int) + 1) = (k : Int) + 1 := by rw [IntKind.wrap_i64]; omega
      have HSL : Hid (∀ w', Below w.heap.size w w' → Cb w' b (ev x) 63 → w'.cell? ⟨q, 1, none⟩ = some (.slice (none) N c) ∧ w'.cell? ⟨b, 0, none⟩ = some (.int .i64 x.sess) ∧ w'.cell? ⟨b, 1, none⟩ = some (.string x.path) ∧ w'.cell? ⟨b, 2, none⟩ = some (.int .i64 x.kind)) := fun w' hb hc => ⟨(HH.out.later hb).blk.cell 1, hc.cell 0, hc.cell 1, hc.cell 2⟩
      go_upto_region 5 with fail
      go_cut [47] (fun z wx => z = .bool (decide (k < p)) ∧ Below w.heap.size w wx ∧ Cb wx b (ev x) 63)
      case first =>
        have hlt' : ¬ (k : Int) < (N : Int) := by have := H0.out.2.2.2.2.2.2; omega
        have HKP : Hid (decide (k < p) = false) := (show decide (k < p) = false by simp; have := H0.out.2.2.2.2.2.2; omega)
        obtain ⟨q1, q2, q3, q4⟩ := HSL.out _ HW.out.1 HW.out.2
        go_quiet (fail)
        have H2 : Hid (Below w.heap.size w (wr.drewN nq) ∧ Cb (wr.drewN nq) b (ev x) 63) := ⟨below_drewN HW.out.1 _, HW.out.2⟩
        clear q1 q2 q3 q4
        go_wp2
        go_meet
        exact ⟨by rw [HKP.out], H2.out.1, H2.out.2⟩
      case rest =>
        obtain ⟨rfl, hb2, hc2⟩ := hcut
        have H2 : Hid (Below w.heap.size w wc ∧ Cb wc b (ev x) 63) := ⟨hb2, hc2⟩
        clear hb2 hc2 HW
        by_cases hkp : k < p
        · have hkd : decide (k < p) = true := by simp [hkp]
          rw [hkd]
          clear hkd
          go_wp2
          go_roundw
          case rel => exact ⟨k + 1, by omega, by go_num, H2.out.1, H2.out.2⟩
          case measure => simp [intOf]; omega
        · have hkd : decide (k < p) = false := by simp [hkp]
          rw [hkd]
          have HKP : Hid (k = p) := (show k = p by omega)
          have hkN : k ≤ N := by omega
          clear hkd hkp hk
          go_upto_region 7 with fail
          go_cut [67] (fun z wx => z = .bool hs ∧ Below w.heap.size w wx ∧ Cb wx b (ev x) 63)
          case first =>
            have hlt' : ¬ (k : Int) < (N : Int) := by have := H0.out.2.2.2.2.2.2; omega
            have HNH : Hid (hs = false) := (show hs = false by
              rw [H0.out.2.2.2.2.2.1]
              cases e : Hq.has s.l x with
              | false => rfl
              | true =>
                have h5 := (List.getElem?_eq_some_iff.1 ((Hq.pos_at H0.out.2.1.rises).1 e)).1
                rw [← H0.out.2.2.1, ← HKP.out, ← H0.out.1] at h5
                omega)
            obtain ⟨q1, q2, q3, q4⟩ := HSL.out _ H2.out.1 H2.out.2
            go_quiet (fail)
            have H3 : Hid (Below w.heap.size w (wc.drewN nq) ∧ Cb (wc.drewN nq) b (ev x) 63) := ⟨below_drewN H2.out.1 _, H2.out.2⟩
            clear q1 q2 q3 q4
            go_wp2
            go_meet
            exact ⟨by rw [HNH.out], H3.out.1, H3.out.2⟩
          case rest =>
            obtain ⟨rfl, hb3, hc3⟩ := hcut
            have H3 : Hid (Below w.heap.size w wc ∧ Cb wc b (ev x) 63) := ⟨hb3, hc3⟩
            clear hb3 hc3 H2
            cases hs with
            | true =>
              have HR : Hid (R = (0, s)) := (show R = (0, s) by
                rw [H0.out.2.2.2.1]
                unfold Hq.arm
                rw [H0.out.2.2.2.2.1, ← H0.out.2.2.2.2.2.1]
                rfl)
              go_wp2
              go_ret
              refine ⟨_, ?_, ?_, Moved.of_below _ H3.out.1⟩
              · rw [HR.out]; rfl
              · rw [HR.out]; exact ⟨_, HH.out.later H3.out.1, rfl⟩
            | false =>
              have HRR : Hid (R = if s.room ≤ (N : Int) then (9, s) else (0, { s with l := Hq.ins s.l x })) := (show R = _ by
                rw [H0.out.2.2.2.1]
                unfold Hq.arm
                rw [H0.out.2.2.2.2.1, ← H0.out.2.2.2.2.2.1, ← H0.out.1]
                rfl)
              have q0 : wc.cell? ⟨q, 0, none⟩ = some (.int .i64 s.room) := (HH.out.later H3.out.1).blk.cell 0
              have q1 : wc.cell? ⟨q, 1, none⟩ = some (.slice (none) N c) := (HH.out.later H3.out.1).blk.cell 1
              go_upto_region 9 with fail
              by_cases hrm : s.room ≤ (N : Int)
              · have HR : Hid (R = (9, s)) := (show R = (9, s) by rw [HRR.out, if_pos hrm])
                go_quiet (fail)
                have H4 : Hid (Below w.heap.size w (wc.drewN nq)) := below_drewN H3.out.1 _
                clear q0 q1
                go_wp2
                go_ret
                refine ⟨_, ?_, ?_, Moved.of_below _ H4.out⟩
                · rw [HR.out]; rfl
                · rw [HR.out]; exact ⟨_, HH.out.later H4.out, rfl⟩
              · have HR : Hid (R = (0, { s with l := Hq.ins s.l x })) := (show R = _ by rw [HRR.out, if_neg hrm])
                go_quiet (fail)
                have H4 : Hid (Below w.heap.size w (wc.drewN nq) ∧ Cb (wc.drewN nq) b (ev x) 63) := ⟨below_drewN H3.out.1 _, H3.out.2⟩
                clear q0 q1 hrm HSL H3
                generalize wc.drewN nq = w4 at *
                have kN : (k : Int) ≤ (N : Int) := by omega
                have kc : (k : Int) ≤ (c : Int) := by omega
                have HM : Hid (N = s.l.length ∧ N ≤ 1000 ∧ k ≤ N ∧ k = Hq.pos s.l x ∧ N ≤ c ∧ N = 0 ∧ c = 0) := ⟨H0.out.1, hN1, hkN, by rw [HKP.out]; exact H0.out.2.2.1, H0.out.2.2.2.2.2.2⟩
                go_upto_region 11 with fail
                refine wp_region_U (fun w' => Below w4.drew.heap.size w4.drew w') [21] (by kernel_rfl) ?_
                have HBX : Hid (Below w.heap.size w w4.drew) := H4.out.1.drew
                have HN : Hid (Cb w4.drew b (ev x) 63) := H4.out.2
                generalize w4.drew = wX at *
                clear H4
                have HX : Hid (∀ w', Below wX.heap.size wX w' → w'.cell? ⟨q, 1, none⟩ = some (.slice (none) N c) ∧ w'.cell? ⟨b, 0, none⟩ = some (.int .i64 x.sess) ∧ w'.cell? ⟨b, 1, none⟩ = some (.string x.path) ∧ w'.cell? ⟨b, 2, none⟩ = some (.int .i64 x.kind)) := fun w' hb => ⟨(HH.out.later (HBX.out.trans (hb.mono HBX.out.size))).blk.cell 1, (HN.out.below hb).cell 0, (HN.out.below hb).cell 1, (HN.out.below hb).cell 2⟩
                have HB0 : Hid (Below wX.heap.size wX wX) := Below.refl _ _
                have HSRC : Hid (∀ w', Below wX.heap.size wX w' → Sev13 w' (.slice none k c) (s.l.take k) ∧ Sev13 w' (.slice none (N - k) (c - k)) (s.l.drop k)) := by
                  have hm := HM.out
                  have e1 : k = 0 := by omega
                  have e2 : N - k = 0 := by omega
                  have e3 : c - k = 0 := by omega
                  exact fun w' hb => ⟨Or.inl ⟨by rw [e1, hm.2.2.2.2.2.2], by rw [e1]; rfl⟩, Or.inl ⟨by rw [e2, e3], List.drop_eq_nil_iff.2 (by omega)⟩⟩
                refine' take_U (i := 0) (d := 78) (v := _) rfl rfl (by kernel_rfl) (by kernel_rfl) (by kernel_rfl) (by kernel_rfl) (by kernel_rfl) (by kernel_rfl) (fun _ _ _ h => h) (Or.inl ⟨by rfl, ?h0⟩) (HB0.out) ?_
                case h0 =>
                  intro wt hSw
                  go_simp
                  with_reducible rfl
                simp only [List.setIfInBounds_toArray, List.set_cons_zero, List.set_cons_succ]
                refine' take_U (i := 2) (d := 80) (v := _) rfl rfl (by kernel_rfl) (by kernel_rfl) (by kernel_rfl) (by kernel_rfl) (by kernel_rfl) (by kernel_rfl) (fun _ _ _ h => h) (Or.inl ⟨by rfl, ?h2⟩) (HB0.out) ?_
                case h2 =>
                  intro wt hSw
                  go_simp
                  with_reducible rfl
                simp only [List.setIfInBounds_toArray, List.set_cons_zero, List.set_cons_succ]
                refine' take_U (i := 3) (d := 81) (v := _) rfl rfl (by kernel_rfl) (by kernel_rfl) (by kernel_rfl) (by kernel_rfl) (by kernel_rfl) (by kernel_rfl) (fun _ _ _ h => h) (Or.inl ⟨by rfl, ?h3⟩) (HB0.out) ?_
                case h3 =>
                  intro wt hSw
                  go_simp
                  with_reducible rfl
                simp only [List.setIfInBounds_toArray, List.set_cons_zero, List.set_cons_succ]
                refine' take_U (i := 4) (d := 82) (v := _) rfl rfl (by kernel_rfl) (by kernel_rfl) (by kernel_rfl) (by kernel_rfl) (by kernel_rfl) (by kernel_rfl) (fun _ _ _ h => h) (Or.inl ⟨by rfl, ?h4⟩) (HB0.out) ?_
                case h4 =>
                  intro wt hSw
                  go_simp
                  with_reducible rfl
                simp only [List.setIfInBounds_toArray, List.set_cons_zero, List.set_cons_succ]
                refine' take_U (i := 5) (d := 83) (v := _) rfl rfl (by kernel_rfl) (by kernel_rfl) (by kernel_rfl) (by kernel_rfl) (by kernel_rfl) (by kernel_rfl) (fun _ _ _ h => h) (Or.inl ⟨by rfl, ?h5⟩) (HB0.out) ?_
                case h5 =>
                  intro wt hSw
                  obtain ⟨x1, y0, y1, y2⟩ := HX.out wt hSw
                  go_simp
                  with_reducible rfl
                simp only [List.setIfInBounds_toArray, List.set_cons_zero, List.set_cons_succ]
                refine' take_U (i := 6) (d := 84) (v := _) rfl rfl (by kernel_rfl) (by kernel_rfl) (by kernel_rfl) (by kernel_rfl) (by kernel_rfl) (by kernel_rfl) (fun _ _ _ h => h) (Or.inl ⟨by rfl, ?h6⟩) (HB0.out) ?_
                case h6 =>
                  intro wt hSw
                  go_simp
                  with_reducible rfl
                simp only [List.setIfInBounds_toArray, List.set_cons_zero, List.set_cons_succ]
                refine' take_U (i := 7) (d := 85) (v := _) rfl rfl (by kernel_rfl) (by kernel_rfl) (by kernel_rfl) (by kernel_rfl) (by kernel_rfl) (by kernel_rfl) (fun _ _ _ h => h) (Or.inl ⟨by rfl, ?h7⟩) (HB0.out) ?_
                case h7 =>
                  intro wt hSw
                  go_simp
                  with_reducible rfl
                simp only [List.setIfInBounds_toArray, List.set_cons_zero, List.set_cons_succ]
                refine' take_U (i := 9) (d := 87) (v := _) rfl rfl (by kernel_rfl) (by kernel_rfl) (by kernel_rfl) (by kernel_rfl) (by kernel_rfl) (by kernel_rfl) (fun _ _ _ h => h) (Or.inl ⟨by rfl, ?h9⟩) (HB0.out) ?_
                case h9 =>
                  intro wt hSw
                  obtain ⟨x1, y0, y1, y2⟩ := HX.out wt hSw
                  go_simp
                  with_reducible rfl
                simp only [List.setIfInBounds_toArray, List.set_cons_zero, List.set_cons_succ]
                refine' take_U (i := 12) (d := 90) (v := _) rfl rfl (by kernel_rfl) (by kernel_rfl) (by kernel_rfl) (by kernel_rfl) (by kernel_rfl) (by kernel_rfl) (fun _ _ _ h => h) (Or.inl ⟨by rfl, ?h12⟩) (HB0.out) ?_
                case h12 =>
                  intro wt hSw
                  go_simp
                  with_reducible rfl
                simp only [List.setIfInBounds_toArray, List.set_cons_zero, List.set_cons_succ]
                refine' take_U (i := 13) (d := 91) (v := _) rfl rfl (by kernel_rfl) (by kernel_rfl) (by kernel_rfl) (by kernel_rfl) (by kernel_rfl) (by kernel_rfl) (fun _ _ _ h => h) (Or.inl ⟨by rfl, ?h13⟩) (HB0.out) ?_
                case h13 =>
                  intro wt hSw
                  go_simp
                  with_reducible rfl
                simp only [List.setIfInBounds_toArray, List.set_cons_zero, List.set_cons_succ]
                refine' take_U (i := 14) (d := 92) (v := _) rfl rfl (by kernel_rfl) (by kernel_rfl) (by kernel_rfl) (by kernel_rfl) (by kernel_rfl) (by kernel_rfl) (fun _ _ _ h => h) (Or.inl ⟨by rfl, ?h14⟩) (HB0.out) ?_
                case h14 =>
                  intro wt hSw
                  go_simp
                  with_reducible rfl
                simp only [List.setIfInBounds_toArray, List.set_cons_zero, List.set_cons_succ]
                refine' take_U (i := 15) (d := 93) (v := _) rfl rfl (by kernel_rfl) (by kernel_rfl) (by kernel_rfl) (by kernel_rfl) (by kernel_rfl) (by kernel_rfl) (fun _ _ _ h => h) (Or.inl ⟨by rfl, ?h15⟩) (HB0.out) ?_
                case h15 =>
                  intro wt hSw
                  obtain ⟨x1, y0, y1, y2⟩ := HX.out wt hSw
                  go_simp
                  with_reducible rfl
                simp only [List.setIfInBounds_toArray, List.set_cons_zero, List.set_cons_succ]
                refine' take_U (i := 16) (d := 94) (v := _) rfl rfl (by kernel_rfl) (by kernel_rfl) (by kernel_rfl) (by kernel_rfl) (by kernel_rfl) (by kernel_rfl) (fun _ _ _ h => h) (Or.inl ⟨by rfl, ?h16⟩) (HB0.out) ?_
                case h16 =>
                  intro wt hSw
                  go_simp
                  with_reducible rfl
                simp only [List.setIfInBounds_toArray, List.set_cons_zero, List.set_cons_succ]
                refine' take_U (i := 17) (d := 95) (v := _) rfl rfl (by kernel_rfl) (by kernel_rfl) (by kernel_rfl) (by kernel_rfl) (by kernel_rfl) (by kernel_rfl) (fun _ _ _ h => h) (Or.inl ⟨by rfl, ?h17⟩) (HB0.out) ?_
                case h17 =>
                  intro wt hSw
                  go_simp
                  with_reducible rfl
                simp only [List.setIfInBounds_toArray, List.set_cons_zero, List.set_cons_succ]
                refine wpAnyU_ready (rs := [1, 10]) (by kernel_rfl) (by simp) ?_
                refine AllReadyU.cons (o := _) rfl (fun K hK => ?_) (AllReadyU.cons (o := _) rfl (fun K hK => ?_) AllReadyU.nil)
                · go_simp
                  obtain ⟨q0, hqq⟩ : ∃ z, z = wX.heap.size := ⟨_, rfl⟩
                  rw [← hqq]
                  have HB1 : Hid (Below wX.heap.size wX (wX.alloc (.cells #[] 63))) := HB0.out.alloc HB0.out.size _
                  have HO1 : Hid ((wX.alloc (.cells #[] 63)).ownsRow wX.heap.size 63 3 (.slice (some ⟨q0, 0, none⟩) 0 0) ([] : List Hq.Wt).length (evs13 [])) := by rw [hqq]; exact World.ownsRow_made wX #[] 0 HB0.out.size (by decide) rfl
                  clear hqq
                  generalize wX.alloc (.cells #[] 63) = wY1 at *
                  refine hK.out _ _ (fun _ _ => HB1.out) ?_
                  clear hK K
                  refine wpAnyU_ready (rs := [8, 10]) (by kernel_rfl) (by simp) ?_
                  refine AllReadyU.cons (o := _) rfl (fun K hK => ?_) (AllReadyU.cons (o := _) rfl (fun K hK => ?_) AllReadyU.nil)
                  · refine wp_evr13 _ _ rfl wX.heap.size (.slice (some ⟨q0, 0, none⟩) 0 0) (.slice (none) k c) [] (s.l.take k) wY1 rfl rfl HO1.out HB1.out.size (HSRC.out _ HB1.out).1 (by have := HM.out; simp only [List.length_nil, List.length_take]; omega) ?_
                    intro v34 wY2 ho hb hg
                    rw [List.nil_append] at ho
                    have HO2 : Hid (wY2.ownsRow wX.heap.size 63 3 v34 (s.l.take k).length (evs13 (s.l.take k))) := ho
                    have HB2 : Hid (Below wX.heap.size wX wY2) := HB1.out.trans (hb.mono (Nat.le_refl _))
                    obtain ⟨a34, c34, hv34, _⟩ := row_form ho
                    obtain ⟨n34, hn34⟩ : ∃ z, z = (s.l.take k).length := ⟨_, rfl⟩
                    rw [← hn34] at hv34
                    subst hv34
                    clear ho hb hg hn34
                    go_simp
                    refine hK.out _ _ (fun _ _ => HB2.out) ?_
                    clear hK K
                    refine wpAnyU_ready (rs := [10]) (by kernel_rfl) (by simp) ?_
                    refine AllReadyU.cons (o := _) rfl (fun K hK => ?_) AllReadyU.nil
                    go_simp
                    obtain ⟨qx, hqx⟩ : ∃ z, z = wY2.heap.size := ⟨_, rfl⟩
                    rw [← hqx]
                    have HB3 : Hid (Below wX.heap.size wX (wY2.alloc (.cells #[.int .i64 x.sess, .string x.path, .int .i64 x.kind] 63))) := HB2.out.alloc HB2.out.size _
                    have HS3 : Hid (Sev13 (wY2.alloc (.cells #[.int .i64 x.sess, .string x.path, .int .i64 x.kind] 63)) (.slice (some ⟨qx, 0, none⟩) 1 1) [x]) := by rw [hqx]; exact Sev13.one (Cb.made wY2 (ev x) _)
                    have HQ3 : Hid (qx < (wY2.alloc (.cells #[.int .i64 x.sess, .string x.path, .int .i64 x.kind] 63)).heap.size) := by
                      have e : qx < (wY2.alloc (.cells #[.int .i64 x.sess, .string x.path, .int .i64 x.kind] 63)).heap.size := by rw [hqx]; simp
                      exact e
                    have HO3 : Hid ((wY2.alloc (.cells #[.int .i64 x.sess, .string x.path, .int .i64 x.kind] 63)).ownsRow wX.heap.size 63 3 (.slice a34 n34 c34) (s.l.take k).length (evs13 (s.l.take k))) := HO2.out.alloc _
                    clear hqx
                    generalize wY2.alloc (.cells #[.int .i64 x.sess, .string x.path, .int .i64 x.kind] 63) = wY3 at *
                    refine hK.out _ _ (fun _ _ => HB3.out) ?_
                    clear hK K
                    refine wpAnyU_ready (rs := [11]) (by kernel_rfl) (by simp) ?_
                    refine AllReadyU.cons (o := _) rfl (fun K hK => ?_) AllReadyU.nil
                    refine wp_evr13 _ _ rfl wX.heap.size (.slice a34 n34 c34) (.slice (some ⟨qx, 0, none⟩) 1 1) (s.l.take k) [x] wY3 rfl rfl HO3.out HB3.out.size HS3.out (by have := HM.out; simp only [List.length_singleton, List.length_take]; omega) ?_
                    intro v35 wY4 ho hb hg
                    have HO5 : Hid (wY4.ownsRow wX.heap.size 63 3 v35 (s.l.take k ++ [x]).length (evs13 (s.l.take k ++ [x]))) := ho
                    have HB5 : Hid (Below wX.heap.size wX wY4) := HB3.out.trans (hb.mono (Nat.le_refl _))
                    obtain ⟨a35, c35, hv35, _⟩ := row_form ho
                    obtain ⟨n35, hn35⟩ : ∃ z, z = (s.l.take k ++ [x]).length := ⟨_, rfl⟩
                    rw [← hn35] at hv35
                    subst hv35
                    clear ho hb hg hn35
                    go_simp
                    refine hK.out _ _ (fun _ _ => HB5.out) ?_
                    clear hK K
                    refine wpAnyU_ready (rs := [18]) (by kernel_rfl) (by simp) ?_
                    refine AllReadyU.cons (o := _) rfl (fun K hK => ?_) AllReadyU.nil
                    refine wp_evr13 _ _ rfl wX.heap.size (.slice a35 n35 c35) (.slice none (N - k) (c - k)) (s.l.take k ++ [x]) (s.l.drop k) wY4 rfl rfl HO5.out HB5.out.size (HSRC.out _ HB5.out).2 (by have := HM.out; simp only [List.length_append, List.length_singleton, List.length_drop, List.length_take]; omega) ?_
                    intro v42 wY5 ho hb hg
                    have HB4 : Hid (Below wX.heap.size wX wY5) := HB5.out.trans (hb.mono (Nat.le_refl _))
                    have HBW : Hid (Below w.heap.size w wY5) := HBX.out.trans (HB4.out.mono HBX.out.size)
                    have HO4 : Hid (wY5.ownsRow w.heap.size 63 3 v42 (Hq.ins s.l x).length (evs13 (Hq.ins s.l x))) := by
                      have e : Hq.ins s.l x = s.l.take k ++ [x] ++ s.l.drop k := by unfold Hq.ins; rw [← HM.out.2.2.2.1, List.append_assoc]; rfl
                      rw [e]
                      exact ho.mono HBX.out.size
                    obtain ⟨a42, c42, hv42, _⟩ := row_form ho
                    obtain ⟨n42, hn42⟩ : ∃ z, z = (s.l.take k ++ [x] ++ s.l.drop k).length := ⟨_, rfl⟩
                    rw [← hn42] at hv42
                    subst hv42
                    clear ho hb hg hn42
                    have HQ4 : Hid (wY5.cell? ⟨q, 1, none⟩ = some (.slice (none) N c) ∧ wY5.frozen? ⟨q, 1, none⟩ = false) := ⟨Below.kept HBW.out ((HH.out.blk.cell 1).trans rfl), (HH.out.blk.below HBW.out).free 1⟩
                    go_simp
                    refine hK.out _ _ (fun _ _ => HB4.out) ?_
                    clear hK K
                    refine' take_U (i := 19) (d := 97) (v := _) rfl rfl (by kernel_rfl) (by kernel_rfl) (by kernel_rfl) (by kernel_rfl) (by kernel_rfl) (by kernel_rfl) (fun _ _ _ h => h) (Or.inl ⟨by rfl, ?h19⟩) (HB4.out) ?_
                    case h19 =>
                      intro wt hSw
                      go_simp
                      with_reducible rfl
                    simp only [List.setIfInBounds_toArray, List.set_cons_zero, List.set_cons_succ]
                    refine' take_U (i := 20) (d := 98) (v := _) rfl rfl (by kernel_rfl) (by kernel_rfl) (by kernel_rfl) (by kernel_rfl) (by kernel_rfl) (by kernel_rfl) (fun _ _ _ h => h) (Or.inl ⟨by rfl, ?h20⟩) (HB4.out) ?_
                    case h20 =>
                      intro wt hSw
                      go_simp
                      with_reducible rfl
                    simp only [List.setIfInBounds_toArray, List.set_cons_zero, List.set_cons_succ]
                    refine wpAnyU_ready (rs := [21]) (by kernel_rfl) (by simp) ?_
                    refine AllReadyU.cons (o := _) rfl (fun K hK => ?_) AllReadyU.nil
                    have hc := HQ4.out.1
                    have hz := HQ4.out.2
                    go_simp
                    clear hc hz
                    refine hK.out _ _ (fun h => absurd (by decide) h) ?_
                    clear hK K
                    refine wpAnyU_done (by kernel_rfl) ?_ _
                    have HZ : Hid (LRf (wY5.setCell ⟨q, 1, none⟩ (.slice a42 n42 c42)) q { s with l := Hq.ins s.l x } (Fw13 (.slice a42 n42 c42) q) ∧ Moved w (wY5.setCell ⟨q, 1, none⟩ (.slice a42 n42 c42)) (Fw13 (.slice (none) N c) q) (Fw13 (.slice a42 n42 c42) q)) := HH.out.put HBW.out HO4.out
                    generalize wY5.setCell ⟨q, 1, none⟩ (.slice a42 n42 c42) = wz at *
                    clear HSRC
                    go_wp2
                    go_ret
                    refine ⟨_, ?_, ?_, HZ.out.2⟩
                    · rw [HR.out]; rfl
                    · rw [HR.out]; exact HZ.out.1
                  · go_simp
                    obtain ⟨qx, hqx⟩ : ∃ z, z = wY1.heap.size := ⟨_, rfl⟩
                    rw [← hqx]
                    have HB2 : Hid (Below wX.heap.size wX (wY1.alloc (.cells #[.int .i64 x.sess, .string x.path, .int .i64 x.kind] 63))) := HB1.out.alloc HB1.out.size _
                    have HS2 : Hid (Sev13 (wY1.alloc (.cells #[.int .i64 x.sess, .string x.path, .int .i64 x.kind] 63)) (.slice (some ⟨qx, 0, none⟩) 1 1) [x]) := by rw [hqx]; exact Sev13.one (Cb.made wY1 (ev x) _)
                    have HQ2 : Hid (qx < (wY1.alloc (.cells #[.int .i64 x.sess, .string x.path, .int .i64 x.kind] 63)).heap.size) := by
                      have e : qx < (wY1.alloc (.cells #[.int .i64 x.sess, .string x.path, .int .i64 x.kind] 63)).heap.size := by rw [hqx]; simp
                      exact e
                    have HO2 : Hid ((wY1.alloc (.cells #[.int .i64 x.sess, .string x.path, .int .i64 x.kind] 63)).ownsRow wX.heap.size 63 3 (.slice (some ⟨q0, 0, none⟩) 0 0) ([] : List Hq.Wt).length (evs13 [])) := HO1.out.alloc _
                    have HNE : Hid (q0 ≠ qx) := by
                      have e := (HO1.out.lt q0 rfl).2
                      have e2 : q0 ≠ qx := by omega
                      exact e2
                    clear hqx
                    generalize wY1.alloc (.cells #[.int .i64 x.sess, .string x.path, .int .i64 x.kind] 63) = wY2 at *
                    refine hK.out _ _ (fun _ _ => HB2.out) ?_
                    clear hK K
                    refine wpAnyU_ready (rs := [8]) (by kernel_rfl) (by simp) ?_
                    refine AllReadyU.cons (o := _) rfl (fun K hK => ?_) AllReadyU.nil
                    refine wp_evr13 _ _ rfl wX.heap.size (.slice (some ⟨q0, 0, none⟩) 0 0) (.slice (none) k c) [] (s.l.take k) wY2 rfl rfl HO2.out HB2.out.size (HSRC.out _ HB2.out).1 (by have := HM.out; simp only [List.length_nil, List.length_take]; omega) ?_
                    intro v34 wY3 ho hb hg
                    rw [List.nil_append] at ho
                    have HO3 : Hid (wY3.ownsRow wX.heap.size 63 3 v34 (s.l.take k).length (evs13 (s.l.take k))) := ho
                    have HB3 : Hid (Below wX.heap.size wX wY3) := HB2.out.trans (hb.mono (Nat.le_refl _))
                    have HS3 : Hid (Sev13 wY3 (.slice (some ⟨qx, 0, none⟩) 1 1) [x]) := HS2.out.grown hg (fun e => HNE.out (by simpa [Value.ownBlock] using e))
                    obtain ⟨a34, c34, hv34, _⟩ := row_form ho
                    obtain ⟨n34, hn34⟩ : ∃ z, z = (s.l.take k).length := ⟨_, rfl⟩
                    rw [← hn34] at hv34
                    subst hv34
                    clear ho hb hg hn34
                    go_simp
                    refine hK.out _ _ (fun _ _ => HB3.out) ?_
                    clear hK K
                    refine wpAnyU_ready (rs := [11]) (by kernel_rfl) (by simp) ?_
                    refine AllReadyU.cons (o := _) rfl (fun K hK => ?_) AllReadyU.nil
                    refine wp_evr13 _ _ rfl wX.heap.size (.slice a34 n34 c34) (.slice (some ⟨qx, 0, none⟩) 1 1) (s.l.take k) [x] wY3 rfl rfl HO3.out HB3.out.size HS3.out (by have := HM.out; simp only [List.length_singleton, List.length_take]; omega) ?_
                    intro v35 wY4 ho hb hg
                    have HO5 : Hid (wY4.ownsRow wX.heap.size 63 3 v35 (s.l.take k ++ [x]).length (evs13 (s.l.take k ++ [x]))) := ho
                    have HB5 : Hid (Below wX.heap.size wX wY4) := HB3.out.trans (hb.mono (Nat.le_refl _))
                    obtain ⟨a35, c35, hv35, _⟩ := row_form ho
                    obtain ⟨n35, hn35⟩ : ∃ z, z = (s.l.take k ++ [x]).length := ⟨_, rfl⟩
                    rw [← hn35] at hv35
                    subst hv35
                    clear ho hb hg hn35
                    go_simp
                    refine hK.out _ _ (fun _ _ => HB5.out) ?_
                    clear hK K
                    refine wpAnyU_ready (rs := [18]) (by kernel_rfl) (by simp) ?_
                    refine AllReadyU.cons (o := _) rfl (fun K hK => ?_) AllReadyU.nil
                    refine wp_evr13 _ _ rfl wX.heap.size (.slice a35 n35 c35) (.slice none (N - k) (c - k)) (s.l.take k ++ [x]) (s.l.drop k) wY4 rfl rfl HO5.out HB5.out.size (HSRC.out _ HB5.out).2 (by have := HM.out; simp only [List.length_append, List.length_singleton, List.length_drop, List.length_take]; omega) ?_
                    intro v42 wY5 ho hb hg
                    have HB4 : Hid (Below wX.heap.size wX wY5) := HB5.out.trans (hb.mono (Nat.le_refl _))
                    have HBW : Hid (Below w.heap.size w wY5) := HBX.out.trans (HB4.out.mono HBX.out.size)
                    have HO4 : Hid (wY5.ownsRow w.heap.size 63 3 v42 (Hq.ins s.l x).length (evs13 (Hq.ins s.l x))) := by
                      have e : Hq.ins s.l x = s.l.take k ++ [x] ++ s.l.drop k := by unfold Hq.ins; rw [← HM.out.2.2.2.1, List.append_assoc]; rfl
                      rw [e]
                      exact ho.mono HBX.out.size
                    obtain ⟨a42, c42, hv42, _⟩ := row_form ho
                    obtain ⟨n42, hn42⟩ : ∃ z, z = (s.l.take k ++ [x] ++ s.l.drop k).length := ⟨_, rfl⟩
                    rw [← hn42] at hv42
                    subst hv42
                    clear ho hb hg hn42
                    have HQ4 : Hid (wY5.cell? ⟨q, 1, none⟩ = some (.slice (none) N c) ∧ wY5.frozen? ⟨q, 1, none⟩ = false) := ⟨Below.kept HBW.out ((HH.out.blk.cell 1).trans rfl), (HH.out.blk.below HBW.out).free 1⟩
                    go_simp
                    refine hK.out _ _ (fun _ _ => HB4.out) ?_
                    clear hK K
                    refine' take_U (i := 19) (d := 97) (v := _) rfl rfl (by kernel_rfl) (by kernel_rfl) (by kernel_rfl) (by kernel_rfl) (by kernel_rfl) (by kernel_rfl) (fun _ _ _ h => h) (Or.inl ⟨by rfl, ?h19⟩) (HB4.out) ?_
                    case h19 =>
                      intro wt hSw
                      go_simp
                      with_reducible rfl
                    simp only [List.setIfInBounds_toArray, List.set_cons_zero, List.set_cons_succ]
                    refine' take_U (i := 20) (d := 98) (v := _) rfl rfl (by kernel_rfl) (by kernel_rfl) (by kernel_rfl) (by kernel_rfl) (by kernel_rfl) (by kernel_rfl) (fun _ _ _ h => h) (Or.inl ⟨by rfl, ?h20⟩) (HB4.out) ?_
                    case h20 =>
                      intro wt hSw
                      go_simp
                      with_reducible rfl
                    simp only [List.setIfInBounds_toArray, List.set_cons_zero, List.set_cons_succ]
                    refine wpAnyU_ready (rs := [21]) (by kernel_rfl) (by simp) ?_
                    refine AllReadyU.cons (o := _) rfl (fun K hK => ?_) AllReadyU.nil
                    have hc := HQ4.out.1
                    have hz := HQ4.out.2
                    go_simp
                    clear hc hz
                    refine hK.out _ _ (fun h => absurd (by decide) h) ?_
                    clear hK K
                    refine wpAnyU_done (by kernel_rfl) ?_ _
                    have HZ : Hid (LRf (wY5.setCell ⟨q, 1, none⟩ (.slice a42 n42 c42)) q { s with l := Hq.ins s.l x } (Fw13 (.slice a42 n42 c42) q) ∧ Moved w (wY5.setCell ⟨q, 1, none⟩ (.slice a42 n42 c42)) (Fw13 (.slice (none) N c) q) (Fw13 (.slice a42 n42 c42) q)) := HH.out.put HBW.out HO4.out
                    generalize wY5.setCell ⟨q, 1, none⟩ (.slice a42 n42 c42) = wz at *
                    clear HSRC
                    go_wp2
                    go_ret
                    refine ⟨_, ?_, ?_, HZ.out.2⟩
                    · rw [HR.out]; rfl
                    · rw [HR.out]; exact HZ.out.1
                · go_simp
                  obtain ⟨qx, hqx⟩ : ∃ z, z = wX.heap.size := ⟨_, rfl⟩
                  rw [← hqx]
                  have HB1 : Hid (Below wX.heap.size wX (wX.alloc (.cells #[.int .i64 x.sess, .string x.path, .int .i64 x.kind] 63))) := HB0.out.alloc HB0.out.size _
                  have HS1 : Hid (Sev13 (wX.alloc (.cells #[.int .i64 x.sess, .string x.path, .int .i64 x.kind] 63)) (.slice (some ⟨qx, 0, none⟩) 1 1) [x]) := by rw [hqx]; exact Sev13.one (Cb.made wX (ev x) _)
                  have HQ1 : Hid (qx < (wX.alloc (.cells #[.int .i64 x.sess, .string x.path, .int .i64 x.kind] 63)).heap.size) := by
                    have e : qx < (wX.alloc (.cells #[.int .i64 x.sess, .string x.path, .int .i64 x.kind] 63)).heap.size := by rw [hqx]; simp
                    exact e
                  clear hqx
                  generalize wX.alloc (.cells #[.int .i64 x.sess, .string x.path, .int .i64 x.kind] 63) = wY1 at *
                  refine hK.out _ _ (fun _ _ => HB1.out) ?_
                  clear hK K
                  refine wpAnyU_ready (rs := [1]) (by kernel_rfl) (by simp) ?_
                  refine AllReadyU.cons (o := _) rfl (fun K hK => ?_) AllReadyU.nil
                  go_simp
                  obtain ⟨q0, hqq⟩ : ∃ z, z = wY1.heap.size := ⟨_, rfl⟩
                  rw [← hqq]
                  have HB2 : Hid (Below wX.heap.size wX (wY1.alloc (.cells #[] 63))) := HB1.out.alloc HB1.out.size _
                  have HO2 : Hid ((wY1.alloc (.cells #[] 63)).ownsRow wX.heap.size 63 3 (.slice (some ⟨q0, 0, none⟩) 0 0) ([] : List Hq.Wt).length (evs13 [])) := by rw [hqq]; exact World.ownsRow_made wY1 #[] 0 HB1.out.size (by decide) rfl
                  have HS2 : Hid (Sev13 (wY1.alloc (.cells #[] 63)) (.slice (some ⟨qx, 0, none⟩) 1 1) [x]) := HS1.out.below ((Below.refl _ _).alloc (Nat.le_refl _) _)
                  have HNE : Hid (q0 ≠ qx) := by
                    have e := HQ1.out
                    have e2 : q0 ≠ qx := by omega
                    exact e2
                  clear hqq
                  generalize wY1.alloc (.cells #[] 63) = wY2 at *
                  refine hK.out _ _ (fun _ _ => HB2.out) ?_
                  clear hK K
                  refine wpAnyU_ready (rs := [8]) (by kernel_rfl) (by simp) ?_
                  refine AllReadyU.cons (o := _) rfl (fun K hK => ?_) AllReadyU.nil
                  refine wp_evr13 _ _ rfl wX.heap.size (.slice (some ⟨q0, 0, none⟩) 0 0) (.slice (none) k c) [] (s.l.take k) wY2 rfl rfl HO2.out HB2.out.size (HSRC.out _ HB2.out).1 (by have := HM.out; simp only [List.length_nil, List.length_take]; omega) ?_
                  intro v34 wY3 ho hb hg
                  rw [List.nil_append] at ho
                  have HO3 : Hid (wY3.ownsRow wX.heap.size 63 3 v34 (s.l.take k).length (evs13 (s.l.take k))) := ho
                  have HB3 : Hid (Below wX.heap.size wX wY3) := HB2.out.trans (hb.mono (Nat.le_refl _))
                  have HS3 : Hid (Sev13 wY3 (.slice (some ⟨qx, 0, none⟩) 1 1) [x]) := HS2.out.grown hg (fun e => HNE.out (by simpa [Value.ownBlock] using e))
                  obtain ⟨a34, c34, hv34, _⟩ := row_form ho
                  obtain ⟨n34, hn34⟩ : ∃ z, z = (s.l.take k).length := ⟨_, rfl⟩
                  rw [← hn34] at hv34
                  subst hv34
                  clear ho hb hg hn34
                  go_simp
                  refine hK.out _ _ (fun _ _ => HB3.out) ?_
                  clear hK K
                  refine wpAnyU_ready (rs := [11]) (by kernel_rfl) (by simp) ?_
                  refine AllReadyU.cons (o := _) rfl (fun K hK => ?_) AllReadyU.nil
                  refine wp_evr13 _ _ rfl wX.heap.size (.slice a34 n34 c34) (.slice (some ⟨qx, 0, none⟩) 1 1) (s.l.take k) [x] wY3 rfl rfl HO3.out HB3.out.size HS3.out (by have := HM.out; simp only [List.length_singleton, List.length_take]; omega) ?_
                  intro v35 wY4 ho hb hg
                  have HO5 : Hid (wY4.ownsRow wX.heap.size 63 3 v35 (s.l.take k ++ [x]).length (evs13 (s.l.take k ++ [x]))) := ho
                  have HB5 : Hid (Below wX.heap.size wX wY4) := HB3.out.trans (hb.mono (Nat.le_refl _))
                  obtain ⟨a35, c35, hv35, _⟩ := row_form ho
                  obtain ⟨n35, hn35⟩ : ∃ z, z = (s.l.take k ++ [x]).length := ⟨_, rfl⟩
                  rw [← hn35] at hv35
                  subst hv35
                  clear ho hb hg hn35
                  go_simp
                  refine hK.out _ _ (fun _ _ => HB5.out) ?_
                  clear hK K
                  refine wpAnyU_ready (rs := [18]) (by kernel_rfl) (by simp) ?_
                  refine AllReadyU.cons (o := _) rfl (fun K hK => ?_) AllReadyU.nil
                  refine wp_evr13 _ _ rfl wX.heap.size (.slice a35 n35 c35) (.slice none (N - k) (c - k)) (s.l.take k ++ [x]) (s.l.drop k) wY4 rfl rfl HO5.out HB5.out.size (HSRC.out _ HB5.out).2 (by have := HM.out; simp only [List.length_append, List.length_singleton, List.length_drop, List.length_take]; omega) ?_
                  intro v42 wY5 ho hb hg
                  have HB4 : Hid (Below wX.heap.size wX wY5) := HB5.out.trans (hb.mono (Nat.le_refl _))
                  have HBW : Hid (Below w.heap.size w wY5) := HBX.out.trans (HB4.out.mono HBX.out.size)
                  have HO4 : Hid (wY5.ownsRow w.heap.size 63 3 v42 (Hq.ins s.l x).length (evs13 (Hq.ins s.l x))) := by
                    have e : Hq.ins s.l x = s.l.take k ++ [x] ++ s.l.drop k := by unfold Hq.ins; rw [← HM.out.2.2.2.1, List.append_assoc]; rfl
                    rw [e]
                    exact ho.mono HBX.out.size
                  obtain ⟨a42, c42, hv42, _⟩ := row_form ho
                  obtain ⟨n42, hn42⟩ : ∃ z, z = (s.l.take k ++ [x] ++ s.l.drop k).length := ⟨_, rfl⟩
                  rw [← hn42] at hv42
                  subst hv42
                  clear ho hb hg hn42
                  have HQ4 : Hid (wY5.cell? ⟨q, 1, none⟩ = some (.slice (none) N c) ∧ wY5.frozen? ⟨q, 1, none⟩ = false) := ⟨Below.kept HBW.out ((HH.out.blk.cell 1).trans rfl), (HH.out.blk.below HBW.out).free 1⟩
                  go_simp
                  refine hK.out _ _ (fun _ _ => HB4.out) ?_
                  clear hK K
                  refine' take_U (i := 19) (d := 97) (v := _) rfl rfl (by kernel_rfl) (by kernel_rfl) (by kernel_rfl) (by kernel_rfl) (by kernel_rfl) (by kernel_rfl) (fun _ _ _ h => h) (Or.inl ⟨by rfl, ?h19⟩) (HB4.out) ?_
                  case h19 =>
                    intro wt hSw
                    go_simp
                    with_reducible rfl
                  simp only [List.setIfInBounds_toArray, List.set_cons_zero, List.set_cons_succ]
                  refine' take_U (i := 20) (d := 98) (v := _) rfl rfl (by kernel_rfl) (by kernel_rfl) (by kernel_rfl) (by kernel_rfl) (by kernel_rfl) (by kernel_rfl) (fun _ _ _ h => h) (Or.inl ⟨by rfl, ?h20⟩) (HB4.out) ?_
                  case h20 =>
                    intro wt hSw
                    go_simp
                    with_reducible rfl
                  simp only [List.setIfInBounds_toArray, List.set_cons_zero, List.set_cons_succ]
                  refine wpAnyU_ready (rs := [21]) (by kernel_rfl) (by simp) ?_
                  refine AllReadyU.cons (o := _) rfl (fun K hK => ?_) AllReadyU.nil
                  have hc := HQ4.out.1
                  have hz := HQ4.out.2
                  go_simp
                  clear hc hz
                  refine hK.out _ _ (fun h => absurd (by decide) h) ?_
                  clear hK K
                  refine wpAnyU_done (by kernel_rfl) ?_ _
                  have HZ : Hid (LRf (wY5.setCell ⟨q, 1, none⟩ (.slice a42 n42 c42)) q { s with l := Hq.ins s.l x } (Fw13 (.slice a42 n42 c42) q) ∧ Moved w (wY5.setCell ⟨q, 1, none⟩ (.slice a42 n42 c42)) (Fw13 (.slice (none) N c) q) (Fw13 (.slice a42 n42 c42) q)) := HH.out.put HBW.out HO4.out
                  generalize wY5.setCell ⟨q, 1, none⟩ (.slice a42 n42 c42) = wz at *
                  clear HSRC
                  go_wp2
                  go_ret
                  refine ⟨_, ?_, ?_, HZ.out.2⟩
                  · rw [HR.out]; rfl
                  · rw [HR.out]; exact HZ.out.1
set_option maxRecDepth 20000 in
set_option maxHeartbeats 16000000 in
theorem refArm_some13 (q : Nat) (g : Nat) (N c : Nat) (s : Hq.St) (x : Hq.Wt) (w : World) (hl : Rr13 w q s (.slice (some ⟨g, 0, none⟩) N c)) (hf : Hq.Fine s) (hN : N = s.l.length) (hNc : N ≤ c) (hm : Hq.may x = true) :
    Calls Tryd.prog 14 #[dptr q, .int .i64 x.sess, .string x.path, .int .i64 x.kind] w fun e w' => ∃ F', e = .returned (.int .i64 (Hq.arm s x).1) ∧ LRf w' q (Hq.arm s x).2 F' ∧ Moved w w' (Fw13 (.slice (some ⟨g, 0, none⟩) N c) q) F' := by
  obtain ⟨R, hR⟩ : ∃ R, R = Hq.arm s x := ⟨_, rfl⟩
  rw [← hR]
  obtain ⟨p, hp⟩ : ∃ p, p = Hq.pos s.l x := ⟨_, rfl⟩
  obtain ⟨hs, hhs⟩ : ∃ z, z = Hq.has s.l x := ⟨_, rfl⟩
  have hpN : p ≤ N := by rw [hp, hN]; exact Hq.pos_le _ _
  have hN1 : N ≤ 1000 := by rw [hN]; exact hf.len
  have HH : Hid (Rr13 w q s (.slice (some ⟨g, 0, none⟩) N c)) := hl
  have H0 : Hid (N = s.l.length ∧ Hq.Fine s ∧ p = Hq.pos s.l x ∧ R = Hq.arm s x ∧ Hq.may x = true ∧ hs = Hq.has s.l x ∧ (N ≤ c)) := ⟨hN, hf, hp, hR, hm, hhs, hNc⟩
  obtain ⟨hm1, hm2, hm3⟩ := Hq.may_iff.1 hm
  have hsz : x.path.size ≤ maxLen := by
    have e1 := (Pl.good_parts hm2).2.2
    have e2 : x.path.size = x.path.data.toList.length := Lib.size_eq x.path
    unfold maxLen
    omega
  have HG : Hid (Calls Tryd.prog 27 #[.string x.path] w fun e w' => e = .returned (.bool true) ∧ Below w.heap.size w w') := by
    rw [← hm2]
    exact Pa.refGood_any x.path w hsz
  have h1 : ¬ x.sess < 1 := by omega
  have hkb : ((x.kind != 1) = false) ∨ ((x.kind != 1) = true ∧ (x.kind != 2) = false) := by
    rcases hm3 with e | e <;> simp [e]
  have Nc : (N : Int) ≤ (c : Int) := by have := H0.out.2.2.2.2.2.2; omega
  clear hl hf hN hR hp hhs hm hm1 hm2 hm3 hsz hNc
  unfold dptr
  go_enter Tryd.func14, Tryd.ntmps14
  go_upto_region 1 with fail
  go_cut [25] (fun z wx => z = .bool false ∧ Below w.heap.size w wx)
  case first =>
    go_wp2_with fail
    refine HG.out.mono ?_
    rintro e w1 ⟨rfl, hb1⟩
    have H1 : Hid (Below w.heap.size w w1) := hb1
    clear hb1
    rcases hkb with hk1 | ⟨hk1, hk2⟩
    · go_wp2
      go_meet
      exact ⟨by go_num, H1.out⟩
    · go_wp2
      go_meet
      exact ⟨by go_num, H1.out⟩
  case rest =>
    obtain ⟨rfl, hb⟩ := hcut
    obtain ⟨b, hbb⟩ : ∃ z, z = wc.heap.size := ⟨_, rfl⟩
    have H1 : Hid (Below w.heap.size w (wc.alloc (.cells #[.int .i64 x.sess, .string x.path, .int .i64 x.kind] 63)) ∧ Cb (wc.alloc (.cells #[.int .i64 x.sess, .string x.path, .int .i64 x.kind] 63)) b (ev x) 63) := by
      have h2 := (Below.refl _ wc).alloc (Nat.le_refl _) (.cells #[.int .i64 x.sess, .string x.path, .int .i64 x.kind] 63)
      rw [hbb]
      exact ⟨hb.trans (h2.mono hb.size), Cb.made wc _ _⟩
    clear hb HG hkb h1
    go_upto_region 4 with fail
    rw [← hbb]
    clear hbb
    generalize wc.alloc (.cells #[.int .i64 x.sess, .string x.path, .int .i64 x.kind] 63) = w1 at *
    go_wp2
    go_loopw [10] (fun i wx => ∃ k : Nat, k ≤ p ∧ i = .int .i64 (k : Int) ∧ Below w.heap.size w wx ∧ Cb wx b (ev x) 63) (fun i _ => N + 1 - (intOf i).toNat)
    case atStart => exact ⟨0, Nat.zero_le _, rfl, H1.out.1, H1.out.2⟩
    case round =>
      obtain ⟨k, hk, rfl, hb, hcb⟩ := hrel
      have HW : Hid (Below w.heap.size w wr ∧ Cb wr b (ev x) 63) := ⟨hb, hcb⟩
      clear hb hcb H1
      have k0 : (0 : Int) ≤ (k : Int) := by omega
      have hwk : IntKind.wrap .i64 ((k : Int) + 1) = (k : Int) + 1 := by rw [IntKind.wrap_i64]; omega
      have HSL : Hid (∀ w', Below w.heap.size w w' → Cb w' b (ev x) 63 → w'.cell? ⟨q, 1, none⟩ = some (.slice (some ⟨g, 0, none⟩) N c) ∧ w'.cell? ⟨b, 0, none⟩ = some (.int .i64 x.sess) ∧ w'.cell? ⟨b, 1, none⟩ = some (.string x.path) ∧ w'.cell? ⟨b, 2, none⟩ = some (.int .i64 x.kind)) := fun w' hb hc => ⟨(HH.out.later hb).blk.cell 1, hc.cell 0, hc.cell 1, hc.cell 2⟩
      go_upto_region 5 with fail
      go_cut [47] (fun z wx => z = .bool (decide (k < p)) ∧ Below w.heap.size w wx ∧ Cb wx b (ev x) 63)
      case first =>
        by_cases hlt : k < N
        · have hlt' : (k : Int) < (N : Int) := by omega
          obtain ⟨y, hy⟩ : ∃ y, s.l[k]? = some y := ⟨s.l[k]'(by rw [← H0.out.1]; exact hlt), List.getElem?_eq_getElem _⟩
          have HY : Hid (s.l[k]? = some y) := hy
          clear hy
          have HS : Hid (∀ w', Below w.heap.size w w' → Cb w' b (ev x) 63 → w'.cell? ⟨q, 1, none⟩ = some (.slice (some ⟨g, 0, none⟩) N c) ∧ w'.cell? ⟨b, 0, none⟩ = some (.int .i64 x.sess) ∧ w'.cell? ⟨b, 1, none⟩ = some (.string x.path) ∧ w'.cell? ⟨b, 2, none⟩ = some (.int .i64 x.kind) ∧ w'.cell? ⟨g, k * 3, none⟩ = some (.int .i64 y.sess) ∧ w'.cell? ⟨g, k * 3 + 1, none⟩ = some (.string y.path) ∧ w'.cell? ⟨g, k * 3 + 2, none⟩ = some (.int .i64 y.kind)) := fun w' hb hc => by
            have hr := (HH.out.later hb).row
            rw [← H0.out.1] at hr
            obtain ⟨r0, r1, r2⟩ := rrow_at13 hr HY.out
            exact ⟨(HH.out.later hb).blk.cell 1, hc.cell 0, hc.cell 1, hc.cell 2, r0, r1, r2⟩
          refine wp_region_held_drew (S := fun w' => w'.cell? ⟨q, 1, none⟩ = some (.slice (some ⟨g, 0, none⟩) N c) ∧ w'.cell? ⟨b, 0, none⟩ = some (.int .i64 x.sess) ∧ w'.cell? ⟨b, 1, none⟩ = some (.string x.path) ∧ w'.cell? ⟨b, 2, none⟩ = some (.int .i64 x.kind) ∧ w'.cell? ⟨g, k * 3, none⟩ = some (.int .i64 y.sess) ∧ w'.cell? ⟨g, k * 3 + 1, none⟩ = some (.string y.path) ∧ w'.cell? ⟨g, k * 3 + 2, none⟩ = some (.int .i64 y.kind)) (by kernel_rfl) (HS.out _ HW.out.1.drew HW.out.2) (fun _ => ?_)
          have HD : Hid (Below w.heap.size w wr.drew ∧ Cb wr.drew b (ev x) 63) := ⟨HW.out.1.drew, HW.out.2⟩
          clear HW
          generalize wr.drew = wX at *
          refine' take_at (i := 0) (d := 30) (v := _) rfl rfl (by kernel_rfl) (by kernel_rfl) (by kernel_rfl) (fun _ _ _ h => h) (Or.inl ⟨by rfl, ?h0⟩) (HS.out _ HD.out.1 HD.out.2) ?_
          case h0 =>
            intro w hSw
            obtain ⟨s1, s2, s3, s4, s5, s6, s7⟩ := hSw
            go_simp
            with_reducible rfl
          simp only [List.setIfInBounds_toArray, List.set_cons_zero, List.set_cons_succ]
          refine' take_at (i := 1) (d := 31) (v := _) rfl rfl (by kernel_rfl) (by kernel_rfl) (by kernel_rfl) (fun _ _ _ h => h) (Or.inl ⟨by rfl, ?h1⟩) (HS.out _ HD.out.1 HD.out.2) ?_
          case h1 =>
            intro w hSw
            obtain ⟨s1, s2, s3, s4, s5, s6, s7⟩ := hSw
            go_simp
            with_reducible rfl
          simp only [List.setIfInBounds_toArray, List.set_cons_zero, List.set_cons_succ]
          refine' take_at (i := 2) (d := 32) (v := _) rfl rfl (by kernel_rfl) (by kernel_rfl) (by kernel_rfl) (fun _ _ _ h => h) (Or.inl ⟨by rfl, ?h2⟩) (HS.out _ HD.out.1 HD.out.2) ?_
          case h2 =>
            intro w hSw
            obtain ⟨s1, s2, s3, s4, s5, s6, s7⟩ := hSw
            go_simp
            with_reducible rfl
          simp only [List.setIfInBounds_toArray, List.set_cons_zero, List.set_cons_succ]
          refine' take_at (i := 3) (d := 33) (v := _) rfl rfl (by kernel_rfl) (by kernel_rfl) (by kernel_rfl) (fun _ _ _ h => h) (Or.inl ⟨by rfl, ?h3⟩) (HS.out _ HD.out.1 HD.out.2) ?_
          case h3 =>
            intro w hSw
            obtain ⟨s1, s2, s3, s4, s5, s6, s7⟩ := hSw
            go_simp
            with_reducible rfl
          simp only [List.setIfInBounds_toArray, List.set_cons_zero, List.set_cons_succ]
          refine' take_at (i := 4) (d := 34) (v := _) rfl rfl (by kernel_rfl) (by kernel_rfl) (by kernel_rfl) (fun _ _ _ h => h) (Or.inl ⟨by rfl, ?h4⟩) (HS.out _ HD.out.1 HD.out.2) ?_
          case h4 =>
            intro w hSw
            obtain ⟨s1, s2, s3, s4, s5, s6, s7⟩ := hSw
            go_simp
            with_reducible rfl
          simp only [List.setIfInBounds_toArray, List.set_cons_zero, List.set_cons_succ]
          refine' take_at (i := 5) (d := 35) (v := _) rfl rfl (by kernel_rfl) (by kernel_rfl) (by kernel_rfl) (fun _ _ _ h => h) (Or.inl ⟨by rfl, ?h5⟩) (HS.out _ HD.out.1 HD.out.2) ?_
          case h5 =>
            intro w hSw
            obtain ⟨s1, s2, s3, s4, s5, s6, s7⟩ := hSw
            go_simp
            with_reducible rfl
          simp only [List.setIfInBounds_toArray, List.set_cons_zero, List.set_cons_succ]
          refine' take_at (i := 6) (d := 36) (v := _) rfl rfl (by kernel_rfl) (by kernel_rfl) (by kernel_rfl) (fun _ _ _ h => h) (Or.inl ⟨by rfl, ?h6⟩) (HS.out _ HD.out.1 HD.out.2) ?_
          case h6 =>
            intro w hSw
            obtain ⟨s1, s2, s3, s4, s5, s6, s7⟩ := hSw
            go_simp
            with_reducible rfl
          simp only [List.setIfInBounds_toArray, List.set_cons_zero, List.set_cons_succ]
          refine' take_at (i := 7) (d := 37) (v := _) rfl rfl (by kernel_rfl) (by kernel_rfl) (by kernel_rfl) (fun _ _ _ h => h) (Or.inl ⟨by rfl, ?h7⟩) (HS.out _ HD.out.1 HD.out.2) ?_
          case h7 =>
            intro w hSw
            obtain ⟨s1, s2, s3, s4, s5, s6, s7⟩ := hSw
            go_simp
            with_reducible rfl
          simp only [List.setIfInBounds_toArray, List.set_cons_zero, List.set_cons_succ]
          refine' take_at (i := 8) (d := 38) (v := _) rfl rfl (by kernel_rfl) (by kernel_rfl) (by kernel_rfl) (fun _ _ _ h => h) (Or.inl ⟨by rfl, ?h8⟩) (HS.out _ HD.out.1 HD.out.2) ?_
          case h8 =>
            intro w hSw
            obtain ⟨s1, s2, s3, s4, s5, s6, s7⟩ := hSw
            go_simp
            with_reducible rfl
          simp only [List.setIfInBounds_toArray, List.set_cons_zero, List.set_cons_succ]
          refine' take_at (i := 9) (d := 39) (v := _) rfl rfl (by kernel_rfl) (by kernel_rfl) (by kernel_rfl) (fun _ _ _ h => h) (Or.inl ⟨by rfl, ?h9⟩) (HS.out _ HD.out.1 HD.out.2) ?_
          case h9 =>
            intro w hSw
            obtain ⟨s1, s2, s3, s4, s5, s6, s7⟩ := hSw
            go_simp
            with_reducible rfl
          simp only [List.setIfInBounds_toArray, List.set_cons_zero, List.set_cons_succ]
          refine' take_at (i := 10) (d := 40) (v := _) rfl rfl (by kernel_rfl) (by kernel_rfl) (by kernel_rfl) (fun _ _ _ h => h) (Or.inl ⟨by rfl, ?h10⟩) (HS.out _ HD.out.1 HD.out.2) ?_
          case h10 =>
            intro w hSw
            obtain ⟨s1, s2, s3, s4, s5, s6, s7⟩ := hSw
            go_simp
            with_reducible rfl
          simp only [List.setIfInBounds_toArray, List.set_cons_zero, List.set_cons_succ]
          refine' take_at (i := 11) (d := 41) (v := _) rfl rfl (by kernel_rfl) (by kernel_rfl) (by kernel_rfl) (fun _ _ _ h => h) (Or.inl ⟨by rfl, ?h11⟩) (HS.out _ HD.out.1 HD.out.2) ?_
          case h11 =>
            intro w hSw
            obtain ⟨s1, s2, s3, s4, s5, s6, s7⟩ := hSw
            go_simp
            with_reducible rfl
          simp only [List.setIfInBounds_toArray, List.set_cons_zero, List.set_cons_succ]
          refine' take_at (i := 12) (d := 42) (v := _) rfl rfl (by kernel_rfl) (by kernel_rfl) (by kernel_rfl) (fun _ _ _ h => h) (Or.inl ⟨by rfl, ?h12⟩) (HS.out _ HD.out.1 HD.out.2) ?_
          case h12 =>
            intro w hSw
            obtain ⟨s1, s2, s3, s4, s5, s6, s7⟩ := hSw
            go_simp
            with_reducible rfl
          simp only [List.setIfInBounds_toArray, List.set_cons_zero, List.set_cons_succ]
          refine' take_at (i := 13) (d := 43) (v := _) rfl rfl (by kernel_rfl) (by kernel_rfl) (by kernel_rfl) (fun _ _ _ h => h) (Or.inl ⟨by rfl, ?h13⟩) (HS.out _ HD.out.1 HD.out.2) ?_
          case h13 =>
            intro w hSw
            obtain ⟨s1, s2, s3, s4, s5, s6, s7⟩ := hSw
            go_simp
            with_reducible rfl
          simp only [List.setIfInBounds_toArray, List.set_cons_zero, List.set_cons_succ]
          refine' take_at (i := 14) (d := 44) (v := _) rfl rfl (by kernel_rfl) (by kernel_rfl) (by kernel_rfl) (fun _ _ _ h => h) (Or.inl ⟨by rfl, ?h14⟩) (HS.out _ HD.out.1 HD.out.2) ?_
          case h14 =>
            intro w hSw
            obtain ⟨s1, s2, s3, s4, s5, s6, s7⟩ := hSw
            go_simp
            with_reducible rfl
          simp only [List.setIfInBounds_toArray, List.set_cons_zero, List.set_cons_succ]
          refine' take_at (i := 15) (d := 45) (v := _) rfl rfl (by kernel_rfl) (by kernel_rfl) (by kernel_rfl) (fun _ _ _ h => h) (Or.inl ⟨by rfl, ?h15⟩) (HS.out _ HD.out.1 HD.out.2) ?_
          case h15 =>
            intro w hSw
            obtain ⟨s1, s2, s3, s4, s5, s6, s7⟩ := hSw
            go_simp
            with_reducible rfl
          simp only [List.setIfInBounds_toArray, List.set_cons_zero, List.set_cons_succ]
          refine wpAnyH_ready (rs := [16]) (by kernel_rfl) (by simp) ?_
          refine AllReadyH.cons (o := _) rfl (fun KQ hKQ => ?_) AllReadyH.nil
          go_simp
          refine (before_any13 y x wX).mono ?_
          rintro e w2 ⟨rfl, hb2⟩
          have H2 : Hid (Below w.heap.size w w2 ∧ Cb w2 b (ev x) 63) := ⟨HD.out.1.trans (hb2.mono HD.out.1.size), HD.out.2.below hb2⟩
          clear hb2
          refine hKQ.out _ _ (HS.out _ H2.out.1 H2.out.2) (fun _ => ?_)
          clear hKQ KQ
          have HZ : Hid (Hq.lt y x = decide (k < p)) := (show Hq.lt y x = decide (k < p) by
            rcases Nat.lt_or_ge k p with h4 | h4
            · rw [Hq.pos_low (by rw [← H0.out.2.2.1]; exact h4) HY.out]
              simp [h4]
            · rw [Hq.pos_high H0.out.2.1.rises (by rw [← H0.out.2.2.1]; exact h4) HY.out]
              simp
              omega)
          rw [HZ.out]
          refine' take_at (i := 17) (d := 47) (v := _) rfl rfl (by kernel_rfl) (by kernel_rfl) (by kernel_rfl) (fun _ _ _ h => h) (Or.inl ⟨by rfl, ?h17⟩) (HS.out _ H2.out.1 H2.out.2) ?_
          case h17 =>
            intro w hSw
            clear hSw
            go_simp
            with_reducible rfl
          simp only [List.setIfInBounds_toArray, List.set_cons_zero, List.set_cons_succ]
          refine wpAnyH_done (by kernel_rfl) ?_ _
          go_wp2
          go_meet
          exact ⟨rfl, H2.out.1, H2.out.2⟩
        · have hlt' : ¬ (k : Int) < (N : Int) := by omega
          have HKP : Hid (decide (k < p) = false) := (show decide (k < p) = false by simp; omega)
          obtain ⟨q1, q2, q3, q4⟩ := HSL.out _ HW.out.1 HW.out.2
          go_quiet (fail)
          have H2 : Hid (Below w.heap.size w (wr.drewN nq) ∧ Cb (wr.drewN nq) b (ev x) 63) := ⟨below_drewN HW.out.1 _, HW.out.2⟩
          clear q1 q2 q3 q4
          go_wp2
          go_meet
          exact ⟨by rw [HKP.out], H2.out.1, H2.out.2⟩
      case rest =>
        obtain ⟨rfl, hb2, hc2⟩ := hcut
        have H2 : Hid (Below w.heap.size w wc ∧ Cb wc b (ev x) 63) := ⟨hb2, hc2⟩
        clear hb2 hc2 HW
        by_cases hkp : k < p
        · have hkd : decide (k < p) = true := by simp [hkp]
          rw [hkd]
          clear hkd
          go_wp2
          go_roundw
          case rel => exact ⟨k + 1, by omega, by go_num, H2.out.1, H2.out.2⟩
          case measure => simp [intOf]; omega
        · have hkd : decide (k < p) = false := by simp [hkp]
          rw [hkd]
          have HKP : Hid (k = p) := (show k = p by omega)
          have hkN : k ≤ N := by omega
          clear hkd hkp hk
          go_upto_region 7 with fail
          go_cut [67] (fun z wx => z = .bool hs ∧ Below w.heap.size w wx ∧ Cb wx b (ev x) 63)
          case first =>
            by_cases hlt : k < N
            · have hlt' : (k : Int) < (N : Int) := by omega
              obtain ⟨y, hy⟩ : ∃ y, s.l[k]? = some y := ⟨s.l[k]'(by rw [← H0.out.1]; exact hlt), List.getElem?_eq_getElem _⟩
              have HNH : Hid (hs = Hq.same y x) := (show hs = Hq.same y x by
                have h1 := Hq.pos_at (x := x) H0.out.2.1.rises
                rw [← H0.out.2.2.1, ← HKP.out, hy] at h1
                rw [H0.out.2.2.2.2.2.1]
                cases e2 : Hq.has s.l x with
                | true => exact (Hq.same_iff.2 (Option.some.inj (h1.1 e2))).symm
                | false =>
                  cases e3 : Hq.same y x with
                  | false => rfl
                  | true => rw [h1.2 (by rw [Hq.same_iff.1 e3])] at e2; cases e2)
              obtain ⟨q1, q2, q3, q4, q5, q6, q7⟩ : (fun w' : World => w'.cell? ⟨q, 1, none⟩ = some (.slice (some ⟨g, 0, none⟩) N c) ∧ w'.cell? ⟨b, 0, none⟩ = some (.int .i64 x.sess) ∧ w'.cell? ⟨b, 1, none⟩ = some (.string x.path) ∧ w'.cell? ⟨b, 2, none⟩ = some (.int .i64 x.kind) ∧ w'.cell? ⟨g, k * 3, none⟩ = some (.int .i64 y.sess) ∧ w'.cell? ⟨g, k * 3 + 1, none⟩ = some (.string y.path) ∧ w'.cell? ⟨g, k * 3 + 2, none⟩ = some (.int .i64 y.kind)) wc := by
                have hr := (HH.out.later H2.out.1).row
                rw [← H0.out.1] at hr
                obtain ⟨r0, r1, r2⟩ := rrow_at13 hr hy
                exact ⟨(HH.out.later H2.out.1).blk.cell 1, H2.out.2.cell 0, H2.out.2.cell 1, H2.out.2.cell 2, r0, r1, r2⟩
              clear hy
              by_cases e1 : y.sess = x.sess
              · have bs : (y.sess == x.sess) = true := by simp [e1]
                by_cases e2 : y.path = x.path
                · have bp : (y.path.toList == x.path.toList) = true := by rw [e2]; simp
                  by_cases e3 : y.kind = x.kind
                  · have bk : (y.kind == x.kind) = true := by simp [e3]
                    have HNX : Hid (Hq.same y x = true) := (show Hq.same y x = true by unfold Hq.same; simp [e1, e2, e3])
                    rw [HNX.out] at HNH
                    clear e1 e2 e3
                    go_quiet (fail)
                    have H3 : Hid (Below w.heap.size w (wc.drewN nq) ∧ Cb (wc.drewN nq) b (ev x) 63) := ⟨below_drewN H2.out.1 _, H2.out.2⟩
                    clear q1 q2 q3 q4 q5 q6 q7
                    go_wp2
                    go_meet
                    exact ⟨by rw [HNH.out], H3.out.1, H3.out.2⟩
                  · have bk : (y.kind == x.kind) = false := by simp [e3]
                    have HNX : Hid (Hq.same y x = false) := (show Hq.same y x = false by unfold Hq.same; simp [e3])
                    rw [HNX.out] at HNH
                    clear e1 e2 e3
                    go_quiet (fail)
                    have H3 : Hid (Below w.heap.size w (wc.drewN nq) ∧ Cb (wc.drewN nq) b (ev x) 63) := ⟨below_drewN H2.out.1 _, H2.out.2⟩
                    clear q1 q2 q3 q4 q5 q6 q7
                    go_wp2
                    go_meet
                    exact ⟨by rw [HNH.out], H3.out.1, H3.out.2⟩
                · have bp : (y.path.toList == x.path.toList) = false := pathNe13 e2
                  have HNX : Hid (Hq.same y x = false) := (show Hq.same y x = false by unfold Hq.same; simp [e2])
                  rw [HNX.out] at HNH
                  clear e1 e2
                  go_quiet (fail)
                  have H3 : Hid (Below w.heap.size w (wc.drewN nq) ∧ Cb (wc.drewN nq) b (ev x) 63) := ⟨below_drewN H2.out.1 _, H2.out.2⟩
                  clear q1 q2 q3 q4 q5 q6 q7
                  go_wp2
                  go_meet
                  exact ⟨by rw [HNH.out], H3.out.1, H3.out.2⟩
              · have bs : (y.sess == x.sess) = false := by simp [e1]
                have HNX : Hid (Hq.same y x = false) := (show Hq.same y x = false by unfold Hq.same; simp [e1])
                rw [HNX.out] at HNH
                clear e1
                go_quiet (fail)
                have H3 : Hid (Below w.heap.size w (wc.drewN nq) ∧ Cb (wc.drewN nq) b (ev x) 63) := ⟨below_drewN H2.out.1 _, H2.out.2⟩
                clear q1 q2 q3 q4 q5 q6 q7
                go_wp2
                go_meet
                exact ⟨by rw [HNH.out], H3.out.1, H3.out.2⟩
            · have hlt' : ¬ (k : Int) < (N : Int) := by omega
              have HNH : Hid (hs = false) := (show hs = false by
                rw [H0.out.2.2.2.2.2.1]
                cases e : Hq.has s.l x with
                | false => rfl
                | true =>
                  have h5 := (List.getElem?_eq_some_iff.1 ((Hq.pos_at H0.out.2.1.rises).1 e)).1
                  rw [← H0.out.2.2.1, ← HKP.out, ← H0.out.1] at h5
                  omega)
              obtain ⟨q1, q2, q3, q4⟩ := HSL.out _ H2.out.1 H2.out.2
              go_quiet (fail)
              have H3 : Hid (Below w.heap.size w (wc.drewN nq) ∧ Cb (wc.drewN nq) b (ev x) 63) := ⟨below_drewN H2.out.1 _, H2.out.2⟩
              clear q1 q2 q3 q4
              go_wp2
              go_meet
              exact ⟨by rw [HNH.out], H3.out.1, H3.out.2⟩
          case rest =>
            obtain ⟨rfl, hb3, hc3⟩ := hcut
            have H3 : Hid (Below w.heap.size w wc ∧ Cb wc b (ev x) 63) := ⟨hb3, hc3⟩
            clear hb3 hc3 H2
            cases hs with
            | true =>
              have HR : Hid (R = (0, s)) := (show R = (0, s) by
                rw [H0.out.2.2.2.1]
                unfold Hq.arm
                rw [H0.out.2.2.2.2.1, ← H0.out.2.2.2.2.2.1]
                rfl)
              go_wp2
              go_ret
              refine ⟨_, ?_, ?_, Moved.of_below _ H3.out.1⟩
              · rw [HR.out]; rfl
              · rw [HR.out]; exact ⟨_, HH.out.later H3.out.1, rfl⟩
            | false =>
              have HRR : Hid (R = if s.room ≤ (N : Int) then (9, s) else (0, { s with l := Hq.ins s.l x })) := (show R = _ by
                rw [H0.out.2.2.2.1]
                unfold Hq.arm
                rw [H0.out.2.2.2.2.1, ← H0.out.2.2.2.2.2.1, ← H0.out.1]
                rfl)
              have q0 : wc.cell? ⟨q, 0, none⟩ = some (.int .i64 s.room) := (HH.out.later H3.out.1).blk.cell 0
              have q1 : wc.cell? ⟨q, 1, none⟩ = some (.slice (some ⟨g, 0, none⟩) N c) := (HH.out.later H3.out.1).blk.cell 1
              go_upto_region 9 with fail
              by_cases hrm : s.room ≤ (N : Int)
              · have HR : Hid (R = (9, s)) := (show R = (9, s) by rw [HRR.out, if_pos hrm])
                go_quiet (fail)
                have H4 : Hid (Below w.heap.size w (wc.drewN nq)) := below_drewN H3.out.1 _
                clear q0 q1
                go_wp2
                go_ret
                refine ⟨_, ?_, ?_, Moved.of_below _ H4.out⟩
                · rw [HR.out]; rfl
                · rw [HR.out]; exact ⟨_, HH.out.later H4.out, rfl⟩
              · have HR : Hid (R = (0, { s with l := Hq.ins s.l x })) := (show R = _ by rw [HRR.out, if_neg hrm])
                go_quiet (fail)
                have H4 : Hid (Below w.heap.size w (wc.drewN nq) ∧ Cb (wc.drewN nq) b (ev x) 63) := ⟨below_drewN H3.out.1 _, H3.out.2⟩
                clear q0 q1 hrm HSL H3
                generalize wc.drewN nq = w4 at *
                have kN : (k : Int) ≤ (N : Int) := by omega
                have kc : (k : Int) ≤ (c : Int) := by omega
                have HM : Hid (N = s.l.length ∧ N ≤ 1000 ∧ k ≤ N ∧ k = Hq.pos s.l x ∧ N ≤ c) := ⟨H0.out.1, hN1, hkN, by rw [HKP.out]; exact H0.out.2.2.1, H0.out.2.2.2.2.2.2⟩
                go_upto_region 11 with fail
                refine wp_region_U (fun w' => Below w4.drew.heap.size w4.drew w') [21] (by kernel_rfl) ?_
                have HBX : Hid (Below w.heap.size w w4.drew) := H4.out.1.drew
                have HN : Hid (Cb w4.drew b (ev x) 63) := H4.out.2
                generalize w4.drew = wX at *
                clear H4
                have HX : Hid (∀ w', Below wX.heap.size wX w' → w'.cell? ⟨q, 1, none⟩ = some (.slice (some ⟨g, 0, none⟩) N c) ∧ w'.cell? ⟨b, 0, none⟩ = some (.int .i64 x.sess) ∧ w'.cell? ⟨b, 1, none⟩ = some (.string x.path) ∧ w'.cell? ⟨b, 2, none⟩ = some (.int .i64 x.kind)) := fun w' hb => ⟨(HH.out.later (HBX.out.trans (hb.mono HBX.out.size))).blk.cell 1, (HN.out.below hb).cell 0, (HN.out.below hb).cell 1, (HN.out.below hb).cell 2⟩
                have HB0 : Hid (Below wX.heap.size wX wX) := Below.refl _ _
                have HSRC : Hid (∀ w', Below wX.heap.size wX w' → Sev13 w' (.slice (some ⟨g, 0, none⟩) k c) (s.l.take k) ∧ Sev13 w' (.slice (if c = k then some ⟨g, 0, none⟩ else some ⟨g, k * 3, none⟩) (N - k) (c - k)) (s.l.drop k)) := fun w' hb0 => by
                  have hb := HBX.out.trans (hb0.mono HBX.out.size)
                  have hm := HM.out
                  have hr := (HH.out.later hb).row
                  rw [← hm.1] at hr
                  have hcell : ∀ (j : Nat) y, (evs13 s.l)[j]? = some y → w'.cell? ⟨g, j, none⟩ = some y := fun j y hy => by
                    have hj := (List.getElem?_eq_some_iff.1 hy).1
                    rw [evs13_len] at hj
                    rw [hr.cellAt j (by omega)]
                    exact hy
                  have e0 : evs13 s.l = evs13 (s.l.take k) ++ evs13 (s.l.drop k) := by rw [← evs13_app, List.take_append_drop]
                  have e1 : (evs13 (s.l.take k)).length = k * 3 := by rw [evs13_len, List.length_take, Nat.min_eq_left (by omega)]
                  refine ⟨Or.inr ⟨g, 0, c, by rw [List.length_take, Nat.min_eq_left (by omega)], fun j y hy => ?_⟩, ?_⟩
                  · rw [Nat.zero_add]
                    refine hcell j y ?_
                    rw [e0, List.getElem?_append_left (List.getElem?_eq_some_iff.1 hy).1]
                    exact hy
                  · by_cases hcj : c = k
                    · have hdr : s.l.drop k = [] := List.drop_eq_nil_iff.2 (by omega)
                      rw [if_pos hcj]
                      refine Or.inr ⟨g, 0, c - k, by rw [List.length_drop, ← hm.1], fun j y hy => ?_⟩
                      rw [hdr] at hy
                      simp [evs13] at hy
                    · rw [if_neg hcj]
                      refine Or.inr ⟨g, k * 3, c - k, by rw [List.length_drop, ← hm.1], fun j y hy => ?_⟩
                      refine hcell _ y ?_
                      rw [e0, List.getElem?_append_right (by rw [e1]; omega), e1, Nat.add_sub_cancel_left]
                      exact hy
                refine' take_U (i := 0) (d := 78) (v := _) rfl rfl (by kernel_rfl) (by kernel_rfl) (by kernel_rfl) (by kernel_rfl) (by kernel_rfl) (by kernel_rfl) (fun _ _ _ h => h) (Or.inl ⟨by rfl, ?h0⟩) (HB0.out) ?_
                case h0 =>
                  intro wt hSw
                  go_simp
                  with_reducible rfl
                simp only [List.setIfInBounds_toArray, List.set_cons_zero, List.set_cons_succ]
                refine' take_U (i := 2) (d := 80) (v := _) rfl rfl (by kernel_rfl) (by kernel_rfl) (by kernel_rfl) (by kernel_rfl) (by kernel_rfl) (by kernel_rfl) (fun _ _ _ h => h) (Or.inl ⟨by rfl, ?h2⟩) (HB0.out) ?_
                case h2 =>
                  intro wt hSw
                  go_simp
                  with_reducible rfl
                simp only [List.setIfInBounds_toArray, List.set_cons_zero, List.set_cons_succ]
                refine' take_U (i := 3) (d := 81) (v := _) rfl rfl (by kernel_rfl) (by kernel_rfl) (by kernel_rfl) (by kernel_rfl) (by kernel_rfl) (by kernel_rfl) (fun _ _ _ h => h) (Or.inl ⟨by rfl, ?h3⟩) (HB0.out) ?_
                case h3 =>
                  intro wt hSw
                  go_simp
                  with_reducible rfl
                simp only [List.setIfInBounds_toArray, List.set_cons_zero, List.set_cons_succ]
                refine' take_U (i := 4) (d := 82) (v := _) rfl rfl (by kernel_rfl) (by kernel_rfl) (by kernel_rfl) (by kernel_rfl) (by kernel_rfl) (by kernel_rfl) (fun _ _ _ h => h) (Or.inl ⟨by rfl, ?h4⟩) (HB0.out) ?_
                case h4 =>
                  intro wt hSw
                  go_simp
                  with_reducible rfl
                simp only [List.setIfInBounds_toArray, List.set_cons_zero, List.set_cons_succ]
                refine' take_U (i := 5) (d := 83) (v := _) rfl rfl (by kernel_rfl) (by kernel_rfl) (by kernel_rfl) (by kernel_rfl) (by kernel_rfl) (by kernel_rfl) (fun _ _ _ h => h) (Or.inl ⟨by rfl, ?h5⟩) (HB0.out) ?_
                case h5 =>
                  intro wt hSw
                  obtain ⟨x1, y0, y1, y2⟩ := HX.out wt hSw
                  go_simp
                  with_reducible rfl
                simp only [List.setIfInBounds_toArray, List.set_cons_zero, List.set_cons_succ]
                refine' take_U (i := 6) (d := 84) (v := _) rfl rfl (by kernel_rfl) (by kernel_rfl) (by kernel_rfl) (by kernel_rfl) (by kernel_rfl) (by kernel_rfl) (fun _ _ _ h => h) (Or.inl ⟨by rfl, ?h6⟩) (HB0.out) ?_
                case h6 =>
                  intro wt hSw
                  go_simp
                  with_reducible rfl
                simp only [List.setIfInBounds_toArray, List.set_cons_zero, List.set_cons_succ]
                refine' take_U (i := 7) (d := 85) (v := _) rfl rfl (by kernel_rfl) (by kernel_rfl) (by kernel_rfl) (by kernel_rfl) (by kernel_rfl) (by kernel_rfl) (fun _ _ _ h => h) (Or.inl ⟨by rfl, ?h7⟩) (HB0.out) ?_
                case h7 =>
                  intro wt hSw
                  go_simp
                  with_reducible rfl
                simp only [List.setIfInBounds_toArray, List.set_cons_zero, List.set_cons_succ]
                refine' take_U (i := 9) (d := 87) (v := _) rfl rfl (by kernel_rfl) (by kernel_rfl) (by kernel_rfl) (by kernel_rfl) (by kernel_rfl) (by kernel_rfl) (fun _ _ _ h => h) (Or.inl ⟨by rfl, ?h9⟩) (HB0.out) ?_
                case h9 =>
                  intro wt hSw
                  obtain ⟨x1, y0, y1, y2⟩ := HX.out wt hSw
                  go_simp
                  with_reducible rfl
                simp only [List.setIfInBounds_toArray, List.set_cons_zero, List.set_cons_succ]
                refine' take_U (i := 12) (d := 90) (v := _) rfl rfl (by kernel_rfl) (by kernel_rfl) (by kernel_rfl) (by kernel_rfl) (by kernel_rfl) (by kernel_rfl) (fun _ _ _ h => h) (Or.inl ⟨by rfl, ?h12⟩) (HB0.out) ?_
                case h12 =>
                  intro wt hSw
                  go_simp
                  with_reducible rfl
                simp only [List.setIfInBounds_toArray, List.set_cons_zero, List.set_cons_succ]
                refine' take_U (i := 13) (d := 91) (v := _) rfl rfl (by kernel_rfl) (by kernel_rfl) (by kernel_rfl) (by kernel_rfl) (by kernel_rfl) (by kernel_rfl) (fun _ _ _ h => h) (Or.inl ⟨by rfl, ?h13⟩) (HB0.out) ?_
                case h13 =>
                  intro wt hSw
                  go_simp
                  with_reducible rfl
                simp only [List.setIfInBounds_toArray, List.set_cons_zero, List.set_cons_succ]
                refine' take_U (i := 14) (d := 92) (v := _) rfl rfl (by kernel_rfl) (by kernel_rfl) (by kernel_rfl) (by kernel_rfl) (by kernel_rfl) (by kernel_rfl) (fun _ _ _ h => h) (Or.inl ⟨by rfl, ?h14⟩) (HB0.out) ?_
                case h14 =>
                  intro wt hSw
                  go_simp
                  with_reducible rfl
                simp only [List.setIfInBounds_toArray, List.set_cons_zero, List.set_cons_succ]
                refine' take_U (i := 15) (d := 93) (v := _) rfl rfl (by kernel_rfl) (by kernel_rfl) (by kernel_rfl) (by kernel_rfl) (by kernel_rfl) (by kernel_rfl) (fun _ _ _ h => h) (Or.inl ⟨by rfl, ?h15⟩) (HB0.out) ?_
                case h15 =>
                  intro wt hSw
                  obtain ⟨x1, y0, y1, y2⟩ := HX.out wt hSw
                  go_simp
                  with_reducible rfl
                simp only [List.setIfInBounds_toArray, List.set_cons_zero, List.set_cons_succ]
                refine' take_U (i := 16) (d := 94) (v := _) rfl rfl (by kernel_rfl) (by kernel_rfl) (by kernel_rfl) (by kernel_rfl) (by kernel_rfl) (by kernel_rfl) (fun _ _ _ h => h) (Or.inl ⟨by rfl, ?h16⟩) (HB0.out) ?_
                case h16 =>
                  intro wt hSw
                  go_simp
                  with_reducible rfl
                simp only [List.setIfInBounds_toArray, List.set_cons_zero, List.set_cons_succ]
                refine' take_U (i := 17) (d := 95) (v := _) rfl rfl (by kernel_rfl) (by kernel_rfl) (by kernel_rfl) (by kernel_rfl) (by kernel_rfl) (by kernel_rfl) (fun _ _ _ h => h) (Or.inl ⟨by rfl, ?h17⟩) (HB0.out) ?_
                case h17 =>
                  intro wt hSw
                  go_simp
                  with_reducible rfl
                simp only [List.setIfInBounds_toArray, List.set_cons_zero, List.set_cons_succ]
                refine wpAnyU_ready (rs := [1, 10]) (by kernel_rfl) (by simp) ?_
                refine AllReadyU.cons (o := _) rfl (fun K hK => ?_) (AllReadyU.cons (o := _) rfl (fun K hK => ?_) AllReadyU.nil)
                · go_simp
                  obtain ⟨q0, hqq⟩ : ∃ z, z = wX.heap.size := ⟨_, rfl⟩
                  rw [← hqq]
                  have HB1 : Hid (Below wX.heap.size wX (wX.alloc (.cells #[] 63))) := HB0.out.alloc HB0.out.size _
                  have HO1 : Hid ((wX.alloc (.cells #[] 63)).ownsRow wX.heap.size 63 3 (.slice (some ⟨q0, 0, none⟩) 0 0) ([] : List Hq.Wt).length (evs13 [])) := by rw [hqq]; exact World.ownsRow_made wX #[] 0 HB0.out.size (by decide) rfl
                  clear hqq
                  generalize wX.alloc (.cells #[] 63) = wY1 at *
                  refine hK.out _ _ (fun _ _ => HB1.out) ?_
                  clear hK K
                  refine wpAnyU_ready (rs := [8, 10]) (by kernel_rfl) (by simp) ?_
                  refine AllReadyU.cons (o := _) rfl (fun K hK => ?_) (AllReadyU.cons (o := _) rfl (fun K hK => ?_) AllReadyU.nil)
                  · refine wp_evr13 _ _ rfl wX.heap.size (.slice (some ⟨q0, 0, none⟩) 0 0) (.slice (some ⟨g, 0, none⟩) k c) [] (s.l.take k) wY1 rfl rfl HO1.out HB1.out.size (HSRC.out _ HB1.out).1 (by have := HM.out; simp only [List.length_nil, List.length_take]; omega) ?_
                    intro v34 wY2 ho hb hg
                    rw [List.nil_append] at ho
                    have HO2 : Hid (wY2.ownsRow wX.heap.size 63 3 v34 (s.l.take k).length (evs13 (s.l.take k))) := ho
                    have HB2 : Hid (Below wX.heap.size wX wY2) := HB1.out.trans (hb.mono (Nat.le_refl _))
                    obtain ⟨a34, c34, hv34, _⟩ := row_form ho
                    obtain ⟨n34, hn34⟩ : ∃ z, z = (s.l.take k).length := ⟨_, rfl⟩
                    rw [← hn34] at hv34
                    subst hv34
                    clear ho hb hg hn34
                    go_simp
                    refine hK.out _ _ (fun _ _ => HB2.out) ?_
                    clear hK K
                    refine wpAnyU_ready (rs := [10]) (by kernel_rfl) (by simp) ?_
                    refine AllReadyU.cons (o := _) rfl (fun K hK => ?_) AllReadyU.nil
                    go_simp
                    obtain ⟨qx, hqx⟩ : ∃ z, z = wY2.heap.size := ⟨_, rfl⟩
                    rw [← hqx]
                    have HB3 : Hid (Below wX.heap.size wX (wY2.alloc (.cells #[.int .i64 x.sess, .string x.path, .int .i64 x.kind] 63))) := HB2.out.alloc HB2.out.size _
                    have HS3 : Hid (Sev13 (wY2.alloc (.cells #[.int .i64 x.sess, .string x.path, .int .i64 x.kind] 63)) (.slice (some ⟨qx, 0, none⟩) 1 1) [x]) := by rw [hqx]; exact Sev13.one (Cb.made wY2 (ev x) _)
                    have HQ3 : Hid (qx < (wY2.alloc (.cells #[.int .i64 x.sess, .string x.path, .int .i64 x.kind] 63)).heap.size) := by
                      have e : qx < (wY2.alloc (.cells #[.int .i64 x.sess, .string x.path, .int .i64 x.kind] 63)).heap.size := by rw [hqx]; simp
                      exact e
                    have HO3 : Hid ((wY2.alloc (.cells #[.int .i64 x.sess, .string x.path, .int .i64 x.kind] 63)).ownsRow wX.heap.size 63 3 (.slice a34 n34 c34) (s.l.take k).length (evs13 (s.l.take k))) := HO2.out.alloc _
                    clear hqx
                    generalize wY2.alloc (.cells #[.int .i64 x.sess, .string x.path, .int .i64 x.kind] 63) = wY3 at *
                    refine hK.out _ _ (fun _ _ => HB3.out) ?_
                    clear hK K
                    refine wpAnyU_ready (rs := [11]) (by kernel_rfl) (by simp) ?_
                    refine AllReadyU.cons (o := _) rfl (fun K hK => ?_) AllReadyU.nil
                    refine wp_evr13 _ _ rfl wX.heap.size (.slice a34 n34 c34) (.slice (some ⟨qx, 0, none⟩) 1 1) (s.l.take k) [x] wY3 rfl rfl HO3.out HB3.out.size HS3.out (by have := HM.out; simp only [List.length_singleton, List.length_take]; omega) ?_
                    intro v35 wY4 ho hb hg
                    have HO5 : Hid (wY4.ownsRow wX.heap.size 63 3 v35 (s.l.take k ++ [x]).length (evs13 (s.l.take k ++ [x]))) := ho
                    have HB5 : Hid (Below wX.heap.size wX wY4) := HB3.out.trans (hb.mono (Nat.le_refl _))
                    obtain ⟨a35, c35, hv35, _⟩ := row_form ho
                    obtain ⟨n35, hn35⟩ : ∃ z, z = (s.l.take k ++ [x]).length := ⟨_, rfl⟩
                    rw [← hn35] at hv35
                    subst hv35
                    clear ho hb hg hn35
                    go_simp
                    refine hK.out _ _ (fun _ _ => HB5.out) ?_
                    clear hK K
                    refine wpAnyU_ready (rs := [18]) (by kernel_rfl) (by simp) ?_
                    refine AllReadyU.cons (o := _) rfl (fun K hK => ?_) AllReadyU.nil
                    refine wp_evr13 _ _ rfl wX.heap.size (.slice a35 n35 c35) (.slice (if c = k then some ⟨g, 0, none⟩ else some ⟨g, k * 3, none⟩) (N - k) (c - k)) (s.l.take k ++ [x]) (s.l.drop k) wY4 rfl rfl HO5.out HB5.out.size (HSRC.out _ HB5.out).2 (by have := HM.out; simp only [List.length_append, List.length_singleton, List.length_drop, List.length_take]; omega) ?_
                    intro v42 wY5 ho hb hg
                    have HB4 : Hid (Below wX.heap.size wX wY5) := HB5.out.trans (hb.mono (Nat.le_refl _))
                    have HBW : Hid (Below w.heap.size w wY5) := HBX.out.trans (HB4.out.mono HBX.out.size)
                    have HO4 : Hid (wY5.ownsRow w.heap.size 63 3 v42 (Hq.ins s.l x).length (evs13 (Hq.ins s.l x))) := by
                      have e : Hq.ins s.l x = s.l.take k ++ [x] ++ s.l.drop k := by unfold Hq.ins; rw [← HM.out.2.2.2.1, List.append_assoc]; rfl
                      rw [e]
                      exact ho.mono HBX.out.size
                    obtain ⟨a42, c42, hv42, _⟩ := row_form ho
                    obtain ⟨n42, hn42⟩ : ∃ z, z = (s.l.take k ++ [x] ++ s.l.drop k).length := ⟨_, rfl⟩
                    rw [← hn42] at hv42
                    subst hv42
                    clear ho hb hg hn42
                    have HQ4 : Hid (wY5.cell? ⟨q, 1, none⟩ = some (.slice (some ⟨g, 0, none⟩) N c) ∧ wY5.frozen? ⟨q, 1, none⟩ = false) := ⟨Below.kept HBW.out ((HH.out.blk.cell 1).trans rfl), (HH.out.blk.below HBW.out).free 1⟩
                    go_simp
                    refine hK.out _ _ (fun _ _ => HB4.out) ?_
                    clear hK K
                    refine' take_U (i := 19) (d := 97) (v := _) rfl rfl (by kernel_rfl) (by kernel_rfl) (by kernel_rfl) (by kernel_rfl) (by kernel_rfl) (by kernel_rfl) (fun _ _ _ h => h) (Or.inl ⟨by rfl, ?h19⟩) (HB4.out) ?_
                    case h19 =>
                      intro wt hSw
                      go_simp
                      with_reducible rfl
                    simp only [List.setIfInBounds_toArray, List.set_cons_zero, List.set_cons_succ]
                    refine' take_U (i := 20) (d := 98) (v := _) rfl rfl (by kernel_rfl) (by kernel_rfl) (by kernel_rfl) (by kernel_rfl) (by kernel_rfl) (by kernel_rfl) (fun _ _ _ h => h) (Or.inl ⟨by rfl, ?h20⟩) (HB4.out) ?_
                    case h20 =>
                      intro wt hSw
                      go_simp
                      with_reducible rfl
                    simp only [List.setIfInBounds_toArray, List.set_cons_zero, List.set_cons_succ]
                    refine wpAnyU_ready (rs := [21]) (by kernel_rfl) (by simp) ?_
                    refine AllReadyU.cons (o := _) rfl (fun K hK => ?_) AllReadyU.nil
                    have hc := HQ4.out.1
                    have hz := HQ4.out.2
                    go_simp
                    clear hc hz
                    refine hK.out _ _ (fun h => absurd (by decide) h) ?_
                    clear hK K
                    refine wpAnyU_done (by kernel_rfl) ?_ _
                    have HZ : Hid (LRf (wY5.setCell ⟨q, 1, none⟩ (.slice a42 n42 c42)) q { s with l := Hq.ins s.l x } (Fw13 (.slice a42 n42 c42) q) ∧ Moved w (wY5.setCell ⟨q, 1, none⟩ (.slice a42 n42 c42)) (Fw13 (.slice (some ⟨g, 0, none⟩) N c) q) (Fw13 (.slice a42 n42 c42) q)) := HH.out.put HBW.out HO4.out
                    generalize wY5.setCell ⟨q, 1, none⟩ (.slice a42 n42 c42) = wz at *
                    clear HSRC
                    generalize (if c = k then some (⟨g, 0, none⟩ : Addr) else some ⟨g, k * 3, none⟩) = au
                    go_wp2
                    go_ret
                    refine ⟨_, ?_, ?_, HZ.out.2⟩
                    · rw [HR.out]; rfl
                    · rw [HR.out]; exact HZ.out.1
                  · go_simp
                    obtain ⟨qx, hqx⟩ : ∃ z, z = wY1.heap.size := ⟨_, rfl⟩
                    rw [← hqx]
                    have HB2 : Hid (Below wX.heap.size wX (wY1.alloc (.cells #[.int .i64 x.sess, .string x.path, .int .i64 x.kind] 63))) := HB1.out.alloc HB1.out.size _
                    have HS2 : Hid (Sev13 (wY1.alloc (.cells #[.int .i64 x.sess, .string x.path, .int .i64 x.kind] 63)) (.slice (some ⟨qx, 0, none⟩) 1 1) [x]) := by rw [hqx]; exact Sev13.one (Cb.made wY1 (ev x) _)
                    have HQ2 : Hid (qx < (wY1.alloc (.cells #[.int .i64 x.sess, .string x.path, .int .i64 x.kind] 63)).heap.size) := by
                      have e : qx < (wY1.alloc (.cells #[.int .i64 x.sess, .string x.path, .int .i64 x.kind] 63)).heap.size := by rw [hqx]; simp
                      exact e
                    have HO2 : Hid ((wY1.alloc (.cells #[.int .i64 x.sess, .string x.path, .int .i64 x.kind] 63)).ownsRow wX.heap.size 63 3 (.slice (some ⟨q0, 0, none⟩) 0 0) ([] : List Hq.Wt).length (evs13 [])) := HO1.out.alloc _
                    have HNE : Hid (q0 ≠ qx) := by
                      have e := (HO1.out.lt q0 rfl).2
                      have e2 : q0 ≠ qx := by omega
                      exact e2
                    clear hqx
                    generalize wY1.alloc (.cells #[.int .i64 x.sess, .string x.path, .int .i64 x.kind] 63) = wY2 at *
                    refine hK.out _ _ (fun _ _ => HB2.out) ?_
                    clear hK K
                    refine wpAnyU_ready (rs := [8]) (by kernel_rfl) (by simp) ?_
                    refine AllReadyU.cons (o := _) rfl (fun K hK => ?_) AllReadyU.nil
                    refine wp_evr13 _ _ rfl wX.heap.size (.slice (some ⟨q0, 0, none⟩) 0 0) (.slice (some ⟨g, 0, none⟩) k c) [] (s.l.take k) wY2 rfl rfl HO2.out HB2.out.size (HSRC.out _ HB2.out).1 (by have := HM.out; simp only [List.length_nil, List.length_take]; omega) ?_
                    intro v34 wY3 ho hb hg
                    rw [List.nil_append] at ho
                    have HO3 : Hid (wY3.ownsRow wX.heap.size 63 3 v34 (s.l.take k).length (evs13 (s.l.take k))) := ho
                    have HB3 : Hid (Below wX.heap.size wX wY3) := HB2.out.trans (hb.mono (Nat.le_refl _))
                    have HS3 : Hid (Sev13 wY3 (.slice (some ⟨qx, 0, none⟩) 1 1) [x]) := HS2.out.grown hg (fun e => HNE.out (by simpa [Value.ownBlock] using e))
                    obtain ⟨a34, c34, hv34, _⟩ := row_form ho
                    obtain ⟨n34, hn34⟩ : ∃ z, z = (s.l.take k).length := ⟨_, rfl⟩
                    rw [← hn34] at hv34
                    subst hv34
                    clear ho hb hg hn34
                    go_simp
                    refine hK.out _ _ (fun _ _ => HB3.out) ?_
                    clear hK K
                    refine wpAnyU_ready (rs := [11]) (by kernel_rfl) (by simp) ?_
                    refine AllReadyU.cons (o := _) rfl (fun K hK => ?_) AllReadyU.nil
                    refine wp_evr13 _ _ rfl wX.heap.size (.slice a34 n34 c34) (.slice (some ⟨qx, 0, none⟩) 1 1) (s.l.take k) [x] wY3 rfl rfl HO3.out HB3.out.size HS3.out (by have := HM.out; simp only [List.length_singleton, List.length_take]; omega) ?_
                    intro v35 wY4 ho hb hg
                    have HO5 : Hid (wY4.ownsRow wX.heap.size 63 3 v35 (s.l.take k ++ [x]).length (evs13 (s.l.take k ++ [x]))) := ho
                    have HB5 : Hid (Below wX.heap.size wX wY4) := HB3.out.trans (hb.mono (Nat.le_refl _))
                    obtain ⟨a35, c35, hv35, _⟩ := row_form ho
                    obtain ⟨n35, hn35⟩ : ∃ z, z = (s.l.take k ++ [x]).length := ⟨_, rfl⟩
                    rw [← hn35] at hv35
                    subst hv35
                    clear ho hb hg hn35
                    go_simp
                    refine hK.out _ _ (fun _ _ => HB5.out) ?_
                    clear hK K
                    refine wpAnyU_ready (rs := [18]) (by kernel_rfl) (by simp) ?_
                    refine AllReadyU.cons (o := _) rfl (fun K hK => ?_) AllReadyU.nil
                    refine wp_evr13 _ _ rfl wX.heap.size (.slice a35 n35 c35) (.slice (if c = k then some ⟨g, 0, none⟩ else some ⟨g, k * 3, none⟩) (N - k) (c - k)) (s.l.take k ++ [x]) (s.l.drop k) wY4 rfl rfl HO5.out HB5.out.size (HSRC.out _ HB5.out).2 (by have := HM.out; simp only [List.length_append, List.length_singleton, List.length_drop, List.length_take]; omega) ?_
                    intro v42 wY5 ho hb hg
                    have HB4 : Hid (Below wX.heap.size wX wY5) := HB5.out.trans (hb.mono (Nat.le_refl _))
                    have HBW : Hid (Below w.heap.size w wY5) := HBX.out.trans (HB4.out.mono HBX.out.size)
                    have HO4 : Hid (wY5.ownsRow w.heap.size 63 3 v42 (Hq.ins s.l x).length (evs13 (Hq.ins s.l x))) := by
                      have e : Hq.ins s.l x = s.l.take k ++ [x] ++ s.l.drop k := by unfold Hq.ins; rw [← HM.out.2.2.2.1, List.append_assoc]; rfl
                      rw [e]
                      exact ho.mono HBX.out.size
                    obtain ⟨a42, c42, hv42, _⟩ := row_form ho
                    obtain ⟨n42, hn42⟩ : ∃ z, z = (s.l.take k ++ [x] ++ s.l.drop k).length := ⟨_, rfl⟩
                    rw [← hn42] at hv42
                    subst hv42
                    clear ho hb hg hn42
                    have HQ4 : Hid (wY5.cell? ⟨q, 1, none⟩ = some (.slice (some ⟨g, 0, none⟩) N c) ∧ wY5.frozen? ⟨q, 1, none⟩ = false) := ⟨Below.kept HBW.out ((HH.out.blk.cell 1).trans rfl), (HH.out.blk.below HBW.out).free 1⟩
                    go_simp
                    refine hK.out _ _ (fun _ _ => HB4.out) ?_
                    clear hK K
                    refine' take_U (i := 19) (d := 97) (v := _) rfl rfl (by kernel_rfl) (by kernel_rfl) (by kernel_rfl) (by kernel_rfl) (by kernel_rfl) (by kernel_rfl) (fun _ _ _ h => h) (Or.inl ⟨by rfl, ?h19⟩) (HB4.out) ?_
                    case h19 =>
                      intro wt hSw
                      go_simp
                      with_reducible rfl
                    simp only [List.setIfInBounds_toArray, List.set_cons_zero, List.set_cons_succ]
                    refine' take_U (i := 20) (d := 98) (v := _) rfl rfl (by kernel_rfl) (by kernel_rfl) (by kernel_rfl) (by kernel_rfl) (by kernel_rfl) (by kernel_rfl) (fun _ _ _ h => h) (Or.inl ⟨by rfl, ?h20⟩) (HB4.out) ?_
                    case h20 =>
                      intro wt hSw
                      go_simp
                      with_reducible rfl
                    simp only [List.setIfInBounds_toArray, List.set_cons_zero, List.set_cons_succ]
                    refine wpAnyU_ready (rs := [21]) (by kernel_rfl) (by simp) ?_
                    refine AllReadyU.cons (o := _) rfl (fun K hK => ?_) AllReadyU.nil
                    have hc := HQ4.out.1
                    have hz := HQ4.out.2
                    go_simp
                    clear hc hz
                    refine hK.out _ _ (fun h => absurd (by decide) h) ?_
                    clear hK K
                    refine wpAnyU_done (by kernel_rfl) ?_ _
                    have HZ : Hid (LRf (wY5.setCell ⟨q, 1, none⟩ (.slice a42 n42 c42)) q { s with l := Hq.ins s.l x } (Fw13 (.slice a42 n42 c42) q) ∧ Moved w (wY5.setCell ⟨q, 1, none⟩ (.slice a42 n42 c42)) (Fw13 (.slice (some ⟨g, 0, none⟩) N c) q) (Fw13 (.slice a42 n42 c42) q)) := HH.out.put HBW.out HO4.out
                    generalize wY5.setCell ⟨q, 1, none⟩ (.slice a42 n42 c42) = wz at *
                    clear HSRC
                    generalize (if c = k then some (⟨g, 0, none⟩ : Addr) else some ⟨g, k * 3, none⟩) = au
                    go_wp2
                    go_ret
                    refine ⟨_, ?_, ?_, HZ.out.2⟩
                    · rw [HR.out]; rfl
                    · rw [HR.out]; exact HZ.out.1
                · go_simp
                  obtain ⟨qx, hqx⟩ : ∃ z, z = wX.heap.size := ⟨_, rfl⟩
                  rw [← hqx]
                  have HB1 : Hid (Below wX.heap.size wX (wX.alloc (.cells #[.int .i64 x.sess, .string x.path, .int .i64 x.kind] 63))) := HB0.out.alloc HB0.out.size _
                  have HS1 : Hid (Sev13 (wX.alloc (.cells #[.int .i64 x.sess, .string x.path, .int .i64 x.kind] 63)) (.slice (some ⟨qx, 0, none⟩) 1 1) [x]) := by rw [hqx]; exact Sev13.one (Cb.made wX (ev x) _)
                  have HQ1 : Hid (qx < (wX.alloc (.cells #[.int .i64 x.sess, .string x.path, .int .i64 x.kind] 63)).heap.size) := by
                    have e : qx < (wX.alloc (.cells #[.int .i64 x.sess, .string x.path, .int .i64 x.kind] 63)).heap.size := by rw [hqx]; simp
                    exact e
                  clear hqx
                  generalize wX.alloc (.cells #[.int .i64 x.sess, .string x.path, .int .i64 x.kind] 63) = wY1 at *
                  refine hK.out _ _ (fun _ _ => HB1.out) ?_
                  clear hK K
                  refine wpAnyU_ready (rs := [1]) (by kernel_rfl) (by simp) ?_
                  refine AllReadyU.cons (o := _) rfl (fun K hK => ?_) AllReadyU.nil
                  go_simp
                  obtain ⟨q0, hqq⟩ : ∃ z, z = wY1.heap.size := ⟨_, rfl⟩
                  rw [← hqq]
                  have HB2 : Hid (Below wX.heap.size wX (wY1.alloc (.cells #[] 63))) := HB1.out.alloc HB1.out.size _
                  have HO2 : Hid ((wY1.alloc (.cells #[] 63)).ownsRow wX.heap.size 63 3 (.slice (some ⟨q0, 0, none⟩) 0 0) ([] : List Hq.Wt).length (evs13 [])) := by rw [hqq]; exact World.ownsRow_made wY1 #[] 0 HB1.out.size (by decide) rfl
                  have HS2 : Hid (Sev13 (wY1.alloc (.cells #[] 63)) (.slice (some ⟨qx, 0, none⟩) 1 1) [x]) := HS1.out.below ((Below.refl _ _).alloc (Nat.le_refl _) _)
                  have HNE : Hid (q0 ≠ qx) := by
                    have e := HQ1.out
                    have e2 : q0 ≠ qx := by omega
                    exact e2
                  clear hqq
                  generalize wY1.alloc (.cells #[] 63) = wY2 at *
                  refine hK.out _ _ (fun _ _ => HB2.out) ?_
                  clear hK K
                  refine wpAnyU_ready (rs := [8]) (by kernel_rfl) (by simp) ?_
                  refine AllReadyU.cons (o := _) rfl (fun K hK => ?_) AllReadyU.nil
                  refine wp_evr13 _ _ rfl wX.heap.size (.slice (some ⟨q0, 0, none⟩) 0 0) (.slice (some ⟨g, 0, none⟩) k c) [] (s.l.take k) wY2 rfl rfl HO2.out HB2.out.size (HSRC.out _ HB2.out).1 (by have := HM.out; simp only [List.length_nil, List.length_take]; omega) ?_
                  intro v34 wY3 ho hb hg
                  rw [List.nil_append] at ho
                  have HO3 : Hid (wY3.ownsRow wX.heap.size 63 3 v34 (s.l.take k).length (evs13 (s.l.take k))) := ho
                  have HB3 : Hid (Below wX.heap.size wX wY3) := HB2.out.trans (hb.mono (Nat.le_refl _))
                  have HS3 : Hid (Sev13 wY3 (.slice (some ⟨qx, 0, none⟩) 1 1) [x]) := HS2.out.grown hg (fun e => HNE.out (by simpa [Value.ownBlock] using e))
                  obtain ⟨a34, c34, hv34, _⟩ := row_form ho
                  obtain ⟨n34, hn34⟩ : ∃ z, z = (s.l.take k).length := ⟨_, rfl⟩
                  rw [← hn34] at hv34
                  subst hv34
                  clear ho hb hg hn34
                  go_simp
                  refine hK.out _ _ (fun _ _ => HB3.out) ?_
                  clear hK K
                  refine wpAnyU_ready (rs := [11]) (by kernel_rfl) (by simp) ?_
                  refine AllReadyU.cons (o := _) rfl (fun K hK => ?_) AllReadyU.nil
                  refine wp_evr13 _ _ rfl wX.heap.size (.slice a34 n34 c34) (.slice (some ⟨qx, 0, none⟩) 1 1) (s.l.take k) [x] wY3 rfl rfl HO3.out HB3.out.size HS3.out (by have := HM.out; simp only [List.length_singleton, List.length_take]; omega) ?_
                  intro v35 wY4 ho hb hg
                  have HO5 : Hid (wY4.ownsRow wX.heap.size 63 3 v35 (s.l.take k ++ [x]).length (evs13 (s.l.take k ++ [x]))) := ho
                  have HB5 : Hid (Below wX.heap.size wX wY4) := HB3.out.trans (hb.mono (Nat.le_refl _))
                  obtain ⟨a35, c35, hv35, _⟩ := row_form ho
                  obtain ⟨n35, hn35⟩ : ∃ z, z = (s.l.take k ++ [x]).length := ⟨_, rfl⟩
                  rw [← hn35] at hv35
                  subst hv35
                  clear ho hb hg hn35
                  go_simp
                  refine hK.out _ _ (fun _ _ => HB5.out) ?_
                  clear hK K
                  refine wpAnyU_ready (rs := [18]) (by kernel_rfl) (by simp) ?_
                  refine AllReadyU.cons (o := _) rfl (fun K hK => ?_) AllReadyU.nil
                  refine wp_evr13 _ _ rfl wX.heap.size (.slice a35 n35 c35) (.slice (if c = k then some ⟨g, 0, none⟩ else some ⟨g, k * 3, none⟩) (N - k) (c - k)) (s.l.take k ++ [x]) (s.l.drop k) wY4 rfl rfl HO5.out HB5.out.size (HSRC.out _ HB5.out).2 (by have := HM.out; simp only [List.length_append, List.length_singleton, List.length_drop, List.length_take]; omega) ?_
                  intro v42 wY5 ho hb hg
                  have HB4 : Hid (Below wX.heap.size wX wY5) := HB5.out.trans (hb.mono (Nat.le_refl _))
                  have HBW : Hid (Below w.heap.size w wY5) := HBX.out.trans (HB4.out.mono HBX.out.size)
                  have HO4 : Hid (wY5.ownsRow w.heap.size 63 3 v42 (Hq.ins s.l x).length (evs13 (Hq.ins s.l x))) := by
                    have e : Hq.ins s.l x = s.l.take k ++ [x] ++ s.l.drop k := by unfold Hq.ins; rw [← HM.out.2.2.2.1, List.append_assoc]; rfl
                    rw [e]
                    exact ho.mono HBX.out.size
                  obtain ⟨a42, c42, hv42, _⟩ := row_form ho
                  obtain ⟨n42, hn42⟩ : ∃ z, z = (s.l.take k ++ [x] ++ s.l.drop k).length := ⟨_, rfl⟩
                  rw [← hn42] at hv42
                  subst hv42
                  clear ho hb hg hn42
                  have HQ4 : Hid (wY5.cell? ⟨q, 1, none⟩ = some (.slice (some ⟨g, 0, none⟩) N c) ∧ wY5.frozen? ⟨q, 1, none⟩ = false) := ⟨Below.kept HBW.out ((HH.out.blk.cell 1).trans rfl), (HH.out.blk.below HBW.out).free 1⟩
                  go_simp
                  refine hK.out _ _ (fun _ _ => HB4.out) ?_
                  clear hK K
                  refine' take_U (i := 19) (d := 97) (v := _) rfl rfl (by kernel_rfl) (by kernel_rfl) (by kernel_rfl) (by kernel_rfl) (by kernel_rfl) (by kernel_rfl) (fun _ _ _ h => h) (Or.inl ⟨by rfl, ?h19⟩) (HB4.out) ?_
                  case h19 =>
                    intro wt hSw
                    go_simp
                    with_reducible rfl
                  simp only [List.setIfInBounds_toArray, List.set_cons_zero, List.set_cons_succ]
                  refine' take_U (i := 20) (d := 98) (v := _) rfl rfl (by kernel_rfl) (by kernel_rfl) (by kernel_rfl) (by kernel_rfl) (by kernel_rfl) (by kernel_rfl) (fun _ _ _ h => h) (Or.inl ⟨by rfl, ?h20⟩) (HB4.out) ?_
                  case h20 =>
                    intro wt hSw
                    go_simp
                    with_reducible rfl
                  simp only [List.setIfInBounds_toArray, List.set_cons_zero, List.set_cons_succ]
                  refine wpAnyU_ready (rs := [21]) (by kernel_rfl) (by simp) ?_
                  refine AllReadyU.cons (o := _) rfl (fun K hK => ?_) AllReadyU.nil
                  have hc := HQ4.out.1
                  have hz := HQ4.out.2
                  go_simp
                  clear hc hz
                  refine hK.out _ _ (fun h => absurd (by decide) h) ?_
                  clear hK K
                  refine wpAnyU_done (by kernel_rfl) ?_ _
                  have HZ : Hid (LRf (wY5.setCell ⟨q, 1, none⟩ (.slice a42 n42 c42)) q { s with l := Hq.ins s.l x } (Fw13 (.slice a42 n42 c42) q) ∧ Moved w (wY5.setCell ⟨q, 1, none⟩ (.slice a42 n42 c42)) (Fw13 (.slice (some ⟨g, 0, none⟩) N c) q) (Fw13 (.slice a42 n42 c42) q)) := HH.out.put HBW.out HO4.out
                  generalize wY5.setCell ⟨q, 1, none⟩ (.slice a42 n42 c42) = wz at *
                  clear HSRC
                  generalize (if c = k then some (⟨g, 0, none⟩ : Addr) else some ⟨g, k * 3, none⟩) = au
                  go_wp2
                  go_ret
                  refine ⟨_, ?_, ?_, HZ.out.2⟩
                  · rw [HR.out]; rfl
                  · rw [HR.out]; exact HZ.out.1
end Go.Proofs.YtjejpkognjedpaaDoor
