/- SnapApart's walk. -/
import Derived.Test.YtpidafpaffpnaaaGreatDoorLAwake14
import Derived.Test.YtpidafpaffpnaaaGreatDoorBas
namespace Go.Proofs.YtpidafpaffpnaaaGreatDoor
open Go.RowKit
set_option maxRecDepth 20000 in
set_option maxHeartbeats 8000000 in
theorem apart_any14 {LT : Rep11} (S : Specs11 LT) (Q : SpecQ14 LT) (G : SpecS14 LT) (va vb : Value) (a b : List O) (W : World) (hS : Pa.Std W) (ha : Ol W va a) (hla : a.length ≤ maxLen) (hfa : ∀ o ∈ a, OFit o) (hb : Ol W vb b) (hlb : b.length ≤ maxLen) (hfb : ∀ o ∈ b, OFit o) :
    Calls Tryz.prog 5 #[va, vb] W fun e w' => e = .returned (.bool true) ∧ Below W.heap.size W w' := by
  have HS : Hid (Specs11 LT ∧ SpecQ14 LT ∧ SpecS14 LT ∧ Pa.Std W) := ⟨S, Q, G, hS⟩
  have HA : Hid (Ol W va a ∧ a.length ≤ maxLen ∧ (∀ o ∈ a, OFit o) ∧ Ol W vb b ∧ b.length ≤ maxLen ∧ ∀ o ∈ b, OFit o) := ⟨ha, hla, hfa, hb, hlb, hfb⟩
  obtain ⟨aa, n, ac, rfl, hn, hjj⟩ := ha
  obtain ⟨ba, m, bc', rfl, hm, hjj2⟩ := hb
  clear S Q G hS hla hfa hlb hfb hn hm hjj hjj2
  go_enter Tryz.func5, Tryz.ntmps5
  go_wp2_with fail
  refine (awake_any14 HS.out.1 HS.out.2.1 HS.out.2.2.1 W HS.out.2.2.2).mono ?_
  rintro e w0 ⟨rfl, hb⟩
  have H0 : Hid (Below W.heap.size W w0) := hb
  clear hb
  go_wp2_with fail
  refine (grown_any14 HS.out.1 (.slice aa n ac) a w0 (HS.out.2.2.2.below H0.out) (HA.out.1.below H0.out) HA.out.2.1 HA.out.2.2.1).mono ?_
  rintro e w1 ⟨hbig, hok, hb⟩
  have H1 : Hid (Below W.heap.size W w1) := H0.out.trans (hb.mono H0.out.size)
  cases hga : greatB a with
  | true =>
    obtain rfl := hbig hga
    clear hbig hok hga hb
    go_wp2_with fail
    refine (grown_any14 HS.out.1 (.slice ba m bc') b w1 (HS.out.2.2.2.below H1.out) (HA.out.2.2.2.1.below H1.out) HA.out.2.2.2.2.1 HA.out.2.2.2.2.2).mono ?_
    rintro e w2 ⟨hbig, hok, hb⟩
    have H2 : Hid (Below W.heap.size W w2) := H1.out.trans (hb.mono H1.out.size)
    cases hgb : greatB b with
    | true =>
      obtain rfl := hbig hgb
      clear hbig hok hgb hb
      go_wp2
      go_ret
      exact ⟨rfl, H2.out⟩
    | false =>
      obtain ⟨q, t, F, rfl, hL, hgr, hrm, hF⟩ := hok hgb
      clear hbig hok hgb hb hL hgr hrm hF
      unfold dptr
      go_wp2
      go_ret
      exact ⟨rfl, H2.out⟩
  | false =>
  obtain ⟨q, t, F, rfl, hL, hgr, hrm, hF⟩ := hok hga
  have M1 : Hid (Mine11 LT W w1 q t F ∧ Tq.Gr t a.length ∧ a.length ≤ 20) := ⟨⟨hL, hgr.fine, fun k hk => Nat.le_trans H0.out.size (hF k hk), H1.out⟩, hgr, great_no14 hga⟩
  clear hbig hok hga hb hL hgr hrm hF H0 H1
  unfold dptr
  go_wp2_with fail
  refine (grown_any14 HS.out.1 (.slice ba m bc') b w1 (HS.out.2.2.2.below M1.out.1.below) (HA.out.2.2.2.1.below M1.out.1.below) HA.out.2.2.2.2.1 HA.out.2.2.2.2.2).mono ?_
  rintro e w2 ⟨hbig, hok, hb⟩
  cases hgb : greatB b with
  | true =>
    obtain rfl := hbig hgb
    have H2 : Hid (Below W.heap.size W w2) := M1.out.1.below.trans (hb.mono M1.out.1.below.size)
    clear hbig hok hgb hb
    go_wp2
    go_ret
    exact ⟨rfl, H2.out⟩
  | false =>
  obtain ⟨q2, t2, F2, rfl, hL, hgr, hrm, hF⟩ := hok hgb
  have M2 : Hid (Two14 LT W w2 q t F q2 t2 F2 ∧ Tq.Gr t a.length ∧ Tq.Gr t2 b.length ∧ a.length ≤ 20 ∧ b.length ≤ 20) := ⟨M1.out.1.and14 HS.out.1 hb hL hgr.fine hF, M1.out.2.1, hgr, M1.out.2.2, great_no14 hgb⟩
  clear hbig hok hgb hb hL hgr hrm hF M1
  unfold dptr
  go_upto_region 6 with fail
  refine wp_region_held_drew (S := fun w' => Below w2.heap.size w2 w') (by kernel_rfl) (Below.refl _ _).drew (fun _ => ?_)
  refine wpAnyH_more (S' := fun w' => Below w2.drew.heap.size w2.drew w') (fun w' h => below_drew h) _ _ _ _ ?_
  have J0 : Hid (Two14 LT W w2.drew q t F q2 t2 F2) := M2.out.1.later HS.out.1 (Below.refl _ _).drew
  have HG : Hid (Tq.Gr t a.length ∧ Tq.Gr t2 b.length ∧ a.length ≤ 20 ∧ b.length ≤ 20) := M2.out.2
  clear M2
  generalize w2.drew = s0 at *
  obtain ⟨Z1, hZ1⟩ : ∃ Z : ByteArray, Z = ⟨(Tq.image t.l).toArray⟩ := ⟨_, rfl⟩
  obtain ⟨Z2, hZ2⟩ : ∃ Z : ByteArray, Z = ⟨(Tq.image t2.l).toArray⟩ := ⟨_, rfl⟩
  have HZ : Hid (Z1 = ⟨(Tq.image t.l).toArray⟩ ∧ Z2 = ⟨(Tq.image t2.l).toArray⟩) := ⟨hZ1, hZ2⟩
  obtain ⟨E, hE⟩ : ∃ E : Bool, (Z1.toList == Z2.toList) = E := ⟨_, rfl⟩
  have HE : Hid (E = true ↔ t.l = t2.l) := by
    have h : E = true ↔ t.l = t2.l := by
      rw [← HG.out.1.inj HG.out.2.1 (by have := HG.out.2.2.1; omega) (by have := HG.out.2.2.2; omega), ← hE, beq_iff_eq, ByteArray.toList_eq, ByteArray.toList_eq, hZ1, hZ2]
    exact h
  clear hZ1 hZ2
  refine' take_at (i := 0) (d := 19) (v := _) rfl rfl (by kernel_rfl) (by kernel_rfl) (by kernel_rfl) (fun _ _ _ h => h) (Or.inl ⟨by rfl, ?h0⟩) (Below.refl _ _) ?_
  case h0 =>
    intro w hSw
    go_simp
    with_reducible rfl
  simp only [List.setIfInBounds_toArray, List.set_cons_zero, List.set_cons_succ]
  refine' take_at (i := 3) (d := 22) (v := _) rfl rfl (by kernel_rfl) (by kernel_rfl) (by kernel_rfl) (fun _ _ _ h => h) (Or.inl ⟨by rfl, ?h3⟩) (Below.refl _ _) ?_
  case h3 =>
    intro w hSw
    go_simp
    with_reducible rfl
  simp only [List.setIfInBounds_toArray, List.set_cons_zero, List.set_cons_succ]
  refine' take_at (i := 7) (d := 26) (v := _) rfl rfl (by kernel_rfl) (by kernel_rfl) (by kernel_rfl) (fun _ _ _ h => h) (Or.inl ⟨by rfl, ?h7⟩) (Below.refl _ _) ?_
  case h7 =>
    intro w hSw
    go_simp
    with_reducible rfl
  simp only [List.setIfInBounds_toArray, List.set_cons_zero, List.set_cons_succ]
  refine' take_at (i := 8) (d := 27) (v := _) rfl rfl (by kernel_rfl) (by kernel_rfl) (by kernel_rfl) (fun _ _ _ h => h) (Or.inl ⟨by rfl, ?h8⟩) (Below.refl _ _) ?_
  case h8 =>
    intro w hSw
    go_simp
    with_reducible rfl
  simp only [List.setIfInBounds_toArray, List.set_cons_zero, List.set_cons_succ]
  refine wpAnyH_ready (rs := [1]) (by kernel_rfl) (by simp) ?_
  refine AllReadyH.cons (o := _) rfl (fun KQ hKQ => ?_) AllReadyH.nil
  go_simp
  refine (J0.out.one.put14 HS.out.1 HS.out.2.2.1 HG.out.1).mono ?_
  rintro e s1 ⟨a1, n1, c1, rfl, hn, ho, hM, hb⟩
  have J1 : Hid (Two14 LT W s1 q t F q2 t2 F2 ∧ Bs s1 (.slice a1 n1 c1) (Tq.image t.l)) := ⟨J0.out.later HS.out.1 hb, Bs.own ho⟩
  clear hn ho hM
  simp only []
  refine hKQ.out _ _ hb (fun _ => ?_)
  refine wpAnyH_more (S' := fun w' => Below s1.heap.size s1 w') (fun w' h => hb.trans (h.mono hb.size)) _ _ _ _ ?_
  clear hKQ KQ hb
  refine' take_at (i := 2) (d := 21) (v := _) rfl rfl (by kernel_rfl) (by kernel_rfl) (by kernel_rfl) (fun _ _ _ h => h) (Or.inl ⟨by rfl, ?h2⟩) (Below.refl _ _) ?_
  case h2 =>
    intro w hSw
    have hcv := (J1.out.2.below hSw).conv
    rw [← HZ.out.1] at hcv
    go_simp
    with_reducible rfl
  simp only [List.setIfInBounds_toArray, List.set_cons_zero, List.set_cons_succ]
  refine wpAnyH_ready (rs := [4]) (by kernel_rfl) (by simp) ?_
  refine AllReadyH.cons (o := _) rfl (fun KQ hKQ => ?_) AllReadyH.nil
  go_simp
  refine (J1.out.1.two.put14 HS.out.1 HS.out.2.2.1 HG.out.2.1).mono ?_
  rintro e s2 ⟨a2, n2, c2, rfl, hn, ho, hM, hb⟩
  have J2 : Hid (Two14 LT W s2 q t F q2 t2 F2 ∧ Bs s2 (.slice a2 n2 c2) (Tq.image t2.l)) := ⟨J1.out.1.later HS.out.1 hb, Bs.own ho⟩
  clear hn ho hM J1
  simp only []
  refine hKQ.out _ _ hb (fun _ => ?_)
  refine wpAnyH_more (S' := fun w' => Below s2.heap.size s2 w') (fun w' h => hb.trans (h.mono hb.size)) _ _ _ _ ?_
  clear hKQ KQ hb
  refine' take_at (i := 5) (d := 24) (v := _) rfl rfl (by kernel_rfl) (by kernel_rfl) (by kernel_rfl) (fun _ _ _ h => h) (Or.inl ⟨by rfl, ?h5⟩) (Below.refl _ _) ?_
  case h5 =>
    intro w hSw
    have hcv := (J2.out.2.below hSw).conv
    rw [← HZ.out.2] at hcv
    go_simp
    with_reducible rfl
  simp only [List.setIfInBounds_toArray, List.set_cons_zero, List.set_cons_succ]
  refine' take_at (i := 6) (d := 25) (v := _) rfl rfl (by kernel_rfl) (by kernel_rfl) (by kernel_rfl) (fun _ _ _ h => h) (Or.inl ⟨by rfl, ?h6⟩) (Below.refl _ _) ?_
  case h6 =>
    intro w hSw
    go_simp
    with_reducible rfl
  simp only [List.setIfInBounds_toArray, List.set_cons_zero, List.set_cons_succ]
  refine wpAnyH_ready (rs := [9]) (by kernel_rfl) (by simp) ?_
  refine AllReadyH.cons (o := _) rfl (fun KQ hKQ => ?_) AllReadyH.nil
  go_simp
  refine (HS.out.2.2.1.same q t F q2 t2 F2 s2 J2.out.1.one.ld J2.out.1.one.fine J2.out.1.two.ld J2.out.1.two.fine).mono ?_
  rintro e s3 ⟨R, rfl, hR, hb⟩
  obtain rfl : R = E := by rw [Bool.eq_iff_iff, hR, HE.out]
  have J3 : Hid (Two14 LT W s3 q t F q2 t2 F2) := J2.out.1.later HS.out.1 hb
  clear hR J2
  have hrr : (R == R) = true := by simp
  simp only []
  refine hKQ.out _ _ hb (fun _ => ?_)
  refine wpAnyH_more (S' := fun w' => Below s3.heap.size s3 w') (fun w' h => hb.trans (h.mono hb.size)) _ _ _ _ ?_
  clear hKQ KQ hb
  refine' take_at (i := 10) (d := 29) (v := _) rfl rfl (by kernel_rfl) (by kernel_rfl) (by kernel_rfl) (fun _ _ _ h => h) (Or.inl ⟨by rfl, ?h10⟩) (Below.refl _ _) ?_
  case h10 =>
    intro w hSw
    go_simp
    with_reducible rfl
  simp only [List.setIfInBounds_toArray, List.set_cons_zero, List.set_cons_succ]
  refine' take_at (i := 11) (d := 30) (v := _) rfl rfl (by kernel_rfl) (by kernel_rfl) (by kernel_rfl) (fun _ _ _ h => h) (Or.inl ⟨by rfl, ?h11⟩) (Below.refl _ _) ?_
  case h11 =>
    intro w hSw
    go_simp
    with_reducible rfl
  simp only [List.setIfInBounds_toArray, List.set_cons_zero, List.set_cons_succ]
  refine' take_at (i := 12) (d := 31) (v := _) rfl rfl (by kernel_rfl) (by kernel_rfl) (by kernel_rfl) (fun _ _ _ h => h) (Or.inl ⟨by rfl, ?h12⟩) (Below.refl _ _) ?_
  case h12 =>
    intro w hSw
    go_simp
    with_reducible rfl
  simp only [List.setIfInBounds_toArray, List.set_cons_zero, List.set_cons_succ]
  refine' take_at (i := 13) (d := 32) (v := _) rfl rfl (by kernel_rfl) (by kernel_rfl) (by kernel_rfl) (fun _ _ _ h => h) (Or.inl ⟨by rfl, ?h13⟩) (Below.refl _ _) ?_
  case h13 =>
    intro w hSw
    go_simp
    with_reducible rfl
  simp only [List.setIfInBounds_toArray, List.set_cons_zero, List.set_cons_succ]
  refine wpAnyH_ready (rs := [14]) (by kernel_rfl) (by simp) ?_
  refine AllReadyH.cons (o := _) rfl (fun KQ hKQ => ?_) AllReadyH.nil
  go_simp
  refine (HS.out.1.copy q t F s3 J3.out.one.ld J3.out.one.fine).mono ?_
  rintro e s4 ⟨q4, F4, rfl, hL, hF, hL1, hb⟩
  have J4 : Hid (Two14 LT W s4 q t F q4 t F4) := J3.out.one.and14 HS.out.1 hb hL J3.out.one.fine hF
  clear hL hF hL1 J3
  unfold dptr
  simp only []
  refine hKQ.out _ _ hb (fun _ => ?_)
  refine wpAnyH_more (S' := fun w' => Below s4.heap.size s4 w') (fun w' h => hb.trans (h.mono hb.size)) _ _ _ _ ?_
  clear hKQ KQ hb
  refine wpAnyH_ready (rs := [15]) (by kernel_rfl) (by simp) ?_
  refine AllReadyH.cons (o := _) rfl (fun KQ hKQ => ?_) AllReadyH.nil
  go_simp
  refine (HS.out.2.2.1.same q t F q4 t F4 s4 J4.out.one.ld J4.out.one.fine J4.out.two.ld J4.out.two.fine).mono ?_
  rintro e s5 ⟨R5, rfl, hR, hb⟩
  obtain rfl : R5 = true := hR.2 rfl
  have J5 : Hid (Below W.heap.size W s5) := J4.out.one.below.trans (hb.mono J4.out.one.below.size)
  clear hR J4
  simp only []
  refine hKQ.out _ _ hb (fun _ => ?_)
  refine wpAnyH_more (S' := fun w' => Below s5.heap.size s5 w') (fun w' h => hb.trans (h.mono hb.size)) _ _ _ _ ?_
  clear hKQ KQ hb
  refine' take_at (i := 16) (d := 35) (v := _) rfl rfl (by kernel_rfl) (by kernel_rfl) (by kernel_rfl) (fun _ _ _ h => h) (Or.inl ⟨by rfl, ?h16⟩) (Below.refl _ _) ?_
  case h16 =>
    intro w hSw
    go_simp
    with_reducible rfl
  simp only [List.setIfInBounds_toArray, List.set_cons_zero, List.set_cons_succ]
  refine' take_at (i := 17) (d := 4) (v := _) rfl rfl (by kernel_rfl) (by kernel_rfl) (by kernel_rfl) (fun _ _ _ h => h) (Or.inl ⟨by rfl, ?h17⟩) (Below.refl _ _) ?_
  case h17 =>
    intro w hSw
    go_simp
    with_reducible rfl
  simp only [List.setIfInBounds_toArray, List.set_cons_zero, List.set_cons_succ]
  refine wpAnyH_done (by kernel_rfl) ?_ _
  go_wp2
  go_ret
  exact ⟨rfl, J5.out⟩
end Go.Proofs.YtpidafpaffpnaaaGreatDoor
