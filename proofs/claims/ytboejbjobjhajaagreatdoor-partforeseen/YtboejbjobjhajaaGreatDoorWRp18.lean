import Derived.Test.YtboejbjobjhajaaGreatDoorWQq18
namespace Go.Proofs.YtboejbjobjhajaaGreatDoor
open Go.RowKit
def rc18 (r : Rp) (u : Value) : List Value := [.int .i64 r.num, .int .i64 r.zxid, .int .i64 r.err, .int .i64 r.at_, u]
section
variable {LT : Rep11} {LS : Rep17} {w w' w0 : World} {q : Nat} {s : Pt.St} {F F' F0 : Nat → Prop}
theorem wants_path18 (o : O) : o.path ∈ Pt.wants o := by unfold Pt.wants; split <;> simp
set_option maxRecDepth 20000 in
set_option maxHeartbeats 16000000 in
theorem prep_any18 (S : Base18 LT LS) {m : Nat} (h : LPt18 LT LS w q s F) (hf : Pt.Fit m s) (hm : m ≤ 1000) (h6 : ∀ k, F k → 6 ≤ k) (hS : Pa.Std w) (v : Value) (os : List O) (hv : Om12 w F v os) (hof : ∀ o ∈ os, OFit o) (hl : os.length ≤ maxLen) (id z : Int) (hid : I64 id) (hz : I64 z) :
    Calls Tryz.prog 11 #[dptr q, .int .i64 id, .int .i64 z, v] w fun e w' => ∃ F', e = .returned (.tuple #[.int .i64 (Pt.prepare s id z os).1.1, .int .i64 (Pt.prepare s id z os).1.2]) ∧ LPt18 LT LS w' q (Pt.prepare s id z os).2 F' ∧ Moved w w' F F' := by
  obtain ⟨R, hR⟩ : ∃ R, R = Pt.prepare s id z os := ⟨_, rfl⟩
  rw [← hR]
  have HR : Hid (R = Pt.prepare s id z os) := hR
  have hOl := hv.ol
  obtain ⟨av, N, cc, rfl, hN, _⟩ := hOl
  have H0 : Hid (Base18 LT LS ∧ Pt.Fit m s ∧ m ≤ 1000 ∧ (∀ k, F k → 6 ≤ k) ∧ Pa.Std w ∧ (∀ o ∈ os, OFit o) ∧ os.length ≤ maxLen ∧ I64 id ∧ I64 z) := ⟨S, hf, hm, h6, hS, hof, hl, hid, hz⟩
  have H1 : Hid (LPt18 LT LS w q s F ∧ Om12 w F (.slice av N cc) os ∧ N = os.length) := ⟨h, hv, hN⟩
  clear S hf hm h6 hS hof hl hid hz h hv hN hR
  obtain ⟨B, hB⟩ : ∃ B, B = Pt.isNew s id := ⟨_, rfl⟩
  have HB : Hid (B = Pt.isNew s id) := hB
  clear hB
  go_enter Tryz.func11, Tryz.ntmps11
  go_wp2_with fail
  refine (H1.out.1.isNew id H0.out.2.2.2.2.2.2.2.1).mono ?_
  rw [← HB.out]
  rintro e w1 ⟨rfl, hb⟩
  have H2 : Hid (Below w.heap.size w w1) := hb
  clear hb
  cases B with
  | false =>
    have HT : Hid (R = ((1, -1), s)) := (show R = ((1, -1), s) by rw [HR.out]; unfold Pt.prepare; rw [if_pos (Or.inl HB.out.symm)])
    go_wp2
    go_ret2
    rw [HT.out]
    exact ⟨F, rfl, H1.out.1.below H0.out.1 H2.out, Moved.of_below F H2.out⟩
  | true =>
  by_cases hz1 : z < 1
  · have HT : Hid (R = ((1, -1), s)) := (show R = ((1, -1), s) by rw [HR.out]; unfold Pt.prepare; rw [if_pos (Or.inr hz1)])
    go_wp2
    go_ret2
    rw [HT.out]
    exact ⟨F, rfl, H1.out.1.below H0.out.1 H2.out, Moved.of_below F H2.out⟩
  have HE1 : Hid (R = if Oq.may z 1 os ≠ 0 then ((Oq.may z 1 os, -1), s) else if (Pt.refusal s id z os).1 ≠ 0 then (Pt.refusal s id z os, s) else (((Tq.many s.t z s.z os).1.1.err, (Tq.many s.t z s.z os).1.1.at_), { s with lk := Lk.adds id s.lk (os.flatMap Pt.wants), ps := s.ps ++ [⟨id, z, os, false, !(Tq.many s.t z s.z os).1.2⟩] })) := (by
    show R = _
    rw [HR.out]
    unfold Pt.prepare
    rw [if_neg]
    rintro (e | e)
    · rw [← HB.out] at e; cases e
    · exact hz1 e)
  obtain ⟨E1, hE1⟩ : ∃ E, E = Oq.may z 1 os := ⟨_, rfl⟩
  have HM : Hid (E1 = Oq.may z 1 os ∧ ¬ z < 1) := ⟨hE1, hz1⟩
  clear hE1
  go_wp2_with fail
  refine (may_spec z 1 (.slice av N cc) os w1 (H0.out.2.2.2.2.1.below H2.out) (H1.out.2.1.later H2.out).ol H0.out.2.2.2.2.2.2.1 H0.out.2.2.2.2.2.1).mono ?_
  rw [← HM.out.1]
  rintro e w2 ⟨rfl, hb⟩
  have H3 : Hid (Below w.heap.size w w2) := H2.out.trans (hb.mono H2.out.size)
  clear hb H2 hz1
  by_cases hE0 : E1 = 0
  case neg =>
    have HT : Hid (R = ((E1, -1), s)) := (show R = ((E1, -1), s) by rw [HE1.out, ← HM.out.1, if_pos hE0])
    have hEb : (E1 != 0) = true := by simp [hE0]
    clear hE0
    go_wp2
    go_ret2
    rw [HT.out]
    exact ⟨F, rfl, H1.out.1.below H0.out.1 H3.out, Moved.of_below F H3.out⟩
  case pos =>
  subst hE0
  obtain ⟨r1, r2, hr⟩ : ∃ r1 r2, Pt.refusal s id z os = (r1, r2) := ⟨_, _, rfl⟩
  have HQ : Hid (Pt.refusal s id z os = (r1, r2) ∧ (∀ o ∈ os, Oq.good o = 0) ∧ os.length ≤ 16 ∧ os ≠ [] ∧ ∀ o ∈ os, o.path.size ≤ 200 ∧ o.data.size ≤ 1000) := ⟨hr, Pt.may_good HM.out.1.symm, (Pt.may_ok HM.out.1.symm).2.2.2.1, (Pt.may_ok HM.out.1.symm).2.2.1, (may_sizes HM.out.1.symm).2.2.2.2⟩
  clear hr
  go_wp2_with fail
  refine ((H1.out.1.below H0.out.1 H3.out).refusal H0.out.1 H0.out.2.1 (by have := H0.out.2.2.1; omega) (H0.out.2.2.2.2.1.below H3.out) id H0.out.2.2.2.2.2.2.2.1 z H0.out.2.2.2.2.2.2.2.2 (.slice av N cc) os (H1.out.2.1.later H3.out).ol (by have := HQ.out.2.2.1; omega) HQ.out.2.1 r1 r2 HQ.out.1).mono ?_
  rintro e w3 ⟨rfl, hb⟩
  have H4 : Hid (Below w.heap.size w w3) := H3.out.trans (hb.mono H3.out.size)
  clear hb H3
  by_cases hr0 : r1 = 0
  case neg =>
    have HT : Hid (R = ((r1, r2), s)) := (show R = ((r1, r2), s) by rw [HE1.out, ← HM.out.1, if_neg (by simp), HQ.out.1, if_pos hr0])
    have hEb : (r1 != 0) = true := by simp [hr0]
    clear hr0
    go_wp2
    go_ret2
    rw [HT.out]
    exact ⟨F, rfl, H1.out.1.below H0.out.1 H4.out, Moved.of_below F H4.out⟩
  case pos =>
  subst hr0
  obtain ⟨r, hrr⟩ : ∃ r, r = (Tq.many s.t z s.z os).1.1 := ⟨_, rfl⟩
  obtain ⟨ok, hok⟩ : ∃ r, r = (Tq.many s.t z s.z os).1.2 := ⟨_, rfl⟩
  have HK : Hid (r = (Tq.many s.t z s.z os).1.1 ∧ ok = (Tq.many s.t z s.z os).1.2 ∧ R = ((r.err, r.at_), { s with lk := Lk.adds id s.lk (os.flatMap Pt.wants), ps := s.ps ++ [⟨id, z, os, false, !ok⟩] })) := ⟨hrr, hok, by rw [HE1.out, ← HM.out.1, if_neg (by simp), HQ.out.1, if_neg (by simp), hrr, hok]⟩
  clear hrr hok HE1
  have H5 : Hid (LPt18 LT LS w3 q s F ∧ Om12 w3 F (.slice av N cc) os ∧ Pa.Std w3) := ⟨H1.out.1.below H0.out.1 H4.out, H1.out.2.1.later H4.out, H0.out.2.2.2.2.1.below H4.out⟩
  go_upto_region 9 with fail
  go_cut [13, 14] (fun x y wx => ∃ b13 ru, x = .pointer (some ⟨b13, 0, none⟩) ∧ y = .bool ok ∧ Below w3.heap.size w3 wx ∧ Cb wx b13 (rc18 r ru) 37 ∧ w3.heap.size ≤ b13)
  case first =>
    obtain ⟨fw, fd, fs, qt, ql, a, b, c, Ft, Fl, G, V, hP, _⟩ := H5.out.1
    have HP : Hid (PtU18 LT LS w3 q s.t.room s.z (Pt.wanted s : Int) s.t s.lk fw fd fs F qt ql a b c Ft Fl G) := hP
    clear hP
    refine wp_region_held_drew (S := fun w' => Below w3.heap.size w3 w') (by kernel_rfl) (Below.refl _ w3).drew (fun _ => ?_)
    have H6 : Hid (Below w3.heap.size w3 w3.drew) := (Below.refl _ w3).drew
    generalize w3.drew = w4 at *
    refine' tk (i := 0) (d := 46) rfl rfl (Or.inl ⟨by rfl, ?h0⟩) (H6.out) ?_
    case h0 => intro w hSw; have t1 := Below.kept hSw HP.out.c0; have t2 := Below.kept hSw HP.out.c2; go_simp; with_reducible rfl
    simp only [sA, sB, sC]
    refine' tk (i := 1) (d := 47) rfl rfl (Or.inl ⟨by rfl, ?h1⟩) (H6.out) ?_
    case h1 => intro w hSw; have t1 := Below.kept hSw HP.out.c0; have t2 := Below.kept hSw HP.out.c2; go_simp; with_reducible rfl
    simp only [sA, sB, sC]
    refine' tk (i := 2) (d := 48) rfl rfl (Or.inl ⟨by rfl, ?h2⟩) (H6.out) ?_
    case h2 => intro w hSw; have t1 := Below.kept hSw HP.out.c0; have t2 := Below.kept hSw HP.out.c2; go_simp; with_reducible rfl
    simp only [sA, sB, sC]
    refine' tk (i := 3) (d := 49) rfl rfl (Or.inl ⟨by rfl, ?h3⟩) (H6.out) ?_
    case h3 => intro w hSw; have t1 := Below.kept hSw HP.out.c0; have t2 := Below.kept hSw HP.out.c2; go_simp; with_reducible rfl
    simp only [sA, sB, sC]
    refine' tk (i := 5) (d := 51) rfl rfl (Or.inl ⟨by rfl, ?h5⟩) (H6.out) ?_
    case h5 => intro w hSw; have t1 := Below.kept hSw HP.out.c0; have t2 := Below.kept hSw HP.out.c2; go_simp; with_reducible rfl
    simp only [sA, sB, sC]
    refine' tk (i := 6) (d := 52) rfl rfl (Or.inl ⟨by rfl, ?h6⟩) (H6.out) ?_
    case h6 => intro w hSw; have t1 := Below.kept hSw HP.out.c0; have t2 := Below.kept hSw HP.out.c2; go_simp; with_reducible rfl
    simp only [sA, sB, sC]
    refine' tk (i := 7) (d := 53) rfl rfl (Or.inl ⟨by rfl, ?h7⟩) (H6.out) ?_
    case h7 => intro w hSw; have t1 := Below.kept hSw HP.out.c0; have t2 := Below.kept hSw HP.out.c2; go_simp; with_reducible rfl
    simp only [sA, sB, sC]
    refine' tk (i := 8) (d := 54) rfl rfl (Or.inl ⟨by rfl, ?h8⟩) (H6.out) ?_
    case h8 => intro w hSw; have t1 := Below.kept hSw HP.out.c0; have t2 := Below.kept hSw HP.out.c2; go_simp; with_reducible rfl
    simp only [sA, sB, sC]
    refine' tk (i := 9) (d := 55) rfl rfl (Or.inl ⟨by rfl, ?h9⟩) (H6.out) ?_
    case h9 => intro w hSw; have t1 := Below.kept hSw HP.out.c0; have t2 := Below.kept hSw HP.out.c2; go_simp; with_reducible rfl
    simp only [sA, sB, sC]
    refine' tk (i := 10) (d := 56) rfl rfl (Or.inl ⟨by rfl, ?h10⟩) (H6.out) ?_
    case h10 => intro w hSw; have t1 := Below.kept hSw HP.out.c0; have t2 := Below.kept hSw HP.out.c2; go_simp; with_reducible rfl
    simp only [sA, sB, sC]
    refine wpAnyH_ready (rs := [4, 15]) (by kernel_rfl) (by simp) ?_
    refine AllReadyH.cons (o := _) rfl (fun KQ hKQ => ?_) (AllReadyH.cons (o := _) rfl (fun KQ hKQ => ?_) AllReadyH.nil)
    · go_simp
      refine (H0.out.1.t.copy qt s.t Ft w4 (HP.out.below H0.out.1.t H0.out.1.l H6.out).tr H0.out.2.1.well.fine).mono ?_
      rintro e w5 ⟨q2, F2, rfl, hl2, hF2, _, hb⟩
      have H7 : Hid (Below w3.heap.size w3 w5) := H6.out.trans (hb.mono H6.out.size)
      have HC : Hid (LT w5 q2 s.t F2 ∧ ∀ k, F2 k → w3.heap.size ≤ k) := ⟨hl2, fun k hk => Nat.le_trans H6.out.size (hF2 k hk)⟩
      clear hb hl2 hF2
      refine hKQ.out _ _ H7.out (fun _ => ?_)
      clear hKQ KQ
      refine wpAnyH_ready (rs := [11, 15]) (by kernel_rfl) (by simp) ?_
      refine AllReadyH.cons (o := _) rfl (fun KQ hKQ => ?_) (AllReadyH.cons (o := _) rfl (fun KQ hKQ => ?_) AllReadyH.nil)
      · go_simp
        refine (many_any12 H0.out.1.t H0.out.1.d q2 s.t F2 z s.z (.slice av N cc) os 500 w5 HC.out.1 H0.out.2.1.well.fine H0.out.2.1.well.few (by decide) (fun k hk => by have h1 := HC.out.2 k hk; have h2 := H5.out.2.2.size; omega) (H5.out.2.2.below H7.out) ⟨(H5.out.2.1.later H7.out).ol, fun hne k hk e => by have h1 := HC.out.2 k e; have h2 := H5.out.2.1.lt hne hk; omega⟩ H0.out.2.2.2.2.2.1 (by have := HQ.out.2.2.1; omega)).mono ?_
        rw [← HK.out.1, ← HK.out.2.1]
        rintro e w6 ⟨F3, ru, rfl, hrn, _, hmv⟩
        unfold rpv
        have hrn2 := hrn
        obtain ⟨ua, uk, uc, rfl, _⟩ := hrn2
        have H8 : Hid (Below w3.heap.size w3 w6) := H7.out.trans (hmv.below H7.out.size HC.out.2)
        clear hrn hmv
        refine hKQ.out _ _ H8.out (fun _ => ?_)
        clear hKQ KQ
        refine' tk (i := 12) (d := 45) rfl rfl (Or.inl ⟨by rfl, ?h12⟩) (H8.out) ?_
        case h12 => intro w hSw; go_simp; with_reducible rfl
        simp only [sA, sB, sC]
        refine' tk (i := 13) (d := 58) rfl rfl (Or.inl ⟨by rfl, ?h13⟩) (H8.out) ?_
        case h13 => intro w hSw; go_simp; with_reducible rfl
        simp only [sA, sB, sC]
        refine' tk (i := 14) (d := 59) rfl rfl (Or.inl ⟨by rfl, ?h14⟩) (H8.out) ?_
        case h14 => intro w hSw; go_simp; with_reducible rfl
        simp only [sA, sB, sC]
        refine wpAnyH_ready (rs := [15]) (by kernel_rfl) (by simp) ?_
        refine AllReadyH.cons (o := _) rfl (fun KQ hKQ => ?_) AllReadyH.nil
        go_simp
        have H9 : Hid (Below w3.heap.size w3 (w6.alloc (.cells #[.int .i64 0, .int .i64 0, .int .i64 0, .int .i64 0, .slice none 0 0] 37))) := H8.out.alloc H8.out.size _
        refine hKQ.out _ _ H9.out (fun _ => ?_)
        clear hKQ KQ
        refine wpAnyH_ready (rs := [16]) (by kernel_rfl) (by simp) ?_
        refine AllReadyH.cons (o := _) rfl (fun KQ hKQ => ?_) AllReadyH.nil
        go_simp
        obtain ⟨b13, hb13⟩ : ∃ b, b = w6.heap.size := ⟨_, rfl⟩
        rw [← hb13]
        have H10 : Hid (Below w3.heap.size w3 (w6.alloc (.cells #[.int .i64 r.num, .int .i64 r.zxid, .int .i64 r.err, .int .i64 r.at_, .slice ua r.xs.length uc] 37)) ∧ Cb (w6.alloc (.cells #[.int .i64 r.num, .int .i64 r.zxid, .int .i64 r.err, .int .i64 r.at_, .slice ua r.xs.length uc] 37)) b13 (rc18 r (.slice ua r.xs.length uc)) 37 ∧ w3.heap.size ≤ b13) := ⟨H8.out.alloc H8.out.size _, by rw [hb13]; exact Cb.made w6 _ _, by rw [hb13]; exact H8.out.size⟩
        clear hb13 H9
        generalize (w6.alloc (.cells #[.int .i64 r.num, .int .i64 r.zxid, .int .i64 r.err, .int .i64 r.at_, .slice ua r.xs.length uc] 37)) = w7 at *
        refine hKQ.out _ _ H10.out.1 (fun _ => ?_)
        clear hKQ KQ
        refine' tk (i := 17) (d := 14) rfl rfl (Or.inl ⟨by rfl, ?h17⟩) (H10.out.1) ?_
        case h17 => intro w hSw; go_simp; with_reducible rfl
        simp only [sA, sB, sC]
        refine wpAnyH_done (by kernel_rfl) ?_ _
        go_wp2
        go_meet
        case rel => exact ⟨b13, _, rfl, rfl, H10.out.1, H10.out.2.1, H10.out.2.2⟩
      · go_simp
        obtain ⟨b13, hb13⟩ : ∃ b, b = w5.heap.size := ⟨_, rfl⟩
        rw [← hb13]
        have H8 : Hid (Below w3.heap.size w3 (w5.alloc (.cells #[.int .i64 0, .int .i64 0, .int .i64 0, .int .i64 0, .slice none 0 0] 37)) ∧ Cb (w5.alloc (.cells #[.int .i64 0, .int .i64 0, .int .i64 0, .int .i64 0, .slice none 0 0] 37)) b13 [.int .i64 0, .int .i64 0, .int .i64 0, .int .i64 0, .slice none 0 0] 37 ∧ w3.heap.size ≤ b13 ∧ b13 < (w5.alloc (.cells #[.int .i64 0, .int .i64 0, .int .i64 0, .int .i64 0, .slice none 0 0] 37)).heap.size) := ⟨H7.out.alloc H7.out.size _, by rw [hb13]; exact Cb.made w5 _ _, by rw [hb13]; exact H7.out.size, by rw [World.size_alloc]; omega⟩
        have HC2 : Hid (LT (w5.alloc (.cells #[.int .i64 0, .int .i64 0, .int .i64 0, .int .i64 0, .slice none 0 0] 37)) q2 s.t F2 ∧ (∀ k, F2 k → w3.heap.size ≤ k) ∧ ¬ F2 b13) := by
          have hba := (Below.refl w5.heap.size w5).alloc (Nat.le_refl _) (.cells #[.int .i64 0, .int .i64 0, .int .i64 0, .int .i64 0, .slice none 0 0] 37)
          exact ⟨H0.out.1.t.keep HC.out.1 (fun k hk => hba.block k (H0.out.1.t.lt HC.out.1 hk)), HC.out.2, fun e => by have := H0.out.1.t.lt HC.out.1 e; omega⟩
        have HC3 : Hid (LT (w5.alloc (.cells #[.int .i64 0, .int .i64 0, .int .i64 0, .int .i64 0, .slice none 0 0] 37)) q2 s.t F2 ∧ ∀ k, F2 k → w3.heap.size ≤ k) := ⟨HC2.out.1, HC2.out.2.1⟩
        clear hb13 HC
        generalize (w5.alloc (.cells #[.int .i64 0, .int .i64 0, .int .i64 0, .int .i64 0, .slice none 0 0] 37)) = w6 at *
        refine hKQ.out _ _ H8.out.1 (fun _ => ?_)
        clear hKQ KQ
        have H88 : Hid (Below w3.heap.size w3 w6) := H8.out.1
        refine wpAnyH_ready (rs := [11]) (by kernel_rfl) (by simp) ?_
        refine AllReadyH.cons (o := _) rfl (fun KQ hKQ => ?_) AllReadyH.nil
        go_simp
        refine (many_any12 H0.out.1.t H0.out.1.d q2 s.t F2 z s.z (.slice av N cc) os 500 w6 HC3.out.1 H0.out.2.1.well.fine H0.out.2.1.well.few (by decide) (fun k hk => by have h1 := HC3.out.2 k hk; have h2 := H5.out.2.2.size; omega) (H5.out.2.2.below H88.out) ⟨(H5.out.2.1.later H88.out).ol, fun hne k hk e => by have h1 := HC3.out.2 k e; have h2 := H5.out.2.1.lt hne hk; omega⟩ H0.out.2.2.2.2.2.1 (by have := HQ.out.2.2.1; omega)).mono ?_
        rw [← HK.out.1, ← HK.out.2.1]
        rintro e w7 ⟨F3, ru, rfl, hrn, _, hmv⟩
        unfold rpv
        have hrn2 := hrn
        obtain ⟨ua, uk, uc, rfl, _⟩ := hrn2
        have H9 : Hid (Below w3.heap.size w3 w7) := H88.out.trans (hmv.below H88.out.size HC3.out.2)
        have HZ : Hid (Cb w7 b13 [.int .i64 0, .int .i64 0, .int .i64 0, .int .i64 0, .slice none 0 0] 37 ∧ w3.heap.size ≤ b13) := ⟨H8.out.2.1.keep (hmv.block b13 H8.out.2.2.2 HC2.out.2.2), H8.out.2.2.1⟩
        clear hrn hmv
        refine hKQ.out _ _ H9.out (fun _ => ?_)
        clear hKQ KQ
        refine' tk (i := 12) (d := 45) rfl rfl (Or.inl ⟨by rfl, ?h12⟩) (H9.out) ?_
        case h12 => intro w hSw; go_simp; with_reducible rfl
        simp only [sA, sB, sC]
        refine' tk (i := 13) (d := 58) rfl rfl (Or.inl ⟨by rfl, ?h13⟩) (H9.out) ?_
        case h13 => intro w hSw; go_simp; with_reducible rfl
        simp only [sA, sB, sC]
        refine' tk (i := 14) (d := 59) rfl rfl (Or.inl ⟨by rfl, ?h14⟩) (H9.out) ?_
        case h14 => intro w hSw; go_simp; with_reducible rfl
        simp only [sA, sB, sC]
        refine wpAnyH_ready (rs := [16]) (by kernel_rfl) (by simp) ?_
        refine AllReadyH.cons (o := _) rfl (fun KQ hKQ => ?_) AllReadyH.nil
        refine wp_store_row 37 _ _ rfl b13 #[.int .i64 r.num, .int .i64 r.zxid, .int .i64 r.err, .int .i64 r.at_, .slice ua r.xs.length uc] rfl rfl 37 #[.int .i64 0, .int .i64 0, .int .i64 0, .int .i64 0, .slice none 0 0] HZ.out.1 (by kernel_rfl) rfl (by kernel_rfl) ?_
        have H10 : Hid (Below w3.heap.size w3 (w7.setRow b13 #[.int .i64 r.num, .int .i64 r.zxid, .int .i64 r.err, .int .i64 r.at_, .slice ua r.xs.length uc]) ∧ Cb (w7.setRow b13 #[.int .i64 r.num, .int .i64 r.zxid, .int .i64 r.err, .int .i64 r.at_, .slice ua r.xs.length uc]) b13 (rc18 r (.slice ua r.xs.length uc)) 37 ∧ w3.heap.size ≤ b13) := ⟨H9.out.grown (grown_setRow _ _ _) H9.out.size (fun k hk => by rw [← Option.some.inj hk]; exact HZ.out.2), setRow_heap _ _ _ _ _ _ HZ.out.1, HZ.out.2⟩
        clear HZ
        generalize (w7.setRow b13 #[.int .i64 r.num, .int .i64 r.zxid, .int .i64 r.err, .int .i64 r.at_, .slice ua r.xs.length uc]) = w9 at *
        refine hKQ.out _ _ H10.out.1 (fun _ => ?_)
        clear hKQ KQ
        refine' tk (i := 17) (d := 14) rfl rfl (Or.inl ⟨by rfl, ?h17⟩) (H10.out.1) ?_
        case h17 => intro w hSw; go_simp; with_reducible rfl
        simp only [sA, sB, sC]
        refine wpAnyH_done (by kernel_rfl) ?_ _
        go_wp2
        go_meet
        case rel => exact ⟨b13, _, rfl, rfl, H10.out.1, H10.out.2.1, H10.out.2.2⟩
    · go_simp
      obtain ⟨b13, hb13⟩ : ∃ b, b = w4.heap.size := ⟨_, rfl⟩
      rw [← hb13]
      have H7 : Hid (Below w3.heap.size w3 (w4.alloc (.cells #[.int .i64 0, .int .i64 0, .int .i64 0, .int .i64 0, .slice none 0 0] 37)) ∧ Cb (w4.alloc (.cells #[.int .i64 0, .int .i64 0, .int .i64 0, .int .i64 0, .slice none 0 0] 37)) b13 [.int .i64 0, .int .i64 0, .int .i64 0, .int .i64 0, .slice none 0 0] 37 ∧ w3.heap.size ≤ b13 ∧ b13 < (w4.alloc (.cells #[.int .i64 0, .int .i64 0, .int .i64 0, .int .i64 0, .slice none 0 0] 37)).heap.size) := ⟨H6.out.alloc H6.out.size _, by rw [hb13]; exact Cb.made w4 _ _, by rw [hb13]; exact H6.out.size, by rw [World.size_alloc]; omega⟩
      clear hb13
      generalize (w4.alloc (.cells #[.int .i64 0, .int .i64 0, .int .i64 0, .int .i64 0, .slice none 0 0] 37)) = w5 at *
      refine hKQ.out _ _ H7.out.1 (fun _ => ?_)
      clear hKQ KQ
      have H77 : Hid (Below w3.heap.size w3 w5) := H7.out.1
      refine wpAnyH_ready (rs := [4]) (by kernel_rfl) (by simp) ?_
      refine AllReadyH.cons (o := _) rfl (fun KQ hKQ => ?_) AllReadyH.nil
      go_simp
      refine (H0.out.1.t.copy qt s.t Ft w5 (HP.out.below H0.out.1.t H0.out.1.l H77.out).tr H0.out.2.1.well.fine).mono ?_
      rintro e w6 ⟨q2, F2, rfl, hl2, hF2, _, hb⟩
      have H8 : Hid (Below w3.heap.size w3 w6) := H77.out.trans (hb.mono H77.out.size)
      have HC : Hid (LT w6 q2 s.t F2 ∧ ∀ k, F2 k → w3.heap.size ≤ k) := ⟨hl2, fun k hk => Nat.le_trans H77.out.size (hF2 k hk)⟩
      have HZ0 : Hid (Cb w6 b13 [.int .i64 0, .int .i64 0, .int .i64 0, .int .i64 0, .slice none 0 0] 37 ∧ ¬ F2 b13 ∧ b13 < w6.heap.size) := ⟨H7.out.2.1.below hb, fun e => by have h1 := hF2 b13 e; have h2 := H7.out.2.2.2; omega, Nat.lt_of_lt_of_le H7.out.2.2.2 hb.size⟩
      clear hb hl2 hF2
      refine hKQ.out _ _ H8.out (fun _ => ?_)
      clear hKQ KQ
      refine wpAnyH_ready (rs := [11]) (by kernel_rfl) (by simp) ?_
      refine AllReadyH.cons (o := _) rfl (fun KQ hKQ => ?_) AllReadyH.nil
      go_simp
      refine (many_any12 H0.out.1.t H0.out.1.d q2 s.t F2 z s.z (.slice av N cc) os 500 w6 HC.out.1 H0.out.2.1.well.fine H0.out.2.1.well.few (by decide) (fun k hk => by have h1 := HC.out.2 k hk; have h2 := H5.out.2.2.size; omega) (H5.out.2.2.below H8.out) ⟨(H5.out.2.1.later H8.out).ol, fun hne k hk e => by have h1 := HC.out.2 k e; have h2 := H5.out.2.1.lt hne hk; omega⟩ H0.out.2.2.2.2.2.1 (by have := HQ.out.2.2.1; omega)).mono ?_
      rw [← HK.out.1, ← HK.out.2.1]
      rintro e w7 ⟨F3, ru, rfl, hrn, _, hmv⟩
      unfold rpv
      have hrn2 := hrn
      obtain ⟨ua, uk, uc, rfl, _⟩ := hrn2
      have H9 : Hid (Below w3.heap.size w3 w7) := H8.out.trans (hmv.below H8.out.size HC.out.2)
      have HZ : Hid (Cb w7 b13 [.int .i64 0, .int .i64 0, .int .i64 0, .int .i64 0, .slice none 0 0] 37 ∧ w3.heap.size ≤ b13) := ⟨HZ0.out.1.keep (hmv.block b13 HZ0.out.2.2 HZ0.out.2.1), H7.out.2.2.1⟩
      clear hrn hmv
      refine hKQ.out _ _ H9.out (fun _ => ?_)
      clear hKQ KQ
      refine' tk (i := 12) (d := 45) rfl rfl (Or.inl ⟨by rfl, ?h12⟩) (H9.out) ?_
      case h12 => intro w hSw; go_simp; with_reducible rfl
      simp only [sA, sB, sC]
      refine' tk (i := 13) (d := 58) rfl rfl (Or.inl ⟨by rfl, ?h13⟩) (H9.out) ?_
      case h13 => intro w hSw; go_simp; with_reducible rfl
      simp only [sA, sB, sC]
      refine' tk (i := 14) (d := 59) rfl rfl (Or.inl ⟨by rfl, ?h14⟩) (H9.out) ?_
      case h14 => intro w hSw; go_simp; with_reducible rfl
      simp only [sA, sB, sC]
      refine wpAnyH_ready (rs := [16]) (by kernel_rfl) (by simp) ?_
      refine AllReadyH.cons (o := _) rfl (fun KQ hKQ => ?_) AllReadyH.nil
      refine wp_store_row 37 _ _ rfl b13 #[.int .i64 r.num, .int .i64 r.zxid, .int .i64 r.err, .int .i64 r.at_, .slice ua r.xs.length uc] rfl rfl 37 #[.int .i64 0, .int .i64 0, .int .i64 0, .int .i64 0, .slice none 0 0] HZ.out.1 (by kernel_rfl) rfl (by kernel_rfl) ?_
      have H10 : Hid (Below w3.heap.size w3 (w7.setRow b13 #[.int .i64 r.num, .int .i64 r.zxid, .int .i64 r.err, .int .i64 r.at_, .slice ua r.xs.length uc]) ∧ Cb (w7.setRow b13 #[.int .i64 r.num, .int .i64 r.zxid, .int .i64 r.err, .int .i64 r.at_, .slice ua r.xs.length uc]) b13 (rc18 r (.slice ua r.xs.length uc)) 37 ∧ w3.heap.size ≤ b13) := ⟨H9.out.grown (grown_setRow _ _ _) H9.out.size (fun k hk => by rw [← Option.some.inj hk]; exact HZ.out.2), setRow_heap _ _ _ _ _ _ HZ.out.1, HZ.out.2⟩
      clear HZ
      generalize (w7.setRow b13 #[.int .i64 r.num, .int .i64 r.zxid, .int .i64 r.err, .int .i64 r.at_, .slice ua r.xs.length uc]) = w9 at *
      refine hKQ.out _ _ H10.out.1 (fun _ => ?_)
      clear hKQ KQ
      refine' tk (i := 17) (d := 14) rfl rfl (Or.inl ⟨by rfl, ?h17⟩) (H10.out.1) ?_
      case h17 => intro w hSw; go_simp; with_reducible rfl
      simp only [sA, sB, sC]
      refine wpAnyH_done (by kernel_rfl) ?_ _
      go_wp2
      go_meet
      case rel => exact ⟨b13, _, rfl, rfl, H10.out.1, H10.out.2.1, H10.out.2.2⟩
  case rest =>
    obtain ⟨b13, ru, rfl, rfl, hb, hcb, hge⟩ := hcut
    generalize wc = w4 at *
    have H6 : Hid (LPt18 LT LS w4 q s F ∧ Om12 w4 F (.slice av N cc) os ∧ Kept11 w4 F b13 (rc18 r ru) 37 ∧ Below w.heap.size w w4) := ⟨H5.out.1.below H0.out.1 hb, H5.out.2.1.later hb, ⟨hcb, fun e => by have := H5.out.1.lt e; omega⟩, H4.out.trans (hb.mono H4.out.size)⟩
    clear hb hcb hge H5
    obtain ⟨b15, hb15⟩ : ∃ b, b = w4.heap.size := ⟨_, rfl⟩
    have H7 : Hid (Pq18 LT LS w (w4.alloc (.cells #[.int .i64 z, .slice none 0 0, .bool false] 94)) q s F F b13 b15 (rc18 r ru) z (.slice none 0 0) (.slice av N cc) [] os) := by
      have hba := (Below.refl w4.heap.size w4).alloc (Nat.le_refl _) (.cells #[.int .i64 z, .slice none 0 0, .bool false] 94)
      have hbb := H6.out.2.2.2.trans (hba.mono H6.out.2.2.2.size)
      refine ⟨H6.out.1.below H0.out.1 hba, Moved.of_below F hbb, H0.out.2.2.2.1, H6.out.2.2.1.later hba, ?_, ⟨⟨none, 0, 0, rfl, rfl, Nat.le_refl _, fun _ => rfl, fun j o ho => by simp at ho⟩, fun e => absurd rfl e⟩, fun k _ hne => absurd rfl hne, fun k _ hne => absurd rfl hne, H6.out.2.1.later hba⟩
      rw [hb15]
      exact Kept11.made w4 F (fun k hk => H6.out.1.lt hk) _ _
    have HBW : Hid (Below w.heap.size w (w4.alloc (.cells #[.int .i64 z, .slice none 0 0, .bool false] 94))) := H6.out.2.2.2.alloc H6.out.2.2.2.size _
    have HNE : Hid (b13 ≠ b15 ∧ w.heap.size ≤ b15) := ⟨fun e => by have := H6.out.2.2.1.cb.lt; omega, by rw [hb15]; exact H6.out.2.2.2.size⟩
    go_upto_region 11 with fail
    rw [← hb15]
    clear hb15 H6
    generalize (w4.alloc (.cells #[.int .i64 z, .slice none 0 0, .bool false] 94)) = w5 at *
    cases ok with
    | false =>
      have HX : Hid (Pq18 LT LS w w5 q { s with lk := Lk.adds id s.lk ((os.take 0).flatMap Pt.wants) } F F b13 b15 (rc18 r ru) z (.slice none 0 0) (.slice av N cc) [] os) := H7.out
      go_wp2
      go_loopw [68] (fun i wx => ∃ (k : Nat) (F' : Nat → Prop), k ≤ N ∧ i = .int .i64 (k : Int) ∧ Pq18 LT LS w wx q { s with lk := Lk.adds id s.lk ((os.take k).flatMap Pt.wants) } F F' b13 b15 (rc18 r ru) z (.slice none 0 0) (.slice av N cc) [] os) (fun i _ => N - (intOf i).toNat)
      case atStart => exact ⟨0, F, Nat.zero_le _, rfl, HX.out⟩
      case round =>
        obtain ⟨k, F1, hk, rfl, hpq⟩ := hrel
        have H8 : Hid (Pq18 LT LS w wr q { s with lk := Lk.adds id s.lk ((os.take k).flatMap Pt.wants) } F F1 b13 b15 (rc18 r ru) z (.slice none 0 0) (.slice av N cc) [] os) := hpq
        have HS8 : Hid (Pa.Std wr) := H0.out.2.2.2.2.1.movedP hpq.mv H0.out.2.2.2.1
        clear hpq HX
        by_cases hlt : k < N
        · have hlt' : (k : Int) < (N : Int) := by omega
          have hk0 : (0 : Int) ≤ (k : Int) := by omega
          have hwk : IntKind.wrap .i64 ((k : Int) + 1) = (k : Int) + 1 := by
            have h1 := HQ.out.2.2.1
            have h2 := H1.out.2.2
            rw [IntKind.wrap_i64]
            omega
          obtain ⟨o, ho⟩ : ∃ o, os[k]? = some o := ⟨os[k]'(by rw [← H1.out.2.2]; exact hlt), List.getElem?_eq_getElem _⟩
          have HO : Hid (os[k]? = some o ∧ Oq.good o = 0) := ⟨ho, HQ.out.2.1 o (List.mem_of_getElem? ho)⟩
          obtain ⟨g, b, rfl, y0, y1, y2, y3, y4⟩ := ol_at18 H8.out.arg.ol ho
          clear ho
          obtain ⟨q1, hq1⟩ : ∃ z, z = wr.heap.size := ⟨_, rfl⟩
          have HB1 : Hid (Box5 (wr.alloc (.cells #[.int .i64 o.kind, .string o.path, .string o.data, .int .i64 o.ver, .int .i64 o.flags] 30)) q1 o ∧ Pq18 LT LS w (wr.alloc (.cells #[.int .i64 o.kind, .string o.path, .string o.data, .int .i64 o.ver, .int .i64 o.flags] 30)) q { s with lk := Lk.adds id s.lk ((os.take k).flatMap Pt.wants) } F F1 b13 b15 (rc18 r ru) z (.slice none 0 0) (.slice (some ⟨g, b, none⟩) N cc) [] os ∧ Pa.Std (wr.alloc (.cells #[.int .i64 o.kind, .string o.path, .string o.data, .int .i64 o.ver, .int .i64 o.flags] 30))) := by
            have hba := (Below.refl wr.heap.size wr).alloc (Nat.le_refl _) (.cells #[.int .i64 o.kind, .string o.path, .string o.data, .int .i64 o.ver, .int .i64 o.flags] 30)
            exact ⟨by rw [hq1]; exact Box5.made wr o _, H8.out.later H0.out.1 HS8.out hba, HS8.out.below hba⟩
          go_upto_region 16 with fail
          rw [← hq1]
          clear y0 y1 y2 y3 y4 hq1 H8 HS8
          generalize wr.alloc (.cells #[.int .i64 o.kind, .string o.path, .string o.data, .int .i64 o.ver, .int .i64 o.flags] 30) = wA at *
          obtain ⟨ql, hql, hT⟩ := HB1.out.2.1.ld.take H0.out.1
          have HT : Hid (wA.cell? ⟨q, 3, none⟩ = some (dptr ql)) := hql
          clear hql
          refine wp_region_T (fun w' => Below wA.heap.size wA w') 7 (by kernel_rfl) ?_
          have H9 : Hid (Below wA.heap.size wA wA.drew) := (Below.refl _ wA).drew
          generalize wA.drew = wB at *
          refine' take_T (i := 0) (d := 72) (v := _) rfl rfl (by kernel_rfl) (by kernel_rfl) (by kernel_rfl) (by kernel_rfl) (by kernel_rfl) (fun _ _ _ h => h) (Or.inl ⟨by rfl, ?h0⟩) (H9.out) ?_
          case h0 => intro w hSw; have t1 := Below.kept hSw HT.out; obtain ⟨z0, z1, z2, z3, z4⟩ := HB1.out.1.below hSw; go_simp; with_reducible rfl
          simp only [sA, sB, sC]
          refine' take_T (i := 1) (d := 73) (v := _) rfl rfl (by kernel_rfl) (by kernel_rfl) (by kernel_rfl) (by kernel_rfl) (by kernel_rfl) (fun _ _ _ h => h) (Or.inl ⟨by rfl, ?h1⟩) (H9.out) ?_
          case h1 => intro w hSw; have t1 := Below.kept hSw HT.out; obtain ⟨z0, z1, z2, z3, z4⟩ := HB1.out.1.below hSw; go_simp; with_reducible rfl
          simp only [sA, sB, sC]
          refine' take_T (i := 2) (d := 74) (v := _) rfl rfl (by kernel_rfl) (by kernel_rfl) (by kernel_rfl) (by kernel_rfl) (by kernel_rfl) (fun _ _ _ h => h) (Or.inl ⟨by rfl, ?h2⟩) (H9.out) ?_
          case h2 => intro w hSw; have t1 := Below.kept hSw HT.out; obtain ⟨z0, z1, z2, z3, z4⟩ := HB1.out.1.below hSw; go_simp; with_reducible rfl
          simp only [sA, sB, sC]
          refine' take_T (i := 3) (d := 75) (v := _) rfl rfl (by kernel_rfl) (by kernel_rfl) (by kernel_rfl) (by kernel_rfl) (by kernel_rfl) (fun _ _ _ h => h) (Or.inl ⟨by rfl, ?h3⟩) (H9.out) ?_
          case h3 => intro w hSw; have t1 := Below.kept hSw HT.out; obtain ⟨z0, z1, z2, z3, z4⟩ := HB1.out.1.below hSw; go_simp; with_reducible rfl
          simp only [sA, sB, sC]
          refine' take_T (i := 4) (d := 76) (v := _) rfl rfl (by kernel_rfl) (by kernel_rfl) (by kernel_rfl) (by kernel_rfl) (by kernel_rfl) (fun _ _ _ h => h) (Or.inl ⟨by rfl, ?h4⟩) (H9.out) ?_
          case h4 => intro w hSw; have t1 := Below.kept hSw HT.out; obtain ⟨z0, z1, z2, z3, z4⟩ := HB1.out.1.below hSw; go_simp; with_reducible rfl
          simp only [sA, sB, sC]
          refine' take_T (i := 5) (d := 77) (v := _) rfl rfl (by kernel_rfl) (by kernel_rfl) (by kernel_rfl) (by kernel_rfl) (by kernel_rfl) (fun _ _ _ h => h) (Or.inl ⟨by rfl, ?h5⟩) (H9.out) ?_
          case h5 => intro w hSw; have t1 := Below.kept hSw HT.out; obtain ⟨z0, z1, z2, z3, z4⟩ := HB1.out.1.below hSw; go_simp; with_reducible rfl
          simp only [sA, sB, sC]
          refine wpAnyT_ready (rs := [6]) (by kernel_rfl) (by simp) ?_
          refine AllReadyT.cons (o := _) rfl (fun KQ hKQ => ?_) AllReadyT.nil
          go_simp
          refine (wants_any18 o wB (HB1.out.2.2.below H9.out) (wants_size18 HO.out.2 o.path (wants_path18 o)) (good_flags18 HO.out.2).1 (good_flags18 HO.out.2).2).mono ?_
          rintro e wC ⟨vv, rfl, hrow, hb⟩
          have H10 : Hid (Below wA.heap.size wA wC ∧ wC.ownsRow wB.heap.size 9 1 vv (Pt.wants o).length (sc (Pt.wants o))) := ⟨H9.out.trans (hb.mono H9.out.size), hrow⟩
          clear hb hrow
          refine hKQ.out _ _ (fun _ => H10.out.1) ?_
          clear hKQ KQ
          refine wpAnyT_ready (rs := [7]) (by kernel_rfl) (by simp) ?_
          refine AllReadyT.cons (o := _) rfl (fun KQ hKQ => ?_) AllReadyT.nil
          go_simp
          have hT2 := hT wC id vv (Pt.wants o) (m * 532 + 32) H10.out.1 (adds_fine18 H0.out.2.2.2.2.2.2.2.1 H0.out.2.1.lk k HQ.out.2.2.1 HQ.out.2.1 (Pt.refusal_ok (by rw [HQ.out.1])).2.1) (by have := H0.out.2.2.1; omega) HB1.out.2.1.lo (HB1.out.2.2.below H10.out.1) H0.out.2.2.2.2.2.2.2.1 (ss_row18 H10.out.2) (by have := Pt.wants_le o; omega) (Pt.wants_good HO.out.2) (fun j hj _ e => by
            have h1 := (H10.out.2.lt j hj).1
            have h2 := HB1.out.2.1.ld.lt e
            have h3 := H9.out.size
            omega)
          rw [adds_step18 HO.out.1 HQ.out.2.1 (Pt.refusal_ok (by rw [HQ.out.1])).2.1] at hT2
          refine hT2.mono ?_
          rintro e wD ⟨F2, rfl, hl2, hmv, _⟩
          have H11 : Hid (Pq18 LT LS w wD q { s with lk := Lk.adds id s.lk ((os.take (k + 1)).flatMap Pt.wants) } F F2 b13 b15 (rc18 r ru) z (.slice none 0 0) (.slice (some ⟨g, b, none⟩) N cc) [] os) := (HB1.out.2.1.later H0.out.1 HB1.out.2.2 H10.out.1).moved (HB1.out.2.2.below H10.out.1) hl2 hmv
          clear hl2 hmv hT hT2 HT HB1 H9 H10
          refine hKQ.out _ _ (fun h => absurd rfl h) ?_
          clear hKQ KQ
          refine wpAnyT_done (by kernel_rfl) ?_ _
          go_wp2
          go_roundw
          case rel => exact ⟨k + 1, F2, by omega, by go_num, H11.out⟩
          case measure => simp [intOf]; omega
        · have hlt' : ¬ (k : Int) < (N : Int) := by omega
          have e1 : os.take k = os := by rw [show k = N by omega, H1.out.2.2, List.take_length]
          rw [e1] at H8
          clear e1
          have z0 : wr.cell? ⟨b15, 0, none⟩ = some (.int .i64 z) := H8.out.one.cb.cell 0
          have z1 : wr.cell? ⟨b15, 1, none⟩ = some (.slice none 0 0) := H8.out.one.cb.cell 1
          have z2 : wr.cell? ⟨b15, 2, none⟩ = some (.bool false) := H8.out.one.cb.cell 2
          have HI : Hid (id = id ∧ (∀ x ∈ s.ps, x.id ≠ id) ∧ Pt.FitP ⟨id, z, os, false, true⟩) := ⟨rfl, (Pt.isNew_ok HB.out.symm).2.1, ⟨⟨(Pt.isNew_ok HB.out.symm).1, H0.out.2.2.2.2.2.2.2.1.2⟩, ⟨by have := HM.out.2; show 1 ≤ z; omega, H0.out.2.2.2.2.2.2.2.2.2⟩, fun _ => ⟨HM.out.1.symm, H0.out.2.2.2.2.2.1⟩, fun e => by cases e⟩⟩
          go_wp2_with fail
          refine (H8.out.ld.prepare H0.out.1 (m := m) (p := ⟨id, z, os, false, true⟩) H0.out.2.1.ps ⟨H0.out.2.1.lens.1, H0.out.2.1.lens.2.2⟩ H0.out.2.2.1 HI.out.2.2 HI.out.2.1 none 0 0 H8.out.own).mono ?_
          rintro e w9 ⟨rfl, F9, hl9, hm9, hs9, hw9⟩
          have H9 : Hid (LPt18 LT LS w9 q { s with lk := Lk.adds id s.lk (os.flatMap Pt.wants), ps := s.ps ++ [⟨id, z, os, false, true⟩] } F9 ∧ Moved w w9 F F9 ∧ Kept11 w9 F9 b13 (rc18 r ru) 37) := by
            refine ⟨hl9, H8.out.mv.wide18 hm9 (fun k hk => ?_), Kept11.moved ⟨H8.out.ans.cb, fun e => ?_⟩ hm9⟩
            · rcases hs9 k hk with e | e
              · exact Or.inl e
              · exact Or.inr (H8.out.hi k e.1 e.2)
            · rcases hs9 b13 e with e | e
              · exact H8.out.ans.off e
              · exact H8.out.ne b13 e.1 e.2 rfl
          clear hl9 hm9 hs9 hw9 z0 z1 z2 H8 HS8
          go_upto_region 19 with fail
          refine wp_region_held_drew (S := fun w' => Below w9.heap.size w9 w') (by kernel_rfl) (Below.refl _ w9).drew (fun _ => ?_)
          have H10 : Hid (Below w9.heap.size w9 w9.drew) := (Below.refl _ w9).drew
          generalize w9.drew = w10 at *
          refine' tk (i := 0) (d := 85) rfl rfl (Or.inl ⟨by rfl, ?h0⟩) (H10.out) ?_
          case h0 => intro w hSw; have y2 : w.cell? ⟨b13, 2, none⟩ = some (.int .i64 r.err) := Below.kept hSw (H9.out.2.2.cb.cell 2); have y3 : w.cell? ⟨b13, 3, none⟩ = some (.int .i64 r.at_) := Below.kept hSw (H9.out.2.2.cb.cell 3); go_simp; with_reducible rfl
          simp only [sA, sB, sC]
          refine' tk (i := 1) (d := 86) rfl rfl (Or.inl ⟨by rfl, ?h1⟩) (H10.out) ?_
          case h1 => intro w hSw; have y2 : w.cell? ⟨b13, 2, none⟩ = some (.int .i64 r.err) := Below.kept hSw (H9.out.2.2.cb.cell 2); have y3 : w.cell? ⟨b13, 3, none⟩ = some (.int .i64 r.at_) := Below.kept hSw (H9.out.2.2.cb.cell 3); go_simp; with_reducible rfl
          simp only [sA, sB, sC]
          refine' tk (i := 2) (d := 87) rfl rfl (Or.inl ⟨by rfl, ?h2⟩) (H10.out) ?_
          case h2 => intro w hSw; have y2 : w.cell? ⟨b13, 2, none⟩ = some (.int .i64 r.err) := Below.kept hSw (H9.out.2.2.cb.cell 2); have y3 : w.cell? ⟨b13, 3, none⟩ = some (.int .i64 r.at_) := Below.kept hSw (H9.out.2.2.cb.cell 3); go_simp; with_reducible rfl
          simp only [sA, sB, sC]
          refine' tk (i := 3) (d := 88) rfl rfl (Or.inl ⟨by rfl, ?h3⟩) (H10.out) ?_
          case h3 => intro w hSw; have y2 : w.cell? ⟨b13, 2, none⟩ = some (.int .i64 r.err) := Below.kept hSw (H9.out.2.2.cb.cell 2); have y3 : w.cell? ⟨b13, 3, none⟩ = some (.int .i64 r.at_) := Below.kept hSw (H9.out.2.2.cb.cell 3); go_simp; with_reducible rfl
          simp only [sA, sB, sC]
          refine' tk (i := 4) (d := 8) rfl rfl (Or.inl ⟨by rfl, ?h4⟩) (H10.out) ?_
          case h4 => intro w hSw; have y2 : w.cell? ⟨b13, 2, none⟩ = some (.int .i64 r.err) := Below.kept hSw (H9.out.2.2.cb.cell 2); have y3 : w.cell? ⟨b13, 3, none⟩ = some (.int .i64 r.at_) := Below.kept hSw (H9.out.2.2.cb.cell 3); go_simp; with_reducible rfl
          simp only [sA, sB, sC]
          refine' tk (i := 5) (d := 9) rfl rfl (Or.inl ⟨by rfl, ?h5⟩) (H10.out) ?_
          case h5 => intro w hSw; have y2 : w.cell? ⟨b13, 2, none⟩ = some (.int .i64 r.err) := Below.kept hSw (H9.out.2.2.cb.cell 2); have y3 : w.cell? ⟨b13, 3, none⟩ = some (.int .i64 r.at_) := Below.kept hSw (H9.out.2.2.cb.cell 3); go_simp; with_reducible rfl
          simp only [sA, sB, sC]
          refine wpAnyH_done (by kernel_rfl) ?_ _
          go_wp2
          go_ret2
          rw [HK.out.2.2]
          exact ⟨F9, rfl, H9.out.1.below H0.out.1 H10.out, H9.out.2.1.trans (Moved.of_below F9 H10.out)⟩
    | true =>
      have f1 : w5.frozen? ⟨b15, 1, none⟩ = false := H7.out.one.cb.free 1
      have x1 : w5.cell? ⟨b15, 1, none⟩ = some (.slice none 0 0) := H7.out.one.cb.cell 1
      have HS5 : Hid (Pa.Std w5) := H0.out.2.2.2.2.1.below HBW.out
      go_wp2_with fail
      refine (copied_any18 (.slice av N cc) os w5 H7.out.arg.ol HQ.out.2.2.2.1 (by have := HQ.out.2.2.1; omega) HQ.out.2.2.2.2).mono ?_
      rw [← H1.out.2.2]
      rintro e w6 ⟨g7, c7, rfl, hrow, hb⟩
      have f2 : w6.frozen? ⟨b15, 1, none⟩ = false := (World.frozen?_of_block (hb.block b15 H7.out.one.cb.lt)).trans f1
      have x2 : w6.cell? ⟨b15, 1, none⟩ = some (.slice none 0 0) := Below.kept hb x1
      have HX : Hid (Pq18 LT LS w (w6.setCell ⟨b15, 1, none⟩ (.slice (some ⟨g7, 0, none⟩) N c7)) q { s with lk := Lk.adds id s.lk ((os.take 0).flatMap Pt.wants) } F F b13 b15 (rc18 r ru) z (.slice (some ⟨g7, 0, none⟩) N c7) (.slice av N cc) os os) := by
        have hp := H7.out.later H0.out.1 HS5.out hb
        have hg := grownBy_setCell w6 ⟨b15, 1, none⟩ (.slice (some ⟨g7, 0, none⟩) N c7)
        have hg5 := (hrow.lt g7 rfl)
        have h15 := H7.out.one.cb.lt
        have h13 := H7.out.ans.cb.lt
        have h16 := HNE.out.2
        have hF : ∀ k, F k → k < w5.heap.size := fun k hk => H7.out.ld.lt hk
        have hkeep : ∀ k, k < w6.heap.size → k ≠ b15 → (w6.setCell ⟨b15, 1, none⟩ (.slice (some ⟨g7, 0, none⟩) N c7)).heap[k]? = w6.heap[k]? := fun k hk hne => hg.block k hk (by simpa using hne)
        have hb6 := hb.size
        have hN := H1.out.2.2
        have hrow2 : w6.ownsRow w5.heap.size 30 5 (.slice (some ⟨g7, 0, none⟩) N c7) os.length (os.flatMap oc) := by rw [← hN]; exact hrow
        refine ⟨lpt_keep18 H0.out.1.t H0.out.1.l hp.ld fun k hk => hkeep k (by have := hF k hk; omega) (fun e => H7.out.one.off (e ▸ hk)), ⟨hg.os.trans hp.mv.os, hg.tape.trans hp.mv.tape, hg.output.trans hp.mv.output, Nat.le_trans hp.mv.size hg.size, fun k hk hkF => ?_, hp.mv.sub⟩, H0.out.2.2.2.1, ⟨hp.ans.cb.keep (hkeep b13 (by omega) HNE.out.1), hp.ans.off⟩, ⟨hp.one.cb.set 1 _, hp.one.off⟩, ⟨Ol.own (row_stays hrow2 fun k hk => ?_), fun _ k hk e => ?_⟩, fun k hk _ => ?_, fun k hk _ => ?_, hp.arg.keep (fun k hk hl => ?_) (fun hne => hp.arg.off hne)⟩
        · rw [hkeep k (by have := hp.mv.size; omega) (by omega)]
          exact hp.mv.block k hk hkF
        · simp only [Value.ownBlock, Option.some.injEq] at hk
          subst hk
          exact hkeep g7 hg5.2 (by omega)
        · simp only [Value.ownBlock, Option.some.injEq] at hk
          subst hk
          have := hF g7 e
          omega
        · simp only [Value.ownBlock, Option.some.injEq] at hk
          subst hk
          have := HBW.out.size
          omega
        · simp only [Value.ownBlock, Option.some.injEq] at hk
          subst hk
          omega
        · have h1 := H1.out.2.1.lt HQ.out.2.2.2.1 hk
          exact hkeep k hl (by omega)
      clear hrow hb f1 x1 H7 HBW HS5
      go_wp2
      go_loopw [68] (fun i wx => ∃ (k : Nat) (F' : Nat → Prop), k ≤ N ∧ i = .int .i64 (k : Int) ∧ Pq18 LT LS w wx q { s with lk := Lk.adds id s.lk ((os.take k).flatMap Pt.wants) } F F' b13 b15 (rc18 r ru) z (.slice (some ⟨g7, 0, none⟩) N c7) (.slice av N cc) os os) (fun i _ => N - (intOf i).toNat)
      case atStart => exact ⟨0, F, Nat.zero_le _, rfl, HX.out⟩
      case round =>
        obtain ⟨k, F1, hk, rfl, hpq⟩ := hrel
        have H8 : Hid (Pq18 LT LS w wr q { s with lk := Lk.adds id s.lk ((os.take k).flatMap Pt.wants) } F F1 b13 b15 (rc18 r ru) z (.slice (some ⟨g7, 0, none⟩) N c7) (.slice av N cc) os os) := hpq
        have HS8 : Hid (Pa.Std wr) := H0.out.2.2.2.2.1.movedP hpq.mv H0.out.2.2.2.1
        clear hpq HX
        by_cases hlt : k < N
        · have hlt' : (k : Int) < (N : Int) := by omega
          have hk0 : (0 : Int) ≤ (k : Int) := by omega
          have hwk : IntKind.wrap .i64 ((k : Int) + 1) = (k : Int) + 1 := by
            have h1 := HQ.out.2.2.1
            have h2 := H1.out.2.2
            rw [IntKind.wrap_i64]
            omega
          obtain ⟨o, ho⟩ : ∃ o, os[k]? = some o := ⟨os[k]'(by rw [← H1.out.2.2]; exact hlt), List.getElem?_eq_getElem _⟩
          have HO : Hid (os[k]? = some o ∧ Oq.good o = 0) := ⟨ho, HQ.out.2.1 o (List.mem_of_getElem? ho)⟩
          obtain ⟨g, b, rfl, y0, y1, y2, y3, y4⟩ := ol_at18 H8.out.arg.ol ho
          clear ho
          obtain ⟨q1, hq1⟩ : ∃ z, z = wr.heap.size := ⟨_, rfl⟩
          have HB1 : Hid (Box5 (wr.alloc (.cells #[.int .i64 o.kind, .string o.path, .string o.data, .int .i64 o.ver, .int .i64 o.flags] 30)) q1 o ∧ Pq18 LT LS w (wr.alloc (.cells #[.int .i64 o.kind, .string o.path, .string o.data, .int .i64 o.ver, .int .i64 o.flags] 30)) q { s with lk := Lk.adds id s.lk ((os.take k).flatMap Pt.wants) } F F1 b13 b15 (rc18 r ru) z (.slice (some ⟨g7, 0, none⟩) N c7) (.slice (some ⟨g, b, none⟩) N cc) os os ∧ Pa.Std (wr.alloc (.cells #[.int .i64 o.kind, .string o.path, .string o.data, .int .i64 o.ver, .int .i64 o.flags] 30))) := by
            have hba := (Below.refl wr.heap.size wr).alloc (Nat.le_refl _) (.cells #[.int .i64 o.kind, .string o.path, .string o.data, .int .i64 o.ver, .int .i64 o.flags] 30)
            exact ⟨by rw [hq1]; exact Box5.made wr o _, H8.out.later H0.out.1 HS8.out hba, HS8.out.below hba⟩
          go_upto_region 16 with fail
          rw [← hq1]
          clear y0 y1 y2 y3 y4 hq1 H8 HS8
          generalize wr.alloc (.cells #[.int .i64 o.kind, .string o.path, .string o.data, .int .i64 o.ver, .int .i64 o.flags] 30) = wA at *
          obtain ⟨ql, hql, hT⟩ := HB1.out.2.1.ld.take H0.out.1
          have HT : Hid (wA.cell? ⟨q, 3, none⟩ = some (dptr ql)) := hql
          clear hql
          refine wp_region_T (fun w' => Below wA.heap.size wA w') 7 (by kernel_rfl) ?_
          have H9 : Hid (Below wA.heap.size wA wA.drew) := (Below.refl _ wA).drew
          generalize wA.drew = wB at *
          refine' take_T (i := 0) (d := 72) (v := _) rfl rfl (by kernel_rfl) (by kernel_rfl) (by kernel_rfl) (by kernel_rfl) (by kernel_rfl) (fun _ _ _ h => h) (Or.inl ⟨by rfl, ?h0⟩) (H9.out) ?_
          case h0 => intro w hSw; have t1 := Below.kept hSw HT.out; obtain ⟨z0, z1, z2, z3, z4⟩ := HB1.out.1.below hSw; go_simp; with_reducible rfl
          simp only [sA, sB, sC]
          refine' take_T (i := 1) (d := 73) (v := _) rfl rfl (by kernel_rfl) (by kernel_rfl) (by kernel_rfl) (by kernel_rfl) (by kernel_rfl) (fun _ _ _ h => h) (Or.inl ⟨by rfl, ?h1⟩) (H9.out) ?_
          case h1 => intro w hSw; have t1 := Below.kept hSw HT.out; obtain ⟨z0, z1, z2, z3, z4⟩ := HB1.out.1.below hSw; go_simp; with_reducible rfl
          simp only [sA, sB, sC]
          refine' take_T (i := 2) (d := 74) (v := _) rfl rfl (by kernel_rfl) (by kernel_rfl) (by kernel_rfl) (by kernel_rfl) (by kernel_rfl) (fun _ _ _ h => h) (Or.inl ⟨by rfl, ?h2⟩) (H9.out) ?_
          case h2 => intro w hSw; have t1 := Below.kept hSw HT.out; obtain ⟨z0, z1, z2, z3, z4⟩ := HB1.out.1.below hSw; go_simp; with_reducible rfl
          simp only [sA, sB, sC]
          refine' take_T (i := 3) (d := 75) (v := _) rfl rfl (by kernel_rfl) (by kernel_rfl) (by kernel_rfl) (by kernel_rfl) (by kernel_rfl) (fun _ _ _ h => h) (Or.inl ⟨by rfl, ?h3⟩) (H9.out) ?_
          case h3 => intro w hSw; have t1 := Below.kept hSw HT.out; obtain ⟨z0, z1, z2, z3, z4⟩ := HB1.out.1.below hSw; go_simp; with_reducible rfl
          simp only [sA, sB, sC]
          refine' take_T (i := 4) (d := 76) (v := _) rfl rfl (by kernel_rfl) (by kernel_rfl) (by kernel_rfl) (by kernel_rfl) (by kernel_rfl) (fun _ _ _ h => h) (Or.inl ⟨by rfl, ?h4⟩) (H9.out) ?_
          case h4 => intro w hSw; have t1 := Below.kept hSw HT.out; obtain ⟨z0, z1, z2, z3, z4⟩ := HB1.out.1.below hSw; go_simp; with_reducible rfl
          simp only [sA, sB, sC]
          refine' take_T (i := 5) (d := 77) (v := _) rfl rfl (by kernel_rfl) (by kernel_rfl) (by kernel_rfl) (by kernel_rfl) (by kernel_rfl) (fun _ _ _ h => h) (Or.inl ⟨by rfl, ?h5⟩) (H9.out) ?_
          case h5 => intro w hSw; have t1 := Below.kept hSw HT.out; obtain ⟨z0, z1, z2, z3, z4⟩ := HB1.out.1.below hSw; go_simp; with_reducible rfl
          simp only [sA, sB, sC]
          refine wpAnyT_ready (rs := [6]) (by kernel_rfl) (by simp) ?_
          refine AllReadyT.cons (o := _) rfl (fun KQ hKQ => ?_) AllReadyT.nil
          go_simp
          refine (wants_any18 o wB (HB1.out.2.2.below H9.out) (wants_size18 HO.out.2 o.path (wants_path18 o)) (good_flags18 HO.out.2).1 (good_flags18 HO.out.2).2).mono ?_
          rintro e wC ⟨vv, rfl, hrow, hb⟩
          have H10 : Hid (Below wA.heap.size wA wC ∧ wC.ownsRow wB.heap.size 9 1 vv (Pt.wants o).length (sc (Pt.wants o))) := ⟨H9.out.trans (hb.mono H9.out.size), hrow⟩
          clear hb hrow
          refine hKQ.out _ _ (fun _ => H10.out.1) ?_
          clear hKQ KQ
          refine wpAnyT_ready (rs := [7]) (by kernel_rfl) (by simp) ?_
          refine AllReadyT.cons (o := _) rfl (fun KQ hKQ => ?_) AllReadyT.nil
          go_simp
          have hT2 := hT wC id vv (Pt.wants o) (m * 532 + 32) H10.out.1 (adds_fine18 H0.out.2.2.2.2.2.2.2.1 H0.out.2.1.lk k HQ.out.2.2.1 HQ.out.2.1 (Pt.refusal_ok (by rw [HQ.out.1])).2.1) (by have := H0.out.2.2.1; omega) HB1.out.2.1.lo (HB1.out.2.2.below H10.out.1) H0.out.2.2.2.2.2.2.2.1 (ss_row18 H10.out.2) (by have := Pt.wants_le o; omega) (Pt.wants_good HO.out.2) (fun j hj _ e => by
            have h1 := (H10.out.2.lt j hj).1
            have h2 := HB1.out.2.1.ld.lt e
            have h3 := H9.out.size
            omega)
          rw [adds_step18 HO.out.1 HQ.out.2.1 (Pt.refusal_ok (by rw [HQ.out.1])).2.1] at hT2
          refine hT2.mono ?_
          rintro e wD ⟨F2, rfl, hl2, hmv, _⟩
          have H11 : Hid (Pq18 LT LS w wD q { s with lk := Lk.adds id s.lk ((os.take (k + 1)).flatMap Pt.wants) } F F2 b13 b15 (rc18 r ru) z (.slice (some ⟨g7, 0, none⟩) N c7) (.slice (some ⟨g, b, none⟩) N cc) os os) := (HB1.out.2.1.later H0.out.1 HB1.out.2.2 H10.out.1).moved (HB1.out.2.2.below H10.out.1) hl2 hmv
          clear hl2 hmv hT hT2 HT HB1 H9 H10
          refine hKQ.out _ _ (fun h => absurd rfl h) ?_
          clear hKQ KQ
          refine wpAnyT_done (by kernel_rfl) ?_ _
          go_wp2
          go_roundw
          case rel => exact ⟨k + 1, F2, by omega, by go_num, H11.out⟩
          case measure => simp [intOf]; omega
        · have hlt' : ¬ (k : Int) < (N : Int) := by omega
          have e1 : os.take k = os := by rw [show k = N by omega, H1.out.2.2, List.take_length]
          rw [e1] at H8
          clear e1
          have z0 : wr.cell? ⟨b15, 0, none⟩ = some (.int .i64 z) := H8.out.one.cb.cell 0
          have z1 : wr.cell? ⟨b15, 1, none⟩ = some (.slice (some ⟨g7, 0, none⟩) N c7) := H8.out.one.cb.cell 1
          have z2 : wr.cell? ⟨b15, 2, none⟩ = some (.bool false) := H8.out.one.cb.cell 2
          have HI : Hid (id = id ∧ (∀ x ∈ s.ps, x.id ≠ id) ∧ Pt.FitP ⟨id, z, os, false, false⟩) := ⟨rfl, (Pt.isNew_ok HB.out.symm).2.1, ⟨⟨(Pt.isNew_ok HB.out.symm).1, H0.out.2.2.2.2.2.2.2.1.2⟩, ⟨by have := HM.out.2; show 1 ≤ z; omega, H0.out.2.2.2.2.2.2.2.2.2⟩, fun _ => ⟨HM.out.1.symm, H0.out.2.2.2.2.2.1⟩, fun e => by cases e⟩⟩
          go_wp2_with fail
          refine (H8.out.ld.prepare H0.out.1 (m := m) (p := ⟨id, z, os, false, false⟩) H0.out.2.1.ps ⟨H0.out.2.1.lens.1, H0.out.2.1.lens.2.2⟩ H0.out.2.2.1 HI.out.2.2 HI.out.2.1 (some ⟨g7, 0, none⟩) N c7 H8.out.own).mono ?_
          rintro e w9 ⟨rfl, F9, hl9, hm9, hs9, hw9⟩
          have H9 : Hid (LPt18 LT LS w9 q { s with lk := Lk.adds id s.lk (os.flatMap Pt.wants), ps := s.ps ++ [⟨id, z, os, false, false⟩] } F9 ∧ Moved w w9 F F9 ∧ Kept11 w9 F9 b13 (rc18 r ru) 37) := by
            refine ⟨hl9, H8.out.mv.wide18 hm9 (fun k hk => ?_), Kept11.moved ⟨H8.out.ans.cb, fun e => ?_⟩ hm9⟩
            · rcases hs9 k hk with e | e
              · exact Or.inl e
              · exact Or.inr (H8.out.hi k e.1 e.2)
            · rcases hs9 b13 e with e | e
              · exact H8.out.ans.off e
              · exact H8.out.ne b13 e.1 e.2 rfl
          clear hl9 hm9 hs9 hw9 z0 z1 z2 H8 HS8
          go_upto_region 19 with fail
          refine wp_region_held_drew (S := fun w' => Below w9.heap.size w9 w') (by kernel_rfl) (Below.refl _ w9).drew (fun _ => ?_)
          have H10 : Hid (Below w9.heap.size w9 w9.drew) := (Below.refl _ w9).drew
          generalize w9.drew = w10 at *
          refine' tk (i := 0) (d := 85) rfl rfl (Or.inl ⟨by rfl, ?h0⟩) (H10.out) ?_
          case h0 => intro w hSw; have y2 : w.cell? ⟨b13, 2, none⟩ = some (.int .i64 r.err) := Below.kept hSw (H9.out.2.2.cb.cell 2); have y3 : w.cell? ⟨b13, 3, none⟩ = some (.int .i64 r.at_) := Below.kept hSw (H9.out.2.2.cb.cell 3); go_simp; with_reducible rfl
          simp only [sA, sB, sC]
          refine' tk (i := 1) (d := 86) rfl rfl (Or.inl ⟨by rfl, ?h1⟩) (H10.out) ?_
          case h1 => intro w hSw; have y2 : w.cell? ⟨b13, 2, none⟩ = some (.int .i64 r.err) := Below.kept hSw (H9.out.2.2.cb.cell 2); have y3 : w.cell? ⟨b13, 3, none⟩ = some (.int .i64 r.at_) := Below.kept hSw (H9.out.2.2.cb.cell 3); go_simp; with_reducible rfl
          simp only [sA, sB, sC]
          refine' tk (i := 2) (d := 87) rfl rfl (Or.inl ⟨by rfl, ?h2⟩) (H10.out) ?_
          case h2 => intro w hSw; have y2 : w.cell? ⟨b13, 2, none⟩ = some (.int .i64 r.err) := Below.kept hSw (H9.out.2.2.cb.cell 2); have y3 : w.cell? ⟨b13, 3, none⟩ = some (.int .i64 r.at_) := Below.kept hSw (H9.out.2.2.cb.cell 3); go_simp; with_reducible rfl
          simp only [sA, sB, sC]
          refine' tk (i := 3) (d := 88) rfl rfl (Or.inl ⟨by rfl, ?h3⟩) (H10.out) ?_
          case h3 => intro w hSw; have y2 : w.cell? ⟨b13, 2, none⟩ = some (.int .i64 r.err) := Below.kept hSw (H9.out.2.2.cb.cell 2); have y3 : w.cell? ⟨b13, 3, none⟩ = some (.int .i64 r.at_) := Below.kept hSw (H9.out.2.2.cb.cell 3); go_simp; with_reducible rfl
          simp only [sA, sB, sC]
          refine' tk (i := 4) (d := 8) rfl rfl (Or.inl ⟨by rfl, ?h4⟩) (H10.out) ?_
          case h4 => intro w hSw; have y2 : w.cell? ⟨b13, 2, none⟩ = some (.int .i64 r.err) := Below.kept hSw (H9.out.2.2.cb.cell 2); have y3 : w.cell? ⟨b13, 3, none⟩ = some (.int .i64 r.at_) := Below.kept hSw (H9.out.2.2.cb.cell 3); go_simp; with_reducible rfl
          simp only [sA, sB, sC]
          refine' tk (i := 5) (d := 9) rfl rfl (Or.inl ⟨by rfl, ?h5⟩) (H10.out) ?_
          case h5 => intro w hSw; have y2 : w.cell? ⟨b13, 2, none⟩ = some (.int .i64 r.err) := Below.kept hSw (H9.out.2.2.cb.cell 2); have y3 : w.cell? ⟨b13, 3, none⟩ = some (.int .i64 r.at_) := Below.kept hSw (H9.out.2.2.cb.cell 3); go_simp; with_reducible rfl
          simp only [sA, sB, sC]
          refine wpAnyH_done (by kernel_rfl) ?_ _
          go_wp2
          go_ret2
          rw [HK.out.2.2]
          exact ⟨F9, rfl, H9.out.1.below H0.out.1 H10.out, H9.out.2.1.trans (Moved.of_below F9 H10.out)⟩
end
end Go.Proofs.YtboejbjobjhajaaGreatDoor
