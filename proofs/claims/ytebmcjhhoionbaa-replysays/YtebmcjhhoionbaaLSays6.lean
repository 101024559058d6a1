/- The walk of the statement ReplySays, over what reply's calls answer: it answers true. -/
import Derived.Test.YtebmcjhhoionbaaLReads6
import Derived.Test.YtebmcjhhoionbaaRFail
import Derived.Test.YtebmcjhhoionbaaRPutR
import Derived.Test.YtebmcjhhoionbaaROne
namespace Go.Proofs.Ytebmcjhhoionbaa
open Go.RowKit

set_option maxRecDepth 20000 in
set_option maxHeartbeats 4000000 in
theorem says_any6 (hs : Specs6) (r p : Rp) (u u' : Value) (er at_ n : Int) (w : World) (hn : -9223372036854775808 ≤ n ∧ n ≤ 9223372036854775807) (hu : Rl w u r.xs) (hu' : Rl w u' p.xs) (hl : r.xs.length ≤ maxLen) (hl' : p.xs.length ≤ maxLen) (hf : Rq.FitR r) (hf' : Rq.FitR p) :
    Calls Try.prog 4 #[rv r u, rv p u', .int .i64 er, .int .i64 at_, .int .i64 n] w fun e w' => e = .returned (.bool true) ∧ Below w.heap.size w w' := by
  have HS : Hid Specs6 := hs
  have HNN : Hid (-9223372036854775808 ≤ n ∧ n ≤ 9223372036854775807) := hn
  have HU : Hid (Rl w u r.xs ∧ Rl w u' p.xs) := ⟨hu, hu'⟩
  have HF : Hid (r.xs.length ≤ maxLen ∧ Rq.FitR r ∧ p.xs.length ≤ maxLen ∧ Rq.FitR p) := ⟨hl, hf, hl', hf'⟩
  obtain ⟨au, m, cu, rfl, hm, hX⟩ := hu
  obtain ⟨ap, mp, cp, rfl, hmp, hXp⟩ := hu'
  clear hs hn hl hf hm hX hl' hf' hmp hXp
  unfold rv
  have HX1 : Hid (BoxR ((w.alloc (.cells #[.int .i64 r.num, .int .i64 r.zxid, .int .i64 r.err, .int .i64 r.at_, .slice au m cu] 26)).alloc (.cells #[.int .i64 p.num, .int .i64 p.zxid, .int .i64 p.err, .int .i64 p.at_, .slice ap mp cp] 26)) w.heap.size r (.slice au m cu)) := (BoxR.made w r _ _).below ((Below.refl _ _).alloc (Nat.le_refl _) _)
  have HY1 : Hid (BoxR ((w.alloc (.cells #[.int .i64 r.num, .int .i64 r.zxid, .int .i64 r.err, .int .i64 r.at_, .slice au m cu] 26)).alloc (.cells #[.int .i64 p.num, .int .i64 p.zxid, .int .i64 p.err, .int .i64 p.at_, .slice ap mp cp] 26)) (w.heap.size + 1) p (.slice ap mp cp)) := by
    have h := BoxR.made (w.alloc (.cells #[.int .i64 r.num, .int .i64 r.zxid, .int .i64 r.err, .int .i64 r.at_, .slice au m cu] 26)) p (.slice ap mp cp) 26
    rw [World.size_alloc] at h
    exact h
  have HB1 : Hid (Below w.heap.size w ((w.alloc (.cells #[.int .i64 r.num, .int .i64 r.zxid, .int .i64 r.err, .int .i64 r.at_, .slice au m cu] 26)).alloc (.cells #[.int .i64 p.num, .int .i64 p.zxid, .int .i64 p.err, .int .i64 p.at_, .slice ap mp cp] 26))) := ((Below.refl _ w).alloc (Nat.le_refl _) _).alloc (by simp) _
  go_enter Try.func4, Try.ntmps4
  go_wp2_with fail
  generalize (w.alloc (.cells #[.int .i64 r.num, .int .i64 r.zxid, .int .i64 r.err, .int .i64 r.at_, .slice au m cu] 26)).alloc (.cells #[.int .i64 p.num, .int .i64 p.zxid, .int .i64 p.err, .int .i64 p.at_, .slice ap mp cp] 26) = w1 at *
  refine (awake_any6 HS.out _).mono ?_
  rintro e w2 ⟨rfl, hb⟩
  have HB2 : Hid (Below w.heap.size w w2) := HB1.out.trans (hb.mono HB1.out.size)
  have HX2 : Hid (BoxR w2 w.heap.size r (.slice au m cu) ∧ BoxR w2 (w.heap.size + 1) p (.slice ap mp cp)) := ⟨HX1.out.below hb, HY1.out.below hb⟩
  clear hb
  obtain ⟨x0, x1, x2, x3, x4⟩ := HX2.out.1
  go_wp2_with fail
  refine (heavy_any _ r.xs _ (HU.out.1.below HB2.out) HF.out.1 HF.out.2.1.xs).mono ?_
  rintro e w3 ⟨rfl, hb⟩
  have HB3 : Hid (Below w.heap.size w w3) := HB2.out.trans (hb.mono HB2.out.size)
  have HX3 : Hid (BoxR w3 w.heap.size r (.slice au m cu) ∧ BoxR w3 (w.heap.size + 1) p (.slice ap mp cp)) := ⟨HX2.out.1.below hb, HX2.out.2.below hb⟩
  clear hb x0 x1 x2 x3 x4
  cases hgr : heavyB r.xs with
  | true =>
    clear hgr
    go_wp2
    go_ret
    exact ⟨rfl, HB3.out⟩
  | false =>
    have HLT : Hid (r.xs.length ≤ 20 ∧ ∀ x ∈ r.xs, Light x) := heavy_light hgr
    clear hgr
    obtain ⟨x0, x1, x2, x3, x4⟩ := HX3.out.2
    go_wp2_with fail
    refine (heavy_any _ p.xs _ (HU.out.2.below HB3.out) HF.out.2.2.1 HF.out.2.2.2.xs).mono ?_
    rintro e w4 ⟨rfl, hb⟩
    have HB4 : Hid (Below w.heap.size w w4) := HB3.out.trans (hb.mono HB3.out.size)
    have HX4 : Hid (BoxR w4 w.heap.size r (.slice au m cu) ∧ BoxR w4 (w.heap.size + 1) p (.slice ap mp cp)) := ⟨HX3.out.1.below hb, HX3.out.2.below hb⟩
    clear hb x0 x1 x2 x3 x4
    cases hgr : heavyB p.xs with
    | true =>
      clear hgr
      go_wp2
      go_ret
      exact ⟨rfl, HB4.out⟩
    | false =>
      have HLP : Hid (p.xs.length ≤ 20 ∧ ∀ x ∈ p.xs, Light x) := heavy_light hgr
      clear hgr
      go_wp2_with fail
      have HFR : Hid (Few r.xs ∧ Few p.xs) := ⟨few_light HLT.out.2, few_light HLP.out.2⟩
      have HB8 : Hid (Below w.heap.size w w4.drew) := HB4.out.drew
      have HX8 : Hid (BoxR w4.drew w.heap.size r (.slice au m cu) ∧ BoxR w4.drew (w.heap.size + 1) p (.slice ap mp cp)) := ⟨HX4.out.1.below (Below.refl _ w4).drew, HX4.out.2.below (Below.refl _ w4).drew⟩
      refine wp_region_held_drew (S := S10 w.heap.size (w.heap.size + 1) r p (.slice au m cu) (.slice ap mp cp)) (by kernel_rfl) (S10.of HX8.out.1 HX8.out.2) (fun hHeld => ?_)
      generalize w4.drew = w8 at *
      refine' take_at (i := 0) (d := 21) (v := _) rfl rfl (by kernel_rfl) (by kernel_rfl) (by kernel_rfl) (fun _ _ _ h => h) (Or.inl ⟨by rfl, ?h0⟩) (by assumption) ?_
      case h0 => intro w hSw; unfold S10 at hSw; go_simp; with_reducible rfl
      simp only [List.setIfInBounds_toArray, List.set_cons_zero, List.set_cons_succ]
      refine' take_at (i := 3) (d := 24) (v := _) rfl rfl (by kernel_rfl) (by kernel_rfl) (by kernel_rfl) (fun _ _ _ h => h) (Or.inl ⟨by rfl, ?h3⟩) (by assumption) ?_
      case h3 => intro w hSw; unfold S10 at hSw; go_simp; with_reducible rfl
      simp only [List.setIfInBounds_toArray, List.set_cons_zero, List.set_cons_succ]
      refine wpAnyH_ready (rs := [1]) (by kernel_rfl) (by simp) ?_
      refine AllReadyH.cons (o := _) rfl (fun K hK => ?_) AllReadyH.nil
      go_simp
      refine (HS.out.put r _ _ (HU.out.1.below HB8.out) HLT.out.1 HLT.out.2).mono ?_
      rintro e ws1 ⟨v1, rfl, hbs, hb⟩
      obtain ⟨X, hX⟩ : ∃ X : ByteArray, X = ⟨(Rq.bytes r).toArray⟩ := ⟨_, rfl⟩
      have HXX : Hid (X = ⟨(Rq.bytes r).toArray⟩) := hX
      have HVs1 : Hid (Bs ws1 v1 (Rq.bytes r)) := hbs
      have HBs1 : Hid (Below w.heap.size w ws1) := HB8.out.trans (hb.mono HB8.out.size)
      have HXs1 : Hid (BoxR ws1 w.heap.size r (.slice au m cu) ∧ BoxR ws1 (w.heap.size + 1) p (.slice ap mp cp)) := ⟨HX8.out.1.below hb, HX8.out.2.below hb⟩
      clear hb hbs hX
      simp only []
      refine hK.out _ _ (S10.of HXs1.out.1 HXs1.out.2) (fun hHeld2 => ?_)
      clear hK K hHeld
      have hS7 : (fun w' => S10 w.heap.size (w.heap.size + 1) r p (.slice au m cu) (.slice ap mp cp) w' ∧ (convert 29 9 v1).run Try.prog w' = .ok (.string X) w') ws1 := ⟨S10.of HXs1.out.1 HXs1.out.2, by rw [HXX.out]; exact HVs1.out.conv⟩
      refine wpAnyH_more (S' := (fun w' => S10 w.heap.size (w.heap.size + 1) r p (.slice au m cu) (.slice ap mp cp) w' ∧ (convert 29 9 v1).run Try.prog w' = .ok (.string X) w')) (fun _ h => h.1) _ _ _ _ ?_
      refine' take_at (i := 2) (d := 23) (v := _) rfl rfl (by kernel_rfl) (by kernel_rfl) (by kernel_rfl) (fun _ _ _ h => h) (Or.inl ⟨by rfl, ?h2⟩) (by assumption) ?_
      case h2 => intro w hSw; unfold S10 at hSw; go_simp; with_reducible rfl
      simp only [List.setIfInBounds_toArray, List.set_cons_zero, List.set_cons_succ]
      refine wpAnyH_ready (rs := [4]) (by kernel_rfl) (by simp) ?_
      refine AllReadyH.cons (o := _) rfl (fun K hK => ?_) AllReadyH.nil
      go_simp
      refine (rp_any r _ _ (HU.out.1.below HBs1.out)).mono ?_
      rintro e ws4 ⟨rfl, hb⟩
      have HBs4 : Hid (Below w.heap.size w ws4) := HBs1.out.trans (hb.mono HBs1.out.size)
      have HXs4 : Hid (BoxR ws4 w.heap.size r (.slice au m cu) ∧ BoxR ws4 (w.heap.size + 1) p (.slice ap mp cp)) := ⟨HXs1.out.1.below hb, HXs1.out.2.below hb⟩
      have HVs4 : Hid (Bs ws4 v1 (Rq.bytes r)) := HVs1.out.below hb
      clear hb hS7
      unfold rv
      simp only []
      refine hK.out _ _ (⟨S10.of HXs4.out.1 HXs4.out.2, by rw [HXX.out]; exact HVs4.out.conv⟩) (fun hHeld => ?_)
      clear hK K hHeld2
      refine wpAnyH_ready (rs := [5]) (by kernel_rfl) (by simp) ?_
      refine AllReadyH.cons (o := _) rfl (fun K hK => ?_) AllReadyH.nil
      go_simp
      refine (refPutR_any r _ _ (HU.out.1.below HBs4.out) HLT.out.1 HLT.out.2).mono ?_
      rintro e ws5 ⟨v5, rfl, hbs, hb⟩
      have HVs5 : Hid (Bs ws5 v5 (Rq.bytes r) ∧ Bs ws5 v1 (Rq.bytes r)) := ⟨hbs, HVs4.out.below hb⟩
      have HBs5 : Hid (Below w.heap.size w ws5) := HBs4.out.trans (hb.mono HBs4.out.size)
      have HXs5 : Hid (BoxR ws5 w.heap.size r (.slice au m cu) ∧ BoxR ws5 (w.heap.size + 1) p (.slice ap mp cp)) := ⟨HXs4.out.1.below hb, HXs4.out.2.below hb⟩
      clear hb hbs
      simp only []
      refine hK.out _ _ (⟨S10.of HXs5.out.1 HXs5.out.2, by rw [HXX.out]; exact HVs5.out.2.conv⟩) (fun hHeld2 => ?_)
      clear hK K hHeld
      have hS8 : (fun w' => S10 w.heap.size (w.heap.size + 1) r p (.slice au m cu) (.slice ap mp cp) w' ∧ (convert 29 9 v5).run Try.prog w' = .ok (.string X) w' ∧ (convert 29 9 v1).run Try.prog w' = .ok (.string X) w') ws5 := ⟨S10.of HXs5.out.1 HXs5.out.2, by rw [HXX.out]; exact HVs5.out.1.conv, by rw [HXX.out]; exact HVs5.out.2.conv⟩
      refine wpAnyH_more (S' := (fun w' => S10 w.heap.size (w.heap.size + 1) r p (.slice au m cu) (.slice ap mp cp) w' ∧ (convert 29 9 v5).run Try.prog w' = .ok (.string X) w' ∧ (convert 29 9 v1).run Try.prog w' = .ok (.string X) w')) (fun _ h => ⟨h.1, h.2.2⟩) _ _ _ _ ?_
      obtain ⟨B, hB⟩ : ∃ B : Bool, (X.toList == X.toList) = B := ⟨_, rfl⟩
      have hB1 : B = true := by rw [← hB]; exact beq_self_eq_true _
      subst hB1
      refine' take_at (i := 6) (d := 27) (v := _) rfl rfl (by kernel_rfl) (by kernel_rfl) (by kernel_rfl) (fun _ _ _ h => h) (Or.inl ⟨by rfl, ?h6⟩) (by assumption) ?_
      case h6 => intro w hSw; unfold S10 at hSw; go_simp; with_reducible rfl
      simp only [List.setIfInBounds_toArray, List.set_cons_zero, List.set_cons_succ]
      refine' take_at (i := 7) (d := 28) (v := _) rfl rfl (by kernel_rfl) (by kernel_rfl) (by kernel_rfl) (fun _ _ _ h => h) (Or.inl ⟨by rfl, ?h7⟩) (by assumption) ?_
      case h7 => intro w hSw; unfold S10 at hSw; go_simp; with_reducible rfl
      simp only [List.setIfInBounds_toArray, List.set_cons_zero, List.set_cons_succ]
      refine' take_at (i := 8) (d := 29) (v := _) rfl rfl (by kernel_rfl) (by kernel_rfl) (by kernel_rfl) (fun _ _ _ h => h) (Or.inl ⟨by rfl, ?h8⟩) (by assumption) ?_
      case h8 => intro w hSw; unfold S10 at hSw; go_simp; with_reducible rfl
      simp only [List.setIfInBounds_toArray, List.set_cons_zero, List.set_cons_succ]
      refine' take_at (i := 9) (d := 30) (v := _) rfl rfl (by kernel_rfl) (by kernel_rfl) (by kernel_rfl) (fun _ _ _ h => h) (Or.inl ⟨by rfl, ?h9⟩) (by assumption) ?_
      case h9 => intro w hSw; unfold S10 at hSw; go_simp; with_reducible rfl
      simp only [List.setIfInBounds_toArray, List.set_cons_zero, List.set_cons_succ]
      refine' take_at (i := 10) (d := 31) (v := _) rfl rfl (by kernel_rfl) (by kernel_rfl) (by kernel_rfl) (fun _ _ _ h => h) (Or.inl ⟨by rfl, ?h10⟩) (by assumption) ?_
      case h10 => intro w hSw; unfold S10 at hSw; go_simp; with_reducible rfl
      simp only [List.setIfInBounds_toArray, List.set_cons_zero, List.set_cons_succ]
      refine' take_at (i := 12) (d := 33) (v := _) rfl rfl (by kernel_rfl) (by kernel_rfl) (by kernel_rfl) (fun _ _ _ h => h) (Or.inl ⟨by rfl, ?h12⟩) (by assumption) ?_
      case h12 => intro w hSw; unfold S10 at hSw; go_simp; with_reducible rfl
      simp only [List.setIfInBounds_toArray, List.set_cons_zero, List.set_cons_succ]
      refine' take_at (i := 14) (d := 35) (v := _) rfl rfl (by kernel_rfl) (by kernel_rfl) (by kernel_rfl) (fun _ _ _ h => h) (Or.inl ⟨by rfl, ?h14⟩) (by assumption) ?_
      case h14 => intro w hSw; unfold S10 at hSw; go_simp; with_reducible rfl
      simp only [List.setIfInBounds_toArray, List.set_cons_zero, List.set_cons_succ]
      refine wpAnyH_ready (rs := [11]) (by kernel_rfl) (by simp) ?_
      refine AllReadyH.cons (o := _) rfl (fun K hK => ?_) AllReadyH.nil
      go_simp
      refine (HS.out.same (r = p) r p _ _ _ (HU.out.1.below HBs5.out) (HU.out.2.below HBs5.out) HF.out.1 HF.out.2.2.1 HFR.out.1 HFR.out.2 Iff.rfl).mono ?_
      rintro e ws11 ⟨R, rfl, hR, hb⟩
      have HR : Hid (R = true ↔ r = p) := hR
      have HBs11 : Hid (Below w.heap.size w ws11) := HBs5.out.trans (hb.mono HBs5.out.size)
      have HXs11 : Hid (BoxR ws11 w.heap.size r (.slice au m cu) ∧ BoxR ws11 (w.heap.size + 1) p (.slice ap mp cp)) := ⟨HXs5.out.1.below hb, HXs5.out.2.below hb⟩
      have HVs11 : Hid (Bs ws11 v5 (Rq.bytes r) ∧ Bs ws11 v1 (Rq.bytes r)) := ⟨HVs5.out.1.below hb, HVs5.out.2.below hb⟩
      clear hb hR hS8
      simp only []
      refine hK.out _ _ (⟨S10.of HXs11.out.1 HXs11.out.2, by rw [HXX.out]; exact HVs11.out.1.conv, by rw [HXX.out]; exact HVs11.out.2.conv⟩) (fun hHeld => ?_)
      clear hK K hHeld2
      refine wpAnyH_ready (rs := [13]) (by kernel_rfl) (by simp) ?_
      refine AllReadyH.cons (o := _) rfl (fun K hK => ?_) AllReadyH.nil
      go_simp
      refine (rp_any r _ _ (HU.out.1.below HBs11.out)).mono ?_
      rintro e ws13 ⟨rfl, hb⟩
      have HBs13 : Hid (Below w.heap.size w ws13) := HBs11.out.trans (hb.mono HBs11.out.size)
      have HXs13 : Hid (BoxR ws13 w.heap.size r (.slice au m cu) ∧ BoxR ws13 (w.heap.size + 1) p (.slice ap mp cp)) := ⟨HXs11.out.1.below hb, HXs11.out.2.below hb⟩
      have HVs13 : Hid (Bs ws13 v5 (Rq.bytes r) ∧ Bs ws13 v1 (Rq.bytes r)) := ⟨HVs11.out.1.below hb, HVs11.out.2.below hb⟩
      clear hb
      unfold rv
      simp only []
      refine hK.out _ _ (⟨S10.of HXs13.out.1 HXs13.out.2, by rw [HXX.out]; exact HVs13.out.1.conv, by rw [HXX.out]; exact HVs13.out.2.conv⟩) (fun hHeld2 => ?_)
      clear hK K hHeld
      refine wpAnyH_ready (rs := [15]) (by kernel_rfl) (by simp) ?_
      refine AllReadyH.cons (o := _) rfl (fun K hK => ?_) AllReadyH.nil
      go_simp
      refine (rp_any p _ _ (HU.out.2.below HBs13.out)).mono ?_
      rintro e ws15 ⟨rfl, hb⟩
      have HBs15 : Hid (Below w.heap.size w ws15) := HBs13.out.trans (hb.mono HBs13.out.size)
      have HXs15 : Hid (BoxR ws15 w.heap.size r (.slice au m cu) ∧ BoxR ws15 (w.heap.size + 1) p (.slice ap mp cp)) := ⟨HXs13.out.1.below hb, HXs13.out.2.below hb⟩
      have HVs15 : Hid (Bs ws15 v5 (Rq.bytes r) ∧ Bs ws15 v1 (Rq.bytes r)) := ⟨HVs13.out.1.below hb, HVs13.out.2.below hb⟩
      clear hb
      unfold rv
      simp only []
      refine hK.out _ _ (⟨S10.of HXs15.out.1 HXs15.out.2, by rw [HXX.out]; exact HVs15.out.1.conv, by rw [HXX.out]; exact HVs15.out.2.conv⟩) (fun hHeld => ?_)
      clear hK K hHeld2
      refine wpAnyH_ready (rs := [16]) (by kernel_rfl) (by simp) ?_
      refine AllReadyH.cons (o := _) rfl (fun K hK => ?_) AllReadyH.nil
      go_simp
      refine (refSameR_any (r = p) r p _ _ _ (HU.out.1.below HBs15.out) (HU.out.2.below HBs15.out) HF.out.1 HF.out.2.2.1 HFR.out.1 HFR.out.2 Iff.rfl).mono ?_
      rintro e ws16 ⟨R2, rfl, hR, hb⟩
      have hRB : R2 = R := by
        cases R2 with
        | true => exact (HR.out.2 (hR.1 rfl)).symm
        | false =>
          cases R with
          | true => exact hR.2 (HR.out.1 (by trivial))
          | false => rfl
      subst hRB
      have HBs16 : Hid (Below w.heap.size w ws16) := HBs15.out.trans (hb.mono HBs15.out.size)
      have HXs16 : Hid (BoxR ws16 w.heap.size r (.slice au m cu) ∧ BoxR ws16 (w.heap.size + 1) p (.slice ap mp cp)) := ⟨HXs15.out.1.below hb, HXs15.out.2.below hb⟩
      have HVs16 : Hid (Bs ws16 v5 (Rq.bytes r) ∧ Bs ws16 v1 (Rq.bytes r)) := ⟨HVs15.out.1.below hb, HVs15.out.2.below hb⟩
      clear hb hR
      simp only []
      refine hK.out _ _ (⟨S10.of HXs16.out.1 HXs16.out.2, by rw [HXX.out]; exact HVs16.out.1.conv, by rw [HXX.out]; exact HVs16.out.2.conv⟩) (fun hHeld2 => ?_)
      clear hK K hHeld
      have hRR : (R2 == R2) = true := beq_self_eq_true _
      refine' take_at (i := 17) (d := 38) (v := _) rfl rfl (by kernel_rfl) (by kernel_rfl) (by kernel_rfl) (fun _ _ _ h => h) (Or.inl ⟨by rfl, ?h17⟩) (by assumption) ?_
      case h17 => intro w hSw; unfold S10 at hSw; go_simp; with_reducible rfl
      simp only [List.setIfInBounds_toArray, List.set_cons_zero, List.set_cons_succ]
      refine' take_at (i := 18) (d := 39) (v := _) rfl rfl (by kernel_rfl) (by kernel_rfl) (by kernel_rfl) (fun _ _ _ h => h) (Or.inl ⟨by rfl, ?h18⟩) (by assumption) ?_
      case h18 => intro w hSw; unfold S10 at hSw; go_simp; with_reducible rfl
      simp only [List.setIfInBounds_toArray, List.set_cons_zero, List.set_cons_succ]
      refine' take_at (i := 19) (d := 40) (v := _) rfl rfl (by kernel_rfl) (by kernel_rfl) (by kernel_rfl) (fun _ _ _ h => h) (Or.inl ⟨by rfl, ?h19⟩) (by assumption) ?_
      case h19 => intro w hSw; unfold S10 at hSw; go_simp; with_reducible rfl
      simp only [List.setIfInBounds_toArray, List.set_cons_zero, List.set_cons_succ]
      refine' take_at (i := 20) (d := 41) (v := _) rfl rfl (by kernel_rfl) (by kernel_rfl) (by kernel_rfl) (fun _ _ _ h => h) (Or.inl ⟨by rfl, ?h20⟩) (by assumption) ?_
      case h20 => intro w hSw; unfold S10 at hSw; go_simp; with_reducible rfl
      simp only [List.setIfInBounds_toArray, List.set_cons_zero, List.set_cons_succ]
      refine' take_at (i := 21) (d := 42) (v := _) rfl rfl (by kernel_rfl) (by kernel_rfl) (by kernel_rfl) (fun _ _ _ h => h) (Or.inl ⟨by rfl, ?h21⟩) (by assumption) ?_
      case h21 => intro w hSw; unfold S10 at hSw; go_simp; with_reducible rfl
      simp only [List.setIfInBounds_toArray, List.set_cons_zero, List.set_cons_succ]
      refine' take_at (i := 22) (d := 43) (v := _) rfl rfl (by kernel_rfl) (by kernel_rfl) (by kernel_rfl) (fun _ _ _ h => h) (Or.inl ⟨by rfl, ?h22⟩) (by assumption) ?_
      case h22 => intro w hSw; unfold S10 at hSw; go_simp; with_reducible rfl
      simp only [List.setIfInBounds_toArray, List.set_cons_zero, List.set_cons_succ]
      refine' take_at (i := 23) (d := 44) (v := _) rfl rfl (by kernel_rfl) (by kernel_rfl) (by kernel_rfl) (fun _ _ _ h => h) (Or.inl ⟨by rfl, ?h23⟩) (by assumption) ?_
      case h23 => intro w hSw; unfold S10 at hSw; go_simp; with_reducible rfl
      simp only [List.setIfInBounds_toArray, List.set_cons_zero, List.set_cons_succ]
      refine' take_at (i := 25) (d := 46) (v := _) rfl rfl (by kernel_rfl) (by kernel_rfl) (by kernel_rfl) (fun _ _ _ h => h) (Or.inl ⟨by rfl, ?h25⟩) (by assumption) ?_
      case h25 => intro w hSw; unfold S10 at hSw; go_simp; with_reducible rfl
      simp only [List.setIfInBounds_toArray, List.set_cons_zero, List.set_cons_succ]
      refine' take_at (i := 26) (d := 47) (v := _) rfl rfl (by kernel_rfl) (by kernel_rfl) (by kernel_rfl) (fun _ _ _ h => h) (Or.inl ⟨by rfl, ?h26⟩) (by assumption) ?_
      case h26 => intro w hSw; unfold S10 at hSw; go_simp; with_reducible rfl
      simp only [List.setIfInBounds_toArray, List.set_cons_zero, List.set_cons_succ]
      refine' take_at (i := 27) (d := 48) (v := _) rfl rfl (by kernel_rfl) (by kernel_rfl) (by kernel_rfl) (fun _ _ _ h => h) (Or.inl ⟨by rfl, ?h27⟩) (by assumption) ?_
      case h27 => intro w hSw; unfold S10 at hSw; go_simp; with_reducible rfl
      simp only [List.setIfInBounds_toArray, List.set_cons_zero, List.set_cons_succ]
      refine' take_at (i := 28) (d := 49) (v := _) rfl rfl (by kernel_rfl) (by kernel_rfl) (by kernel_rfl) (fun _ _ _ h => h) (Or.inl ⟨by rfl, ?h28⟩) (by assumption) ?_
      case h28 => intro w hSw; unfold S10 at hSw; go_simp; with_reducible rfl
      simp only [List.setIfInBounds_toArray, List.set_cons_zero, List.set_cons_succ]
      refine wpAnyH_ready (rs := [24]) (by kernel_rfl) (by simp) ?_
      refine AllReadyH.cons (o := _) rfl (fun K hK => ?_) AllReadyH.nil
      go_simp
      refine (HS.out.alike (r.xs = p.xs) _ _ r.xs p.xs _ (HU.out.1.below HBs16.out) (HU.out.2.below HBs16.out) HF.out.1 HF.out.2.2.1 HFR.out.1 HFR.out.2 Iff.rfl).mono ?_
      rintro e ws24 ⟨T, rfl, hR, hb⟩
      have HT : Hid (T = true ↔ r.xs = p.xs) := hR
      have HBs24 : Hid (Below w.heap.size w ws24) := HBs16.out.trans (hb.mono HBs16.out.size)
      have HXs24 : Hid (BoxR ws24 w.heap.size r (.slice au m cu) ∧ BoxR ws24 (w.heap.size + 1) p (.slice ap mp cp)) := ⟨HXs16.out.1.below hb, HXs16.out.2.below hb⟩
      have HVs24 : Hid (Bs ws24 v5 (Rq.bytes r) ∧ Bs ws24 v1 (Rq.bytes r)) := ⟨HVs16.out.1.below hb, HVs16.out.2.below hb⟩
      clear hb hR
      simp only []
      refine hK.out _ _ (⟨S10.of HXs24.out.1 HXs24.out.2, by rw [HXX.out]; exact HVs24.out.1.conv, by rw [HXX.out]; exact HVs24.out.2.conv⟩) (fun hHeld => ?_)
      clear hK K hHeld2
      refine wpAnyH_ready (rs := [29]) (by kernel_rfl) (by simp) ?_
      refine AllReadyH.cons (o := _) rfl (fun K hK => ?_) AllReadyH.nil
      go_simp
      refine (refAll_any (r.xs = p.xs) _ _ r.xs p.xs _ (HU.out.1.below HBs24.out) (HU.out.2.below HBs24.out) HF.out.1 HF.out.2.2.1 HFR.out.1 HFR.out.2 Iff.rfl).mono ?_
      rintro e ws29 ⟨T2, rfl, hR, hb⟩
      have hRB : T2 = T := by
        cases T2 with
        | true => exact (HT.out.2 (hR.1 rfl)).symm
        | false =>
          cases T with
          | true => exact hR.2 (HT.out.1 (by trivial))
          | false => rfl
      subst hRB
      have HBs29 : Hid (Below w.heap.size w ws29) := HBs24.out.trans (hb.mono HBs24.out.size)
      have HXs29 : Hid (BoxR ws29 w.heap.size r (.slice au m cu) ∧ BoxR ws29 (w.heap.size + 1) p (.slice ap mp cp)) := ⟨HXs24.out.1.below hb, HXs24.out.2.below hb⟩
      have HVs29 : Hid (Bs ws29 v5 (Rq.bytes r) ∧ Bs ws29 v1 (Rq.bytes r)) := ⟨HVs24.out.1.below hb, HVs24.out.2.below hb⟩
      clear hb hR
      simp only []
      refine hK.out _ _ (⟨S10.of HXs29.out.1 HXs29.out.2, by rw [HXX.out]; exact HVs29.out.1.conv, by rw [HXX.out]; exact HVs29.out.2.conv⟩) (fun hHeld2 => ?_)
      clear hK K hHeld
      have hTT : (T2 == T2) = true := beq_self_eq_true _
      refine' take_at (i := 30) (d := 51) (v := _) rfl rfl (by kernel_rfl) (by kernel_rfl) (by kernel_rfl) (fun _ _ _ h => h) (Or.inl ⟨by rfl, ?h30⟩) (by assumption) ?_
      case h30 => intro w hSw; unfold S10 at hSw; go_simp; with_reducible rfl
      simp only [List.setIfInBounds_toArray, List.set_cons_zero, List.set_cons_succ]
      refine' take_at (i := 31) (d := 52) (v := _) rfl rfl (by kernel_rfl) (by kernel_rfl) (by kernel_rfl) (fun _ _ _ h => h) (Or.inl ⟨by rfl, ?h31⟩) (by assumption) ?_
      case h31 => intro w hSw; unfold S10 at hSw; go_simp; with_reducible rfl
      simp only [List.setIfInBounds_toArray, List.set_cons_zero, List.set_cons_succ]
      refine' take_at (i := 32) (d := 53) (v := _) rfl rfl (by kernel_rfl) (by kernel_rfl) (by kernel_rfl) (fun _ _ _ h => h) (Or.inl ⟨by rfl, ?h32⟩) (by assumption) ?_
      case h32 => intro w hSw; unfold S10 at hSw; go_simp; with_reducible rfl
      simp only [List.setIfInBounds_toArray, List.set_cons_zero, List.set_cons_succ]
      refine' take_at (i := 33) (d := 54) (v := _) rfl rfl (by kernel_rfl) (by kernel_rfl) (by kernel_rfl) (fun _ _ _ h => h) (Or.inl ⟨by rfl, ?h33⟩) (by assumption) ?_
      case h33 => intro w hSw; unfold S10 at hSw; go_simp; with_reducible rfl
      simp only [List.setIfInBounds_toArray, List.set_cons_zero, List.set_cons_succ]
      refine' take_at (i := 34) (d := 55) (v := _) rfl rfl (by kernel_rfl) (by kernel_rfl) (by kernel_rfl) (fun _ _ _ h => h) (Or.inl ⟨by rfl, ?h34⟩) (by assumption) ?_
      case h34 => intro w hSw; unfold S10 at hSw; go_simp; with_reducible rfl
      simp only [List.setIfInBounds_toArray, List.set_cons_zero, List.set_cons_succ]
      refine' take_at (i := 35) (d := 56) (v := _) rfl rfl (by kernel_rfl) (by kernel_rfl) (by kernel_rfl) (fun _ _ _ h => h) (Or.inl ⟨by rfl, ?h35⟩) (by assumption) ?_
      case h35 => intro w hSw; unfold S10 at hSw; go_simp; with_reducible rfl
      simp only [List.setIfInBounds_toArray, List.set_cons_zero, List.set_cons_succ]
      refine' take_at (i := 36) (d := 57) (v := _) rfl rfl (by kernel_rfl) (by kernel_rfl) (by kernel_rfl) (fun _ _ _ h => h) (Or.inl ⟨by rfl, ?h36⟩) (by assumption) ?_
      case h36 => intro w hSw; unfold S10 at hSw; go_simp; with_reducible rfl
      simp only [List.setIfInBounds_toArray, List.set_cons_zero, List.set_cons_succ]
      refine' take_at (i := 37) (d := 58) (v := _) rfl rfl (by kernel_rfl) (by kernel_rfl) (by kernel_rfl) (fun _ _ _ h => h) (Or.inl ⟨by rfl, ?h37⟩) (by assumption) ?_
      case h37 => intro w hSw; unfold S10 at hSw; go_simp; with_reducible rfl
      simp only [List.setIfInBounds_toArray, List.set_cons_zero, List.set_cons_succ]
      refine' take_at (i := 40) (d := 61) (v := _) rfl rfl (by kernel_rfl) (by kernel_rfl) (by kernel_rfl) (fun _ _ _ h => h) (Or.inl ⟨by rfl, ?h40⟩) (by assumption) ?_
      case h40 => intro w hSw; unfold S10 at hSw; go_simp; with_reducible rfl
      simp only [List.setIfInBounds_toArray, List.set_cons_zero, List.set_cons_succ]
      refine' take_at (i := 41) (d := 62) (v := _) rfl rfl (by kernel_rfl) (by kernel_rfl) (by kernel_rfl) (fun _ _ _ h => h) (Or.inl ⟨by rfl, ?h41⟩) (by assumption) ?_
      case h41 => intro w hSw; unfold S10 at hSw; go_simp; with_reducible rfl
      simp only [List.setIfInBounds_toArray, List.set_cons_zero, List.set_cons_succ]
      refine' take_at (i := 42) (d := 63) (v := _) rfl rfl (by kernel_rfl) (by kernel_rfl) (by kernel_rfl) (fun _ _ _ h => h) (Or.inl ⟨by rfl, ?h42⟩) (by assumption) ?_
      case h42 => intro w hSw; unfold S10 at hSw; go_simp; with_reducible rfl
      simp only [List.setIfInBounds_toArray, List.set_cons_zero, List.set_cons_succ]
      refine' take_at (i := 43) (d := 64) (v := _) rfl rfl (by kernel_rfl) (by kernel_rfl) (by kernel_rfl) (fun _ _ _ h => h) (Or.inl ⟨by rfl, ?h43⟩) (by assumption) ?_
      case h43 => intro w hSw; unfold S10 at hSw; go_simp; with_reducible rfl
      simp only [List.setIfInBounds_toArray, List.set_cons_zero, List.set_cons_succ]
      refine' take_at (i := 44) (d := 65) (v := _) rfl rfl (by kernel_rfl) (by kernel_rfl) (by kernel_rfl) (fun _ _ _ h => h) (Or.inl ⟨by rfl, ?h44⟩) (by assumption) ?_
      case h44 => intro w hSw; unfold S10 at hSw; go_simp; with_reducible rfl
      simp only [List.setIfInBounds_toArray, List.set_cons_zero, List.set_cons_succ]
      refine wpAnyH_ready (rs := [38]) (by kernel_rfl) (by simp) ?_
      refine AllReadyH.cons (o := _) rfl (fun K hK => ?_) AllReadyH.nil
      go_simp
      refine (HS.out.fail r.num er at_ n _ HNN.out.1 HNN.out.2).mono ?_
      rintro e ws38 ⟨uf, rfl, hl, hb⟩
      have HUs38 : Hid (Rl ws38 uf (Rq.fail r.num er at_ n).xs) := hl
      obtain ⟨af, mf, cf, rfl, hXX⟩ := hl
      have HBs38 : Hid (Below w.heap.size w ws38) := HBs29.out.trans (hb.mono HBs29.out.size)
      have HXs38 : Hid (BoxR ws38 w.heap.size r (.slice au m cu) ∧ BoxR ws38 (w.heap.size + 1) p (.slice ap mp cp)) := ⟨HXs29.out.1.below hb, HXs29.out.2.below hb⟩
      have HVs38 : Hid (Bs ws38 v5 (Rq.bytes r) ∧ Bs ws38 v1 (Rq.bytes r)) := ⟨HVs29.out.1.below hb, HVs29.out.2.below hb⟩
      clear hb hXX
      unfold rv
      simp only []
      refine hK.out _ _ (⟨S10.of HXs38.out.1 HXs38.out.2, by rw [HXX.out]; exact HVs38.out.1.conv, by rw [HXX.out]; exact HVs38.out.2.conv⟩) (fun hHeld => ?_)
      clear hK K hHeld2
      refine wpAnyH_ready (rs := [39]) (by kernel_rfl) (by simp) ?_
      refine AllReadyH.cons (o := _) rfl (fun K hK => ?_) AllReadyH.nil
      go_simp
      refine (rp_any (Rq.fail r.num er at_ n) _ _ HUs38.out).mono ?_
      rintro e ws39 ⟨rfl, hb⟩
      have HUs39 : Hid (Rl ws39 (.slice af mf cf) (Rq.fail r.num er at_ n).xs) := HUs38.out.below hb
      have HBs39 : Hid (Below w.heap.size w ws39) := HBs38.out.trans (hb.mono HBs38.out.size)
      have HXs39 : Hid (BoxR ws39 w.heap.size r (.slice au m cu) ∧ BoxR ws39 (w.heap.size + 1) p (.slice ap mp cp)) := ⟨HXs38.out.1.below hb, HXs38.out.2.below hb⟩
      have HVs39 : Hid (Bs ws39 v5 (Rq.bytes r) ∧ Bs ws39 v1 (Rq.bytes r)) := ⟨HVs38.out.1.below hb, HVs38.out.2.below hb⟩
      clear hb
      unfold rv
      simp only []
      refine hK.out _ _ (⟨S10.of HXs39.out.1 HXs39.out.2, by rw [HXX.out]; exact HVs39.out.1.conv, by rw [HXX.out]; exact HVs39.out.2.conv⟩) (fun hHeld2 => ?_)
      clear hK K hHeld
      refine wpAnyH_ready (rs := [45]) (by kernel_rfl) (by simp) ?_
      refine AllReadyH.cons (o := _) rfl (fun K hK => ?_) AllReadyH.nil
      go_simp
      refine (refFail_any r.num er at_ n _ HNN.out).mono ?_
      rintro e ws45 ⟨ug, rfl, hl, hb⟩
      have HUs45 : Hid (Rl ws45 (.slice af mf cf) (Rq.fail r.num er at_ n).xs ∧ Rl ws45 ug (Rq.fail r.num er at_ n).xs) := ⟨HUs39.out.below hb, hl⟩
      obtain ⟨ag, mg, cg, rfl, hXX⟩ := hl
      have HBs45 : Hid (Below w.heap.size w ws45) := HBs39.out.trans (hb.mono HBs39.out.size)
      have HXs45 : Hid (BoxR ws45 w.heap.size r (.slice au m cu) ∧ BoxR ws45 (w.heap.size + 1) p (.slice ap mp cp)) := ⟨HXs39.out.1.below hb, HXs39.out.2.below hb⟩
      have HVs45 : Hid (Bs ws45 v5 (Rq.bytes r) ∧ Bs ws45 v1 (Rq.bytes r)) := ⟨HVs39.out.1.below hb, HVs39.out.2.below hb⟩
      clear hb hXX
      unfold rv
      simp only []
      refine hK.out _ _ (⟨S10.of HXs45.out.1 HXs45.out.2, by rw [HXX.out]; exact HVs45.out.1.conv, by rw [HXX.out]; exact HVs45.out.2.conv⟩) (fun hHeld => ?_)
      clear hK K hHeld2
      have HFF : Hid ((Rq.fail r.num er at_ n).xs.length ≤ maxLen ∧ Few (Rq.fail r.num er at_ n).xs) := ⟨by have := (fail_few r.num er at_ n).1; unfold maxLen; omega, few_light (fail_few r.num er at_ n).2⟩
      refine wpAnyH_ready (rs := [46]) (by kernel_rfl) (by simp) ?_
      refine AllReadyH.cons (o := _) rfl (fun K hK => ?_) AllReadyH.nil
      go_simp
      refine (refSameR_any True (Rq.fail r.num er at_ n) (Rq.fail r.num er at_ n) _ _ _ HUs45.out.1 HUs45.out.2 HFF.out.1 HFF.out.1 HFF.out.2 HFF.out.2 ⟨fun _ => rfl, fun _ => trivial⟩).mono ?_
      rintro e ws46 ⟨R0, rfl, hR, hb⟩
      have hR1 : R0 = true := hR.2 trivial
      subst hR1
      have HBs46 : Hid (Below w.heap.size w ws46) := HBs45.out.trans (hb.mono HBs45.out.size)
      have HXs46 : Hid (BoxR ws46 w.heap.size r (.slice au m cu) ∧ BoxR ws46 (w.heap.size + 1) p (.slice ap mp cp)) := ⟨HXs45.out.1.below hb, HXs45.out.2.below hb⟩
      have HVs46 : Hid (Bs ws46 v5 (Rq.bytes r) ∧ Bs ws46 v1 (Rq.bytes r)) := ⟨HVs45.out.1.below hb, HVs45.out.2.below hb⟩
      clear hb hR
      simp only []
      refine hK.out _ _ (⟨S10.of HXs46.out.1 HXs46.out.2, by rw [HXX.out]; exact HVs46.out.1.conv, by rw [HXX.out]; exact HVs46.out.2.conv⟩) (fun hHeld2 => ?_)
      clear hK K hHeld
      refine' take_at (i := 47) (d := 68) (v := _) rfl rfl (by kernel_rfl) (by kernel_rfl) (by kernel_rfl) (fun _ _ _ h => h) (Or.inl ⟨by rfl, ?h47⟩) (by assumption) ?_
      case h47 => intro w hSw; unfold S10 at hSw; go_simp; with_reducible rfl
      simp only [List.setIfInBounds_toArray, List.set_cons_zero, List.set_cons_succ]
      refine' take_at (i := 48) (d := 10) (v := _) rfl rfl (by kernel_rfl) (by kernel_rfl) (by kernel_rfl) (fun _ _ _ h => h) (Or.inl ⟨by rfl, ?h48⟩) (by assumption) ?_
      case h48 => intro w hSw; unfold S10 at hSw; go_simp; with_reducible rfl
      simp only [List.setIfInBounds_toArray, List.set_cons_zero, List.set_cons_succ]
      refine wpAnyH_done (by kernel_rfl) ?_ _
      clear hHeld2 hB
      go_wp2
      go_ret
      exact ⟨rfl, HBs46.out⟩
end Go.Proofs.Ytebmcjhhoionbaa
