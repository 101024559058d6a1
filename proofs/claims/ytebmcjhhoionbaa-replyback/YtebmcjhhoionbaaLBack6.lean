/- The walk of the statement ReplyBack, over what reply's calls answer: it answers true. -/
import Derived.Test.YtebmcjhhoionbaaLReads6
import Derived.Test.YtebmcjhhoionbaaLCut6
namespace Go.Proofs.Ytebmcjhhoionbaa
open Go.RowKit

/-- Three replies that were boxed. -/
def S15 (q q' q'' : Nat) (r r' r'' : Rp) (u u' u'' : Value) (w : World) : Prop :=
  S10 q q' r r' u u' w ∧ (w.cell? ⟨q'', 0, none⟩ = some (.int .i64 r''.num) ∧ w.cell? ⟨q'', 1, none⟩ = some (.int .i64 r''.zxid) ∧ w.cell? ⟨q'', 2, none⟩ = some (.int .i64 r''.err) ∧ w.cell? ⟨q'', 3, none⟩ = some (.int .i64 r''.at_) ∧ w.cell? ⟨q'', 4, none⟩ = some u'')
theorem S15.of {q q' q'' : Nat} {r r' r'' : Rp} {u u' u'' : Value} {w : World} (h : BoxR w q r u) (h' : BoxR w q' r' u') (h'' : BoxR w q'' r'' u'') : S15 q q' q'' r r' r'' u u' u'' w := ⟨S10.of h h', h''.all⟩

set_option maxRecDepth 20000 in
set_option maxHeartbeats 4000000 in
theorem back_any6 (hs : Specs6) (r p : Rp) (u u' : Value) (w : World) (hu : Rl w u r.xs) (hu' : Rl w u' p.xs) (hl : r.xs.length ≤ maxLen) (hl' : p.xs.length ≤ maxLen) (hf : Rq.FitR r) (hf' : Rq.FitR p) :
    Calls Try.prog 6 #[rv r u, rv p u'] w fun e w' => e = .returned (.bool true) ∧ Below w.heap.size w w' := by
  have HS : Hid Specs6 := hs
  have HU : Hid (Rl w u r.xs ∧ Rl w u' p.xs) := ⟨hu, hu'⟩
  have HF : Hid (r.xs.length ≤ maxLen ∧ Rq.FitR r ∧ p.xs.length ≤ maxLen ∧ Rq.FitR p) := ⟨hl, hf, hl', hf'⟩
  obtain ⟨au, m, cu, rfl, hm, hX⟩ := hu
  have HM : Hid (m = r.xs.length) := hm
  have hm1 : m ≤ 9223372036854775807 := by unfold maxLen at hl; omega
  obtain ⟨ap, mp, cp, rfl, hmp, hXp⟩ := hu'
  clear hs hl hf hm hX hl' hf' hmp hXp
  unfold rv
  have HX1 : Hid (BoxR ((w.alloc (.cells #[.int .i64 r.num, .int .i64 r.zxid, .int .i64 r.err, .int .i64 r.at_, .slice au m cu] 26)).alloc (.cells #[.int .i64 p.num, .int .i64 p.zxid, .int .i64 p.err, .int .i64 p.at_, .slice ap mp cp] 26)) w.heap.size r (.slice au m cu)) := (BoxR.made w r _ _).below ((Below.refl _ _).alloc (Nat.le_refl _) _)
  have HY1 : Hid (BoxR ((w.alloc (.cells #[.int .i64 r.num, .int .i64 r.zxid, .int .i64 r.err, .int .i64 r.at_, .slice au m cu] 26)).alloc (.cells #[.int .i64 p.num, .int .i64 p.zxid, .int .i64 p.err, .int .i64 p.at_, .slice ap mp cp] 26)) (w.heap.size + 1) p (.slice ap mp cp)) := by
    have h := BoxR.made (w.alloc (.cells #[.int .i64 r.num, .int .i64 r.zxid, .int .i64 r.err, .int .i64 r.at_, .slice au m cu] 26)) p (.slice ap mp cp) 26
    rw [World.size_alloc] at h
    exact h
  have HB1 : Hid (Below w.heap.size w ((w.alloc (.cells #[.int .i64 r.num, .int .i64 r.zxid, .int .i64 r.err, .int .i64 r.at_, .slice au m cu] 26)).alloc (.cells #[.int .i64 p.num, .int .i64 p.zxid, .int .i64 p.err, .int .i64 p.at_, .slice ap mp cp] 26))) := ((Below.refl _ w).alloc (Nat.le_refl _) _).alloc (by simp) _
  go_enter Try.func6, Try.ntmps6
  go_wp2_with fail
  generalize (w.alloc (.cells #[.int .i64 r.num, .int .i64 r.zxid, .int .i64 r.err, .int .i64 r.at_, .slice au m cu] 26)).alloc (.cells #[.int .i64 p.num, .int .i64 p.zxid, .int .i64 p.err, .int .i64 p.at_, .slice ap mp cp] 26) = w1 at *
  refine (awake_any6 HS.out _).mono ?_
  rintro e w2 ⟨rfl, hb⟩
  have HB2 : Hid (Below w.heap.size w w2) := HB1.out.trans (hb.mono HB1.out.size)
  have HX2 : Hid (BoxR w2 w.heap.size r (.slice au m cu) ∧ BoxR w2 (w.heap.size + 1) p (.slice ap mp cp)) := ⟨HX1.out.below hb, HY1.out.below hb⟩
  clear hb
  obtain ⟨x0, x1, x2, x3, x4⟩ := HX2.out.1
  go_wp2_with fail
  refine (heavy_any _ r.xs _ (HU.out.1.below HB2.out) HF.out.1 HF.out.2.1.xs).mono ?_
  rintro e w3 ⟨rfl, hb⟩
  have HB3 : Hid (Below w.heap.size w w3) := HB2.out.trans (hb.mono HB2.out.size)
  have HX3 : Hid (BoxR w3 w.heap.size r (.slice au m cu) ∧ BoxR w3 (w.heap.size + 1) p (.slice ap mp cp)) := ⟨HX2.out.1.below hb, HX2.out.2.below hb⟩
  clear hb x0 x1 x2 x3 x4
  cases hgr : heavyB r.xs with
  | true =>
    clear hgr
    go_wp2
    go_ret
    exact ⟨rfl, HB3.out⟩
  | false =>
    have HLT : Hid (r.xs.length ≤ 20 ∧ ∀ x ∈ r.xs, Light x) := heavy_light hgr
    clear hgr
    obtain ⟨x0, x1, x2, x3, x4⟩ := HX3.out.2
    go_wp2_with fail
    refine (heavy_any _ p.xs _ (HU.out.2.below HB3.out) HF.out.2.2.1 HF.out.2.2.2.xs).mono ?_
    rintro e w4 ⟨rfl, hb⟩
    have HB4 : Hid (Below w.heap.size w w4) := HB3.out.trans (hb.mono HB3.out.size)
    have HX4 : Hid (BoxR w4 w.heap.size r (.slice au m cu) ∧ BoxR w4 (w.heap.size + 1) p (.slice ap mp cp)) := ⟨HX3.out.1.below hb, HX3.out.2.below hb⟩
    clear hb x0 x1 x2 x3 x4
    cases hgr : heavyB p.xs with
    | true =>
      clear hgr
      go_wp2
      go_ret
      exact ⟨rfl, HB4.out⟩
    | false =>
      have HLP : Hid (p.xs.length ≤ 20 ∧ ∀ x ∈ p.xs, Light x) := heavy_light hgr
      clear hgr
      obtain ⟨x0, x1, x2, x3, x4⟩ := HX4.out.1
      by_cases h16 : 16 < m
      · have h16' : (16 : Int) < (m : Int) := by omega
        go_wp2
        go_ret
        exact ⟨rfl, HB4.out⟩
      have h16' : ¬ (16 : Int) < (m : Int) := by omega
      have HIS : Hid (Rq.Is (Rq.bytes r) r) := is_of HF.out.2.1 (by rw [← HM.out]; omega) HLT.out.2
      have HFR : Hid (Few r.xs ∧ Few p.xs) := ⟨few_light HLT.out.2, few_light HLP.out.2⟩
      go_wp2_with fail
      clear x0 x1 x2 x3 x4
      refine (HS.out.put r _ _ (HU.out.1.below HB4.out) HLT.out.1 HLT.out.2).mono ?_
      rintro e w5 ⟨v5, rfl, hbs, hb⟩
      have HB5 : Hid (Below w.heap.size w w5) := HB4.out.trans (hb.mono HB4.out.size)
      have HX5 : Hid (BoxR w5 w.heap.size r (.slice au m cu) ∧ BoxR w5 (w.heap.size + 1) p (.slice ap mp cp)) := ⟨HX4.out.1.below hb, HX4.out.2.below hb⟩
      have HV5 : Hid (Bs w5 v5 (Rq.bytes r)) := hbs
      clear hb hbs
      go_wp2_with fail
      refine (HS.out.get _ _ _ HV5.out (by have := bytes_light HLT.out.1 HLT.out.2; omega)).mono ?_
      rintro e w6 ⟨hb, hcase⟩
      have HB6 : Hid (Below w.heap.size w w6) := HB5.out.trans (hb.mono HB5.out.size)
      have HX6 : Hid (BoxR w6 w.heap.size r (.slice au m cu) ∧ BoxR w6 (w.heap.size + 1) p (.slice ap mp cp)) := ⟨HX5.out.1.below hb, HX5.out.2.below hb⟩
      clear hb
      obtain ⟨u6, rfl, hu6⟩ : ∃ u6, e = .returned (.tuple #[rv r u6, .int .i64 0]) ∧ Rl w6 u6 r.xs := by
        rcases hcase with ⟨r', u', he, hu', his'⟩ | ⟨_, _, _, hno⟩
        · obtain rfl := Rq.is_inj his' HIS.out
          exact ⟨u', he, hu'⟩
        · exact absurd HIS.out (hno _)
      have HU6 : Hid (Rl w6 u6 r.xs) := hu6
      clear hcase
      obtain ⟨a6, m6, c6, rfl, hXX⟩ := hu6
      clear hXX
      unfold rv
      have hal : Below w6.heap.size w6 (w6.alloc (.cells #[.int .i64 r.num, .int .i64 r.zxid, .int .i64 r.err, .int .i64 r.at_, .slice a6 m6 c6] 26)) := (Below.refl _ w6).alloc (Nat.le_refl _) _
      have HB7 : Hid (Below w.heap.size w (w6.alloc (.cells #[.int .i64 r.num, .int .i64 r.zxid, .int .i64 r.err, .int .i64 r.at_, .slice a6 m6 c6] 26))) := HB6.out.trans (hal.mono HB6.out.size)
      have HX7 : Hid (BoxR (w6.alloc (.cells #[.int .i64 r.num, .int .i64 r.zxid, .int .i64 r.err, .int .i64 r.at_, .slice a6 m6 c6] 26)) w.heap.size r (.slice au m cu) ∧ BoxR (w6.alloc (.cells #[.int .i64 r.num, .int .i64 r.zxid, .int .i64 r.err, .int .i64 r.at_, .slice a6 m6 c6] 26)) (w.heap.size + 1) p (.slice ap mp cp)) := ⟨HX6.out.1.below hal, HX6.out.2.below hal⟩
      have HZ7 : Hid (BoxR (w6.alloc (.cells #[.int .i64 r.num, .int .i64 r.zxid, .int .i64 r.err, .int .i64 r.at_, .slice a6 m6 c6] 26)) w6.heap.size r (.slice a6 m6 c6)) := BoxR.made w6 r _ _
      have HU7 : Hid (Rl (w6.alloc (.cells #[.int .i64 r.num, .int .i64 r.zxid, .int .i64 r.err, .int .i64 r.at_, .slice a6 m6 c6] 26)) (.slice a6 m6 c6) r.xs) := HU6.out.below hal
      clear hal
      go_wp2_with fail
      obtain ⟨q6, hq6⟩ : ∃ q, q = w6.heap.size := ⟨_, rfl⟩
      rw [← hq6] at HZ7 ⊢
      clear hq6
      generalize (w6.alloc (.cells #[.int .i64 r.num, .int .i64 r.zxid, .int .i64 r.err, .int .i64 r.at_, .slice a6 m6 c6] 26)) = w7 at *
      have HB8 : Hid (Below w.heap.size w w7.drew) := HB7.out.drew
      have HX8 : Hid (BoxR w7.drew w.heap.size r (.slice au m cu) ∧ BoxR w7.drew (w.heap.size + 1) p (.slice ap mp cp) ∧ BoxR w7.drew q6 r (.slice a6 m6 c6)) := ⟨HX7.out.1.below (Below.refl _ w7).drew, HX7.out.2.below (Below.refl _ w7).drew, HZ7.out.below (Below.refl _ w7).drew⟩
      have HU8 : Hid (Rl w7.drew (.slice a6 m6 c6) r.xs) := HU7.out.below (Below.refl _ w7).drew
      refine wp_region_held_drew (S := S15 w.heap.size (w.heap.size + 1) q6 r p r (.slice au m cu) (.slice ap mp cp) (.slice a6 m6 c6)) (by kernel_rfl) (S15.of HX8.out.1 HX8.out.2.1 HX8.out.2.2) (fun hHeld => ?_)
      generalize w7.drew = w8 at *
      refine' take_at (i := 0) (d := 29) (v := _) rfl rfl (by kernel_rfl) (by kernel_rfl) (by kernel_rfl) (fun _ _ _ h => h) (Or.inl ⟨by rfl, ?h0⟩) (by assumption) ?_
      case h0 => intro w hSw; unfold S15 S10 at hSw; go_simp; with_reducible rfl
      simp only [List.setIfInBounds_toArray, List.set_cons_zero, List.set_cons_succ]
      refine' take_at (i := 1) (d := 30) (v := _) rfl rfl (by kernel_rfl) (by kernel_rfl) (by kernel_rfl) (fun _ _ _ h => h) (Or.inl ⟨by rfl, ?h1⟩) (by assumption) ?_
      case h1 => intro w hSw; unfold S15 S10 at hSw; go_simp; with_reducible rfl
      simp only [List.setIfInBounds_toArray, List.set_cons_zero, List.set_cons_succ]
      refine' take_at (i := 2) (d := 31) (v := _) rfl rfl (by kernel_rfl) (by kernel_rfl) (by kernel_rfl) (fun _ _ _ h => h) (Or.inl ⟨by rfl, ?h2⟩) (by assumption) ?_
      case h2 => intro w hSw; unfold S15 S10 at hSw; go_simp; with_reducible rfl
      simp only [List.setIfInBounds_toArray, List.set_cons_zero, List.set_cons_succ]
      refine' take_at (i := 3) (d := 32) (v := _) rfl rfl (by kernel_rfl) (by kernel_rfl) (by kernel_rfl) (fun _ _ _ h => h) (Or.inl ⟨by rfl, ?h3⟩) (by assumption) ?_
      case h3 => intro w hSw; unfold S15 S10 at hSw; go_simp; with_reducible rfl
      simp only [List.setIfInBounds_toArray, List.set_cons_zero, List.set_cons_succ]
      refine' take_at (i := 4) (d := 33) (v := _) rfl rfl (by kernel_rfl) (by kernel_rfl) (by kernel_rfl) (fun _ _ _ h => h) (Or.inl ⟨by rfl, ?h4⟩) (by assumption) ?_
      case h4 => intro w hSw; unfold S15 S10 at hSw; go_simp; with_reducible rfl
      simp only [List.setIfInBounds_toArray, List.set_cons_zero, List.set_cons_succ]
      refine wpAnyH_ready (rs := [5]) (by kernel_rfl) (by simp) ?_
      refine AllReadyH.cons (o := _) rfl (fun K hK => ?_) AllReadyH.nil
      go_simp
      refine (HS.out.same True r r _ _ _ HU8.out (HU.out.1.below HB8.out) HF.out.1 HF.out.1 HFR.out.1 HFR.out.1 ⟨fun _ => rfl, fun _ => trivial⟩).mono ?_
      rintro e wa ⟨R0, rfl, hR, hb⟩
      have hR1 : R0 = true := hR.2 trivial
      subst hR1
      have HBa : Hid (Below w.heap.size w wa) := HB8.out.trans (hb.mono HB8.out.size)
      have HXa : Hid (BoxR wa w.heap.size r (.slice au m cu) ∧ BoxR wa (w.heap.size + 1) p (.slice ap mp cp) ∧ BoxR wa q6 r (.slice a6 m6 c6)) := ⟨HX8.out.1.below hb, HX8.out.2.1.below hb, HX8.out.2.2.below hb⟩
      clear hb hR
      simp only []
      refine hK.out _ _ (S15.of HXa.out.1 HXa.out.2.1 HXa.out.2.2) (fun hHeld2 => ?_)
      clear hK K hHeld
      refine' take_at (i := 6) (d := 35) (v := _) rfl rfl (by kernel_rfl) (by kernel_rfl) (by kernel_rfl) (fun _ _ _ h => h) (Or.inl ⟨by rfl, ?h6⟩) (by assumption) ?_
      case h6 => intro w hSw; unfold S15 S10 at hSw; go_simp; with_reducible rfl
      simp only [List.setIfInBounds_toArray, List.set_cons_zero, List.set_cons_succ]
      refine' take_at (i := 7) (d := 36) (v := _) rfl rfl (by kernel_rfl) (by kernel_rfl) (by kernel_rfl) (fun _ _ _ h => h) (Or.inl ⟨by rfl, ?h7⟩) (by assumption) ?_
      case h7 => intro w hSw; unfold S15 S10 at hSw; go_simp; with_reducible rfl
      simp only [List.setIfInBounds_toArray, List.set_cons_zero, List.set_cons_succ]
      refine' take_at (i := 8) (d := 37) (v := _) rfl rfl (by kernel_rfl) (by kernel_rfl) (by kernel_rfl) (fun _ _ _ h => h) (Or.inl ⟨by rfl, ?h8⟩) (by assumption) ?_
      case h8 => intro w hSw; unfold S15 S10 at hSw; go_simp; with_reducible rfl
      simp only [List.setIfInBounds_toArray, List.set_cons_zero, List.set_cons_succ]
      refine' take_at (i := 11) (d := 40) (v := _) rfl rfl (by kernel_rfl) (by kernel_rfl) (by kernel_rfl) (fun _ _ _ h => h) (Or.inl ⟨by rfl, ?h11⟩) (by assumption) ?_
      case h11 => intro w hSw; unfold S15 S10 at hSw; go_simp; with_reducible rfl
      simp only [List.setIfInBounds_toArray, List.set_cons_zero, List.set_cons_succ]
      refine' take_at (i := 15) (d := 44) (v := _) rfl rfl (by kernel_rfl) (by kernel_rfl) (by kernel_rfl) (fun _ _ _ h => h) (Or.inl ⟨by rfl, ?h15⟩) (by assumption) ?_
      case h15 => intro w hSw; unfold S15 S10 at hSw; go_simp; with_reducible rfl
      simp only [List.setIfInBounds_toArray, List.set_cons_zero, List.set_cons_succ]
      refine' take_at (i := 16) (d := 45) (v := _) rfl rfl (by kernel_rfl) (by kernel_rfl) (by kernel_rfl) (fun _ _ _ h => h) (Or.inl ⟨by rfl, ?h16⟩) (by assumption) ?_
      case h16 => intro w hSw; unfold S15 S10 at hSw; go_simp; with_reducible rfl
      simp only [List.setIfInBounds_toArray, List.set_cons_zero, List.set_cons_succ]
      refine wpAnyH_ready (rs := [9]) (by kernel_rfl) (by simp) ?_
      refine AllReadyH.cons (o := _) rfl (fun K hK => ?_) AllReadyH.nil
      go_simp
      refine (HS.out.put r _ _ (HU.out.1.below HBa.out) HLT.out.1 HLT.out.2).mono ?_
      rintro e wb ⟨v9, rfl, hbs, hb⟩
      obtain ⟨X, hX⟩ : ∃ X : ByteArray, X = ⟨(Rq.bytes r).toArray⟩ := ⟨_, rfl⟩
      have HXX : Hid (X = ⟨(Rq.bytes r).toArray⟩) := hX
      have HVb : Hid (Bs wb v9 (Rq.bytes r)) := hbs
      have HBb : Hid (Below w.heap.size w wb) := HBa.out.trans (hb.mono HBa.out.size)
      have HXb : Hid (BoxR wb w.heap.size r (.slice au m cu) ∧ BoxR wb (w.heap.size + 1) p (.slice ap mp cp) ∧ BoxR wb q6 r (.slice a6 m6 c6)) := ⟨HXa.out.1.below hb, HXa.out.2.1.below hb, HXa.out.2.2.below hb⟩
      clear hb hbs hX
      simp only []
      refine hK.out _ _ (S15.of HXb.out.1 HXb.out.2.1 HXb.out.2.2) (fun hHeld => ?_)
      clear hK K hHeld2
      have hS7 : (fun w' => S15 w.heap.size (w.heap.size + 1) q6 r p r (.slice au m cu) (.slice ap mp cp) (.slice a6 m6 c6) w' ∧ (convert 29 9 v9).run Try.prog w' = .ok (.string X) w') wb := ⟨S15.of HXb.out.1 HXb.out.2.1 HXb.out.2.2, by rw [HXX.out]; exact HVb.out.conv⟩
      refine wpAnyH_more (S' := (fun w' => S15 w.heap.size (w.heap.size + 1) q6 r p r (.slice au m cu) (.slice ap mp cp) (.slice a6 m6 c6) w' ∧ (convert 29 9 v9).run Try.prog w' = .ok (.string X) w')) (fun _ h => h.1) _ _ _ _ ?_
      refine' take_at (i := 10) (d := 39) (v := _) rfl rfl (by kernel_rfl) (by kernel_rfl) (by kernel_rfl) (fun _ _ _ h => h) (Or.inl ⟨by rfl, ?h10⟩) (by assumption) ?_
      case h10 => intro w hSw; unfold S15 S10 at hSw; go_simp; with_reducible rfl
      simp only [List.setIfInBounds_toArray, List.set_cons_zero, List.set_cons_succ]
      refine wpAnyH_ready (rs := [12]) (by kernel_rfl) (by simp) ?_
      refine AllReadyH.cons (o := _) rfl (fun K hK => ?_) AllReadyH.nil
      go_simp
      refine (HS.out.put p _ _ (HU.out.2.below HBb.out) HLP.out.1 HLP.out.2).mono ?_
      rintro e wc ⟨v12, rfl, hbs, hb⟩
      obtain ⟨Y, hY⟩ : ∃ Y : ByteArray, Y = ⟨(Rq.bytes p).toArray⟩ := ⟨_, rfl⟩
      have HYY : Hid (Y = ⟨(Rq.bytes p).toArray⟩) := hY
      have HVc : Hid (Bs wc v12 (Rq.bytes p) ∧ Bs wc v9 (Rq.bytes r)) := ⟨hbs, HVb.out.below hb⟩
      have HBc : Hid (Below w.heap.size w wc) := HBb.out.trans (hb.mono HBb.out.size)
      have HXc : Hid (BoxR wc w.heap.size r (.slice au m cu) ∧ BoxR wc (w.heap.size + 1) p (.slice ap mp cp) ∧ BoxR wc q6 r (.slice a6 m6 c6)) := ⟨HXb.out.1.below hb, HXb.out.2.1.below hb, HXb.out.2.2.below hb⟩
      clear hb hbs hY
      simp only []
      refine hK.out _ _ (⟨S15.of HXc.out.1 HXc.out.2.1 HXc.out.2.2, by rw [HXX.out]; exact HVc.out.2.conv⟩) (fun hHeld2 => ?_)
      clear hK K hHeld hS7
      have hS8 : (fun w' => S15 w.heap.size (w.heap.size + 1) q6 r p r (.slice au m cu) (.slice ap mp cp) (.slice a6 m6 c6) w' ∧ (convert 29 9 v12).run Try.prog w' = .ok (.string Y) w' ∧ (convert 29 9 v9).run Try.prog w' = .ok (.string X) w') wc := ⟨S15.of HXc.out.1 HXc.out.2.1 HXc.out.2.2, by rw [HYY.out]; exact HVc.out.1.conv, by rw [HXX.out]; exact HVc.out.2.conv⟩
      refine wpAnyH_more (S' := (fun w' => S15 w.heap.size (w.heap.size + 1) q6 r p r (.slice au m cu) (.slice ap mp cp) (.slice a6 m6 c6) w' ∧ (convert 29 9 v12).run Try.prog w' = .ok (.string Y) w' ∧ (convert 29 9 v9).run Try.prog w' = .ok (.string X) w')) (fun _ h => ⟨h.1, h.2.2⟩) _ _ _ _ ?_
      obtain ⟨B, hB⟩ : ∃ B : Bool, (X.toList == Y.toList) = B := ⟨_, rfl⟩
      have HBQ : Hid (B = true ↔ r = p) := by
        have h : B = true ↔ r = p := by
          rw [← hB, HXX.out, HYY.out, ByteArray.toList_eq, ByteArray.toList_eq]
          simp only [beq_iff_eq]
          constructor
          · intro h
            exact Rq.bytes_inj h HF.out.2.1 HF.out.2.2.2
          · rintro rfl
            rfl
        exact h
      refine' take_at (i := 13) (d := 42) (v := _) rfl rfl (by kernel_rfl) (by kernel_rfl) (by kernel_rfl) (fun _ _ _ h => h) (Or.inl ⟨by rfl, ?h13⟩) (by assumption) ?_
      case h13 => intro w hSw; unfold S15 S10 at hSw; go_simp; with_reducible rfl
      simp only [List.setIfInBounds_toArray, List.set_cons_zero, List.set_cons_succ]
      refine' take_at (i := 14) (d := 43) (v := _) rfl rfl (by kernel_rfl) (by kernel_rfl) (by kernel_rfl) (fun _ _ _ h => h) (Or.inl ⟨by rfl, ?h14⟩) (by assumption) ?_
      case h14 => intro w hSw; unfold S15 S10 at hSw; go_simp; with_reducible rfl
      simp only [List.setIfInBounds_toArray, List.set_cons_zero, List.set_cons_succ]
      refine wpAnyH_ready (rs := [17]) (by kernel_rfl) (by simp) ?_
      refine AllReadyH.cons (o := _) rfl (fun K hK => ?_) AllReadyH.nil
      go_simp
      refine (HS.out.same (r = p) r p _ _ _ (HU.out.1.below HBc.out) (HU.out.2.below HBc.out) HF.out.1 HF.out.2.2.1 HFR.out.1 HFR.out.2 Iff.rfl).mono ?_
      rintro e wd ⟨R, rfl, hR, hb⟩
      have hRB : R = B := by
        cases R with
        | true => exact (HBQ.out.2 (hR.1 rfl)).symm
        | false =>
          cases B with
          | true => exact hR.2 (HBQ.out.1 (by trivial))
          | false => rfl
      subst hRB
      have HVd : Hid (Bs wd v12 (Rq.bytes p) ∧ Bs wd v9 (Rq.bytes r)) := ⟨HVc.out.1.below hb, HVc.out.2.below hb⟩
      have HBd : Hid (Below w.heap.size w wd) := HBc.out.trans (hb.mono HBc.out.size)
      have HXd : Hid (BoxR wd w.heap.size r (.slice au m cu) ∧ BoxR wd (w.heap.size + 1) p (.slice ap mp cp) ∧ BoxR wd q6 r (.slice a6 m6 c6)) := ⟨HXc.out.1.below hb, HXc.out.2.1.below hb, HXc.out.2.2.below hb⟩
      clear hb hR
      simp only []
      refine hK.out _ _ (⟨S15.of HXd.out.1 HXd.out.2.1 HXd.out.2.2, by rw [HYY.out]; exact HVd.out.1.conv, by rw [HXX.out]; exact HVd.out.2.conv⟩) (fun hHeld => ?_)
      clear hK K hHeld2 hS8
      refine' take_at (i := 18) (d := 47) (v := _) rfl rfl (by kernel_rfl) (by kernel_rfl) (by kernel_rfl) (fun _ _ _ h => h) (Or.inl ⟨by rfl, ?h18⟩) (by assumption) ?_
      case h18 => intro w hSw; unfold S15 S10 at hSw; go_simp; with_reducible rfl
      simp only [List.setIfInBounds_toArray, List.set_cons_zero, List.set_cons_succ]
      refine' take_at (i := 19) (d := 48) (v := _) rfl rfl (by kernel_rfl) (by kernel_rfl) (by kernel_rfl) (fun _ _ _ h => h) (Or.inl ⟨by rfl, ?h19⟩) (by assumption) ?_
      case h19 => intro w hSw; unfold S15 S10 at hSw; go_simp; with_reducible rfl
      simp only [List.setIfInBounds_toArray, List.set_cons_zero, List.set_cons_succ]
      refine' take_at (i := 20) (d := 4) (v := _) rfl rfl (by kernel_rfl) (by kernel_rfl) (by kernel_rfl) (fun _ _ _ h => h) (Or.inl ⟨by rfl, ?h20⟩) (by assumption) ?_
      case h20 => intro w hSw; unfold S15 S10 at hSw; go_simp; with_reducible rfl
      simp only [List.setIfInBounds_toArray, List.set_cons_zero, List.set_cons_succ]
      refine wpAnyH_done (by kernel_rfl) ?_ _
      clear hHeld hB
      go_wp2
      go_ret
      exact ⟨rfl, HBd.out⟩
end Go.Proofs.Ytebmcjhhoionbaa
