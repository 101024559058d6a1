/- The walk of the statement OpBack, over what op's calls answer: it answers true. -/
import Derived.Test.YtcpajjjkhikipaaDoorLAwake5
namespace Go.Proofs.YtcpajjjkhikipaaDoor
open Go.RowKit

set_option maxRecDepth 20000 in
set_option maxHeartbeats 4000000 in
theorem back_any5 (hs : Specs) (s n s' n' : Int) (u u' : Value) (os os' : List O) (w : World) (hS : Pa.Std w) (hu : Ol w u os) (hu' : Ol w u' os') (hl : os.length ≤ maxLen) (hl' : os'.length ≤ maxLen) (hf : ∀ o ∈ os, Fit o) (hf' : ∀ o ∈ os', Fit o)
    (hsr : Oq.Rng s) (hnr : Oq.Rng n) (hsr' : Oq.Rng s') (hnr' : Oq.Rng n') :
    Calls Tryd.prog 3 #[.agg #[.int .i64 s, .int .i64 n, u], .agg #[.int .i64 s', .int .i64 n', u']] w fun e w' => e = .returned (.bool true) ∧ Below w.heap.size w w' := by
  have HS : Hid Specs := hs
  have HW : Hid (Pa.Std w) := hS
  have HU : Hid (Ol w u os ∧ Ol w u' os') := ⟨hu, hu'⟩
  have HF : Hid (os.length ≤ maxLen ∧ os'.length ≤ maxLen ∧ (∀ o ∈ os, Fit o) ∧ ∀ o ∈ os', Fit o) := ⟨hl, hl', hf, hf'⟩
  have HRG : Hid (Oq.Rng s ∧ Oq.Rng n ∧ Oq.Rng s' ∧ Oq.Rng n') := ⟨hsr, hnr, hsr', hnr'⟩
  obtain ⟨q1, hq1⟩ : ∃ q1, q1 = w.heap.size + 1 := ⟨_, rfl⟩
  have HBX : Hid (Box3 ((w.alloc (.cells #[.int .i64 s, .int .i64 n, u] 24)).alloc (.cells #[.int .i64 s', .int .i64 n', u'] 24)) w.heap.size s n u) := (Box3.made w s n u _).below ((Below.refl _ _).alloc (Nat.le_refl _) _)
  have HBY : Hid (Box3 ((w.alloc (.cells #[.int .i64 s, .int .i64 n, u] 24)).alloc (.cells #[.int .i64 s', .int .i64 n', u'] 24)) q1 s' n' u') := by
    have h := Box3.made (w.alloc (.cells #[.int .i64 s, .int .i64 n, u] 24)) s' n' u' 24
    rw [World.size_alloc] at h
    rw [hq1]
    exact h
  have HB0 : Hid (Below w.heap.size w ((w.alloc (.cells #[.int .i64 s, .int .i64 n, u] 24)).alloc (.cells #[.int .i64 s', .int .i64 n', u'] 24))) := ((Below.refl _ w).alloc (Nat.le_refl _) _).alloc (by simp) _
  obtain ⟨au, m, cu, rfl, hm, hx⟩ := hu
  obtain ⟨au', m', cu', rfl, hm', hx'⟩ := hu'
  have hm1 : m ≤ 9223372036854775807 := by unfold maxLen at hl; omega
  have hm2 : m' ≤ 9223372036854775807 := by unfold maxLen at hl'; omega
  clear hs hS hl hl' hf hf' hm hm' hx hx' hsr hnr hsr' hnr'
  go_enter Tryd.func3, Tryd.ntmps3
  go_wp2_with fail
  rw [← hq1]
  clear hq1
  generalize (w.alloc (.cells #[.int .i64 s, .int .i64 n, .slice au m cu] 24)).alloc (.cells #[.int .i64 s', .int .i64 n', .slice au' m' cu'] 24) = w1 at *
  refine (awake_any5 HS.out _ (HW.out.below HB0.out)).mono ?_
  rintro e w2 ⟨rfl, hb⟩
  have HB2 : Hid (Below w.heap.size w w2) := HB0.out.trans (hb.mono HB0.out.size)
  have HX2 : Hid (Box3 w2 w.heap.size s n (.slice au m cu) ∧ Box3 w2 q1 s' n' (.slice au' m' cu')) := ⟨HBX.out.below hb, HBY.out.below hb⟩
  clear hb
  obtain ⟨⟨x0, x1, x2⟩, ⟨y0, y1, y2⟩⟩ := HX2.out
  go_wp2_with fail
  refine (great_any _ os _ (HU.out.1.below HB2.out) HF.out.1).mono ?_
  rintro e w3 ⟨rfl, hb⟩
  have HB3 : Hid (Below w.heap.size w w3) := HB2.out.trans (hb.mono HB2.out.size)
  have HX3 : Hid (Box3 w3 w.heap.size s n (.slice au m cu) ∧ Box3 w3 q1 s' n' (.slice au' m' cu')) := ⟨HX2.out.1.below hb, HX2.out.2.below hb⟩
  clear hb x0 x1 x2 y0 y1 y2
  obtain ⟨⟨x0, x1, x2⟩, ⟨y0, y1, y2⟩⟩ := HX3.out
  cases hgr : greatB os with
  | true =>
    clear hgr
    go_wp2
    go_ret
    exact ⟨rfl, HB3.out⟩
  | false =>
    clear hgr
    go_wp2_with fail
    refine (great_any _ os' _ (HU.out.2.below HB3.out) HF.out.2.1).mono ?_
    rintro e w4 ⟨rfl, hb⟩
    have HB4 : Hid (Below w.heap.size w w4) := HB3.out.trans (hb.mono HB3.out.size)
    have HX4 : Hid (Box3 w4 w.heap.size s n (.slice au m cu) ∧ Box3 w4 q1 s' n' (.slice au' m' cu')) := ⟨HX3.out.1.below hb, HX3.out.2.below hb⟩
    clear hb x0 x1 x2 y0 y1 y2
    obtain ⟨⟨x0, x1, x2⟩, ⟨y0, y1, y2⟩⟩ := HX4.out
    cases hgr : greatB os' with
    | true =>
      clear hgr
      go_wp2
      go_ret
      exact ⟨rfl, HB4.out⟩
    | false =>
      clear hgr
      go_wp2_with fail
      refine (HS.out.may s n _ os _ (HW.out.below HB4.out) (HU.out.1.below HB4.out) HF.out.1 HF.out.2.2.1).mono ?_
      rintro e w5 ⟨rfl, hb⟩
      have HB5 : Hid (Below w.heap.size w w5) := HB4.out.trans (hb.mono HB4.out.size)
      have HX5 : Hid (Box3 w5 w.heap.size s n (.slice au m cu) ∧ Box3 w5 q1 s' n' (.slice au' m' cu')) := ⟨HX4.out.1.below hb, HX4.out.2.below hb⟩
      obtain ⟨M, hM⟩ : ∃ M, M = Oq.may s n os := ⟨_, rfl⟩
      have HM : Hid (M = Oq.may s n os) := hM
      rw [← hM]
      clear hb x0 x1 x2 y0 y1 y2 hM
      obtain ⟨⟨x0, x1, x2⟩, ⟨y0, y1, y2⟩⟩ := HX5.out
      by_cases hM0 : M = 0
      · subst hM0
        go_wp2_with fail
        refine (HS.out.may s' n' _ os' _ (HW.out.below HB5.out) (HU.out.2.below HB5.out) HF.out.2.1 HF.out.2.2.2).mono ?_
        rintro e w6 ⟨rfl, hb⟩
        have HB6 : Hid (Below w.heap.size w w6) := HB5.out.trans (hb.mono HB5.out.size)
        have HX6 : Hid (Box3 w6 w.heap.size s n (.slice au m cu) ∧ Box3 w6 q1 s' n' (.slice au' m' cu')) := ⟨HX5.out.1.below hb, HX5.out.2.below hb⟩
        obtain ⟨M', hM'⟩ : ∃ M, M = Oq.may s' n' os' := ⟨_, rfl⟩
        have HM' : Hid (M' = Oq.may s' n' os') := hM'
        rw [← hM']
        clear hb x0 x1 x2 y0 y1 y2 hM'
        obtain ⟨⟨x0, x1, x2⟩, ⟨y0, y1, y2⟩⟩ := HX6.out
        by_cases hM0' : M' = 0
        · subst hM0'
          have HI : Hid (Is (Oq.bytes s n os) s n os) := ⟨HM.out.symm, rfl, HRG.out.1, HRG.out.2.1, fun o ho => fine_of (HF.out.2.2.1 o ho) (by have := ((may_sizes HM.out.symm).2.2.2.2 o ho).1; omega) (by have := ((may_sizes HM.out.symm).2.2.2.2 o ho).2; omega)⟩
          have HI' : Hid (Is (Oq.bytes s' n' os') s' n' os') := ⟨HM'.out.symm, rfl, HRG.out.2.2.1, HRG.out.2.2.2, fun o ho => fine_of (HF.out.2.2.2 o ho) (by have := ((may_sizes HM'.out.symm).2.2.2.2 o ho).1; omega) (by have := ((may_sizes HM'.out.symm).2.2.2.2 o ho).2; omega)⟩
          go_wp2_with fail
          refine (HS.out.put s n _ os _ (HW.out.below HB6.out) (HU.out.1.below HB6.out) HF.out.1 HF.out.2.2.1).mono ?_
          rintro e w7 ⟨v7, rfl, hbs, hb⟩
          have HV7 : Hid (Bs w7 v7 (Oq.bytes s n os)) := by
            have h := hbs
            unfold Oq.put at h
            rw [if_pos HM.out.symm] at h
            exact h
          have HB7 : Hid (Below w.heap.size w w7) := HB6.out.trans (hb.mono HB6.out.size)
          have HX7 : Hid (Box3 w7 w.heap.size s n (.slice au m cu) ∧ Box3 w7 q1 s' n' (.slice au' m' cu')) := ⟨HX6.out.1.below hb, HX6.out.2.below hb⟩
          clear hbs hb x0 x1 x2 y0 y1 y2
          go_wp2_with fail
          refine (HS.out.get v7 _ _ (HW.out.below HB7.out) HV7.out (bytes_len HM.out.symm)).mono ?_
          rintro e w8 ⟨hb, hcase⟩
          have HB8 : Hid (Below w.heap.size w w8) := HB7.out.trans (hb.mono HB7.out.size)
          have HX8 : Hid (Box3 w8 w.heap.size s n (.slice au m cu) ∧ Box3 w8 q1 s' n' (.slice au' m' cu')) := ⟨HX7.out.1.below hb, HX7.out.2.below hb⟩
          obtain ⟨u8, rfl, hu8⟩ : ∃ u8, e = .returned (.tuple #[.agg #[.int .i64 s, .int .i64 n, u8], .int .i64 0]) ∧ Ol w8 u8 os := by
            rcases hcase with ⟨a, b, u, os2, he, hu, his⟩ | ⟨_, _, _, hno⟩
            · obtain ⟨rfl, rfl, rfl⟩ := is_inj his HI.out
              exact ⟨u, he, hu⟩
            · exact absurd HI.out (hno _ _ _)
          have HU8 : Hid (Ol w8 u8 os) := hu8
          clear hb hcase hu8
          obtain ⟨a8, m8, c8, rfl, hm8, hq8⟩ := HU8.out
          clear hm8 hq8
          obtain ⟨q8, hq8⟩ : ∃ q8, q8 = w8.heap.size := ⟨_, rfl⟩
          have hal : Below w8.heap.size w8 (w8.alloc (.cells #[.int .i64 s, .int .i64 n, .slice a8 m8 c8] 24)) := (Below.refl _ w8).alloc (Nat.le_refl _) _
          have HB9 : Hid (Below w.heap.size w (w8.alloc (.cells #[.int .i64 s, .int .i64 n, .slice a8 m8 c8] 24))) := HB8.out.trans (hal.mono HB8.out.size)
          have HX9 : Hid (Box3 (w8.alloc (.cells #[.int .i64 s, .int .i64 n, .slice a8 m8 c8] 24)) w.heap.size s n (.slice au m cu) ∧ Box3 (w8.alloc (.cells #[.int .i64 s, .int .i64 n, .slice a8 m8 c8] 24)) q1 s' n' (.slice au' m' cu') ∧ Box3 (w8.alloc (.cells #[.int .i64 s, .int .i64 n, .slice a8 m8 c8] 24)) q8 s n (.slice a8 m8 c8)) := ⟨HX8.out.1.below hal, HX8.out.2.below hal, by rw [hq8]; exact Box3.made w8 s n _ _⟩
          have HU9 : Hid (Ol (w8.alloc (.cells #[.int .i64 s, .int .i64 n, .slice a8 m8 c8] 24)) (.slice a8 m8 c8) os) := HU8.out.below hal
          go_wp2
          rw [← hq8]
          clear hq8 hal
          generalize w8.alloc (.cells #[.int .i64 s, .int .i64 n, .slice a8 m8 c8] 24) = w9 at *
          refine wp_region_held_drew (S := (S6 w.heap.size q1 q8 s n s' n' (.slice au m cu) (.slice au' m' cu') (.slice a8 m8 c8))) (by kernel_rfl) (S6.drew (S6.of HX9.out.1 HX9.out.2.1 HX9.out.2.2)) (fun hHeld => ?_)
          refine' take_at (i := 0) (d := 33) (v := _) rfl rfl (by kernel_rfl) (by kernel_rfl) (by kernel_rfl) (fun _ _ _ h => h) (Or.inl ⟨by rfl, ?h0⟩) (by assumption) ?_
          case h0 => intro w hSw; unfold S6 at hSw; go_simp; with_reducible rfl
          simp only [List.setIfInBounds_toArray, List.set_cons_zero, List.set_cons_succ]
          refine' take_at (i := 1) (d := 34) (v := _) rfl rfl (by kernel_rfl) (by kernel_rfl) (by kernel_rfl) (fun _ _ _ h => h) (Or.inl ⟨by rfl, ?h1⟩) (by assumption) ?_
          case h1 => intro w hSw; unfold S6 at hSw; go_simp; with_reducible rfl
          simp only [List.setIfInBounds_toArray, List.set_cons_zero, List.set_cons_succ]
          refine' take_at (i := 2) (d := 35) (v := _) rfl rfl (by kernel_rfl) (by kernel_rfl) (by kernel_rfl) (fun _ _ _ h => h) (Or.inl ⟨by rfl, ?h2⟩) (by assumption) ?_
          case h2 => intro w hSw; unfold S6 at hSw; go_simp; with_reducible rfl
          simp only [List.setIfInBounds_toArray, List.set_cons_zero, List.set_cons_succ]
          refine' take_at (i := 3) (d := 36) (v := _) rfl rfl (by kernel_rfl) (by kernel_rfl) (by kernel_rfl) (fun _ _ _ h => h) (Or.inl ⟨by rfl, ?h3⟩) (by assumption) ?_
          case h3 => intro w hSw; unfold S6 at hSw; go_simp; with_reducible rfl
          simp only [List.setIfInBounds_toArray, List.set_cons_zero, List.set_cons_succ]
          refine' take_at (i := 4) (d := 37) (v := _) rfl rfl (by kernel_rfl) (by kernel_rfl) (by kernel_rfl) (fun _ _ _ h => h) (Or.inl ⟨by rfl, ?h4⟩) (by assumption) ?_
          case h4 => intro w hSw; unfold S6 at hSw; go_simp; with_reducible rfl
          simp only [List.setIfInBounds_toArray, List.set_cons_zero, List.set_cons_succ]
          refine wpAnyH_ready (rs := [5]) (by kernel_rfl) (by simp) ?_
          refine AllReadyH.cons (o := _) rfl (fun K hK => ?_) AllReadyH.nil
          go_simp
          refine (HS.out.same s n s n _ _ os os _ (HU9.out.below (Below.refl _ w9).drew) (HU.out.1.below (HB9.out.trans ((Below.refl _ w9).drew.mono HB9.out.size))) HF.out.1 HF.out.1).mono ?_
          rintro e wa ⟨R, rfl, hR, hb0⟩
          have hb := below_drew hb0
          have hR1 : R = true := hR.2 ⟨rfl, rfl, rfl⟩
          subst hR1
          have HBa : Hid (Below w.heap.size w wa) := HB9.out.trans (hb.mono HB9.out.size)
          have HXa : Hid (Box3 wa w.heap.size s n (.slice au m cu) ∧ Box3 wa q1 s' n' (.slice au' m' cu') ∧ Box3 wa q8 s n (.slice a8 m8 c8)) := ⟨HX9.out.1.below hb, HX9.out.2.1.below hb, HX9.out.2.2.below hb⟩
          clear hb hb0 hR
          simp only []
          refine hK.out _ _ (S6.of HXa.out.1 HXa.out.2.1 HXa.out.2.2) (fun hHeld2 => ?_)
          clear hK K hHeld
          refine' take_at (i := 6) (d := 39) (v := _) rfl rfl (by kernel_rfl) (by kernel_rfl) (by kernel_rfl) (fun _ _ _ h => h) (Or.inl ⟨by rfl, ?h6⟩) (by assumption) ?_
          case h6 => intro w hSw; unfold S6 at hSw; go_simp; with_reducible rfl
          simp only [List.setIfInBounds_toArray, List.set_cons_zero, List.set_cons_succ]
          refine' take_at (i := 7) (d := 40) (v := _) rfl rfl (by kernel_rfl) (by kernel_rfl) (by kernel_rfl) (fun _ _ _ h => h) (Or.inl ⟨by rfl, ?h7⟩) (by assumption) ?_
          case h7 => intro w hSw; unfold S6 at hSw; go_simp; with_reducible rfl
          simp only [List.setIfInBounds_toArray, List.set_cons_zero, List.set_cons_succ]
          refine' take_at (i := 8) (d := 41) (v := _) rfl rfl (by kernel_rfl) (by kernel_rfl) (by kernel_rfl) (fun _ _ _ h => h) (Or.inl ⟨by rfl, ?h8⟩) (by assumption) ?_
          case h8 => intro w hSw; unfold S6 at hSw; go_simp; with_reducible rfl
          simp only [List.setIfInBounds_toArray, List.set_cons_zero, List.set_cons_succ]
          refine' take_at (i := 11) (d := 44) (v := _) rfl rfl (by kernel_rfl) (by kernel_rfl) (by kernel_rfl) (fun _ _ _ h => h) (Or.inl ⟨by rfl, ?h11⟩) (by assumption) ?_
          case h11 => intro w hSw; unfold S6 at hSw; go_simp; with_reducible rfl
          simp only [List.setIfInBounds_toArray, List.set_cons_zero, List.set_cons_succ]
          refine' take_at (i := 15) (d := 48) (v := _) rfl rfl (by kernel_rfl) (by kernel_rfl) (by kernel_rfl) (fun _ _ _ h => h) (Or.inl ⟨by rfl, ?h15⟩) (by assumption) ?_
          case h15 => intro w hSw; unfold S6 at hSw; go_simp; with_reducible rfl
          simp only [List.setIfInBounds_toArray, List.set_cons_zero, List.set_cons_succ]
          refine' take_at (i := 16) (d := 49) (v := _) rfl rfl (by kernel_rfl) (by kernel_rfl) (by kernel_rfl) (fun _ _ _ h => h) (Or.inl ⟨by rfl, ?h16⟩) (by assumption) ?_
          case h16 => intro w hSw; unfold S6 at hSw; go_simp; with_reducible rfl
          simp only [List.setIfInBounds_toArray, List.set_cons_zero, List.set_cons_succ]
          refine wpAnyH_ready (rs := [9]) (by kernel_rfl) (by simp) ?_
          refine AllReadyH.cons (o := _) rfl (fun K hK => ?_) AllReadyH.nil
          go_simp
          refine (HS.out.put s n _ os _ (HW.out.below HBa.out) (HU.out.1.below HBa.out) HF.out.1 HF.out.2.2.1).mono ?_
          rintro e wb ⟨vb, rfl, hbs, hb⟩
          have HVb : Hid (Bs wb vb (Oq.bytes s n os)) := by
            have h := hbs
            unfold Oq.put at h
            rw [if_pos HM.out.symm] at h
            exact h
          obtain ⟨X, hX⟩ : ∃ X : ByteArray, X = ⟨(Oq.bytes s n os).toArray⟩ := ⟨_, rfl⟩
          have HX : Hid (X = ⟨(Oq.bytes s n os).toArray⟩) := hX
          have HBb : Hid (Below w.heap.size w wb) := HBa.out.trans (hb.mono HBa.out.size)
          have HXb : Hid (Box3 wb w.heap.size s n (.slice au m cu) ∧ Box3 wb q1 s' n' (.slice au' m' cu') ∧ Box3 wb q8 s n (.slice a8 m8 c8)) := ⟨HXa.out.1.below hb, HXa.out.2.1.below hb, HXa.out.2.2.below hb⟩
          clear hb hbs hX
          simp only []
          refine hK.out _ _ (S6.of HXb.out.1 HXb.out.2.1 HXb.out.2.2) (fun hHeld => ?_)
          clear hK K hHeld2
          have hS7 : (fun w' => S6 w.heap.size q1 q8 s n s' n' (.slice au m cu) (.slice au' m' cu') (.slice a8 m8 c8) w' ∧ (convert 31 9 vb).run Tryd.prog w' = .ok (.string X) w') wb := ⟨S6.of HXb.out.1 HXb.out.2.1 HXb.out.2.2, by rw [HX.out]; exact HVb.out.conv⟩
          refine wpAnyH_more (S' := fun w' => S6 w.heap.size q1 q8 s n s' n' (.slice au m cu) (.slice au' m' cu') (.slice a8 m8 c8) w' ∧ (convert 31 9 vb).run Tryd.prog w' = .ok (.string X) w') (fun _ h => h.1) _ _ _ _ ?_
          refine' take_at (i := 10) (d := 43) (v := _) rfl rfl (by kernel_rfl) (by kernel_rfl) (by kernel_rfl) (fun _ _ _ h => h) (Or.inl ⟨by rfl, ?h10⟩) (by assumption) ?_
          case h10 => intro w hSw; unfold S6 at hSw; go_simp; with_reducible rfl
          simp only [List.setIfInBounds_toArray, List.set_cons_zero, List.set_cons_succ]
          refine wpAnyH_ready (rs := [12]) (by kernel_rfl) (by simp) ?_
          refine AllReadyH.cons (o := _) rfl (fun K hK => ?_) AllReadyH.nil
          go_simp
          refine (HS.out.put s' n' _ os' _ (HW.out.below HBb.out) (HU.out.2.below HBb.out) HF.out.2.1 HF.out.2.2.2).mono ?_
          rintro e wd ⟨vd, rfl, hbs, hb⟩
          have HVd : Hid (Bs wd vd (Oq.bytes s' n' os')) := by
            have h := hbs
            unfold Oq.put at h
            rw [if_pos HM'.out.symm] at h
            exact h
          obtain ⟨Y, hY⟩ : ∃ Y : ByteArray, Y = ⟨(Oq.bytes s' n' os').toArray⟩ := ⟨_, rfl⟩
          have HY : Hid (Y = ⟨(Oq.bytes s' n' os').toArray⟩) := hY
          have HBd : Hid (Below w.heap.size w wd) := HBb.out.trans (hb.mono HBb.out.size)
          have HXd : Hid (Box3 wd w.heap.size s n (.slice au m cu) ∧ Box3 wd q1 s' n' (.slice au' m' cu') ∧ Box3 wd q8 s n (.slice a8 m8 c8)) := ⟨HXb.out.1.below hb, HXb.out.2.1.below hb, HXb.out.2.2.below hb⟩
          have HVb2 : Hid (Bs wd vb (Oq.bytes s n os)) := HVb.out.below hb
          clear hb hbs hY
          simp only []
          refine hK.out _ _ ⟨S6.of HXd.out.1 HXd.out.2.1 HXd.out.2.2, by rw [HX.out]; exact HVb2.out.conv⟩ (fun hHeld3 => ?_)
          clear hK K hS7 hHeld
          have hS8 : (fun w' => S6 w.heap.size q1 q8 s n s' n' (.slice au m cu) (.slice au' m' cu') (.slice a8 m8 c8) w' ∧ (convert 31 9 vd).run Tryd.prog w' = .ok (.string Y) w' ∧ (convert 31 9 vb).run Tryd.prog w' = .ok (.string X) w') wd := ⟨S6.of HXd.out.1 HXd.out.2.1 HXd.out.2.2, by rw [HY.out]; exact HVd.out.conv, by rw [HX.out]; exact HVb2.out.conv⟩
          refine wpAnyH_more (S' := fun w' => S6 w.heap.size q1 q8 s n s' n' (.slice au m cu) (.slice au' m' cu') (.slice a8 m8 c8) w' ∧ (convert 31 9 vd).run Tryd.prog w' = .ok (.string Y) w' ∧ (convert 31 9 vb).run Tryd.prog w' = .ok (.string X) w') (fun _ h => ⟨h.1, h.2.2⟩) _ _ _ _ ?_
          obtain ⟨B, hB⟩ : ∃ B : Bool, (X.toList == Y.toList) = B := ⟨_, rfl⟩
          have HBQ : Hid (B = true ↔ s = s' ∧ n = n' ∧ os = os') := by
            have h : B = true ↔ s = s' ∧ n = n' ∧ os = os' := by
              rw [← hB, HX.out, HY.out, ByteArray.toList_eq, ByteArray.toList_eq]
              simp only [beq_iff_eq]
              constructor
              · intro h
                have h2 : Oq.bytes s n os = Oq.bytes s' n' os' := h
                exact is_inj HI.out (by rw [h2]; exact HI'.out)
              · rintro ⟨rfl, rfl, rfl⟩
                rfl
            exact h
          refine' take_at (i := 13) (d := 46) (v := _) rfl rfl (by kernel_rfl) (by kernel_rfl) (by kernel_rfl) (fun _ _ _ h => h) (Or.inl ⟨by rfl, ?h13⟩) (by assumption) ?_
          case h13 => intro w hSw; unfold S6 at hSw; go_simp; with_reducible rfl
          simp only [List.setIfInBounds_toArray, List.set_cons_zero, List.set_cons_succ]
          refine' take_at (i := 14) (d := 47) (v := _) rfl rfl (by kernel_rfl) (by kernel_rfl) (by kernel_rfl) (fun _ _ _ h => h) (Or.inl ⟨by rfl, ?h14⟩) (by assumption) ?_
          case h14 => intro w hSw; unfold S6 at hSw; go_simp; with_reducible rfl
          simp only [List.setIfInBounds_toArray, List.set_cons_zero, List.set_cons_succ]
          refine wpAnyH_ready (rs := [17]) (by kernel_rfl) (by simp) ?_
          refine AllReadyH.cons (o := _) rfl (fun K hK => ?_) AllReadyH.nil
          go_simp
          refine (HS.out.same s n s' n' _ _ os os' _ (HU.out.1.below HBd.out) (HU.out.2.below HBd.out) HF.out.1 HF.out.2.1).mono ?_
          rintro e wf ⟨R, rfl, hR, hb⟩
          have hRB : R = B := by
            cases R with
            | true => exact (HBQ.out.2 (hR.1 rfl)).symm
            | false =>
              cases B with
              | true => exact hR.2 (HBQ.out.1 (by trivial))
              | false => rfl
          subst hRB
          have HBf : Hid (Below w.heap.size w wf) := HBd.out.trans (hb.mono HBd.out.size)
          have HXf : Hid (Box3 wf w.heap.size s n (.slice au m cu) ∧ Box3 wf q1 s' n' (.slice au' m' cu') ∧ Box3 wf q8 s n (.slice a8 m8 c8)) := ⟨HXd.out.1.below hb, HXd.out.2.1.below hb, HXd.out.2.2.below hb⟩
          have HVf : Hid (Bs wf vd (Oq.bytes s' n' os') ∧ Bs wf vb (Oq.bytes s n os)) := ⟨HVd.out.below hb, HVb2.out.below hb⟩
          clear hb hR
          simp only []
          refine hK.out _ _ ⟨S6.of HXf.out.1 HXf.out.2.1 HXf.out.2.2, by rw [HY.out]; exact HVf.out.1.conv, by rw [HX.out]; exact HVf.out.2.conv⟩ (fun hHeld => ?_)
          clear hK K hS8 hHeld3
          refine' take_at (i := 18) (d := 51) (v := _) rfl rfl (by kernel_rfl) (by kernel_rfl) (by kernel_rfl) (fun _ _ _ h => h) (Or.inl ⟨by rfl, ?h18⟩) (by assumption) ?_
          case h18 => intro w hSw; unfold S6 at hSw; go_simp; with_reducible rfl
          simp only [List.setIfInBounds_toArray, List.set_cons_zero, List.set_cons_succ]
          refine' take_at (i := 19) (d := 52) (v := _) rfl rfl (by kernel_rfl) (by kernel_rfl) (by kernel_rfl) (fun _ _ _ h => h) (Or.inl ⟨by rfl, ?h19⟩) (by assumption) ?_
          case h19 => intro w hSw; unfold S6 at hSw; go_simp; with_reducible rfl
          simp only [List.setIfInBounds_toArray, List.set_cons_zero, List.set_cons_succ]
          refine' take_at (i := 20) (d := 4) (v := _) rfl rfl (by kernel_rfl) (by kernel_rfl) (by kernel_rfl) (fun _ _ _ h => h) (Or.inl ⟨by rfl, ?h20⟩) (by assumption) ?_
          case h20 => intro w hSw; unfold S6 at hSw; go_simp; with_reducible rfl
          simp only [List.setIfInBounds_toArray, List.set_cons_zero, List.set_cons_succ]
          refine wpAnyH_done (by kernel_rfl) ?_ _
          clear hHeld hB
          go_wp2
          go_ret
          exact ⟨rfl, HBf.out⟩
        · go_wp2
          go_ret
          exact ⟨rfl, HB6.out⟩
      · go_wp2
        go_ret
        exact ⟨rfl, HB5.out⟩
end Go.Proofs.YtcpajjjkhikipaaDoor
