/- The walk of the statement OpBytes, over what op's calls answer. -/
import Derived.Test.YtcpajjjkhikipaaGreatDoorRGet
import Derived.Test.YtcpajjjkhikipaaGreatDoorRRq
import Derived.Test.YtcpajjjkhikipaaGreatDoorLAwake5
namespace Go.Proofs.YtcpajjjkhikipaaGreatDoor
open Go.RowKit

set_option maxRecDepth 20000 in
set_option maxHeartbeats 4000000 in
theorem bytes_any5 (hs : Specs) (s n : Int) (u : Value) (os : List O) (v : Value) (b : List UInt8) (w : World) (hS : Pa.Std w) (hu : Ol w u os) (hl : os.length ≤ maxLen) (hf : ∀ o ∈ os, Fit o) (hsr : Oq.Rng s) (hnr : Oq.Rng n) (hb : Bs w v b) (hbl : b.length ≤ maxLen) :
    Calls Tryz.prog 5 #[.agg #[.int .i64 s, .int .i64 n, u], v] w fun e w' => e = .returned (.bool true) ∧ Below w.heap.size w w' := by
  have HS : Hid Specs := hs
  have HW : Hid (Pa.Std w) := hS
  have HU : Hid (Ol w u os) := hu
  have HV : Hid (Bs w v b) := hb
  have HF : Hid (os.length ≤ maxLen ∧ ∀ o ∈ os, Fit o) := ⟨hl, hf⟩
  have HRG : Hid (Oq.Rng s ∧ Oq.Rng n) := ⟨hsr, hnr⟩
  obtain ⟨au, m, cu, rfl, hm, hx⟩ := hu
  obtain ⟨av, nv, cv, rfl, hnv, hxv⟩ := hb
  have HN : Hid (nv = b.length) := hnv
  have hm1 : m ≤ 9223372036854775807 := by unfold maxLen at hl; omega
  have hm2 : nv ≤ 9223372036854775807 := by unfold maxLen at hbl; omega
  clear hs hS hl hf hm hx hsr hnr hnv hxv hbl
  have HBX : Hid (Box3 (w.alloc (.cells #[.int .i64 s, .int .i64 n, .slice au m cu] 31)) w.heap.size s n (.slice au m cu)) := Box3.made w s n _ _
  have HB0 : Hid (Below w.heap.size w (w.alloc (.cells #[.int .i64 s, .int .i64 n, .slice au m cu] 31))) := (Below.refl _ w).alloc (Nat.le_refl _) _
  go_enter Tryz.func5, Tryz.ntmps5
  go_wp2_with fail
  generalize w.alloc (.cells #[.int .i64 s, .int .i64 n, .slice au m cu] 31) = w1 at *
  refine (awake_any5 HS.out _ (HW.out.below HB0.out)).mono ?_
  rintro e w2 ⟨rfl, hb⟩
  have HB2 : Hid (Below w.heap.size w w2) := HB0.out.trans (hb.mono HB0.out.size)
  have HX2 : Hid (Box3 w2 w.heap.size s n (.slice au m cu)) := HBX.out.below hb
  clear hb
  obtain ⟨x0, x1, x2⟩ := HX2.out
  go_wp2_with fail
  refine (great_any _ os _ (HU.out.below HB2.out) HF.out.1).mono ?_
  rintro e w3 ⟨rfl, hb⟩
  have HB3 : Hid (Below w.heap.size w w3) := HB2.out.trans (hb.mono HB2.out.size)
  have HX3 : Hid (Box3 w3 w.heap.size s n (.slice au m cu)) := HX2.out.below hb
  clear hb x0 x1 x2
  obtain ⟨x0, x1, x2⟩ := HX3.out
  cases hgr : greatB os with
  | true =>
    clear hgr
    go_wp2
    go_ret
    exact ⟨rfl, HB3.out⟩
  | false =>
    clear hgr
    by_cases hbig : (3000 : Int) < (nv : Int)
    · go_wp2
      go_ret
      exact ⟨rfl, HB3.out⟩
    · have HL : Hid (b.length ≤ 3000) := by
        have h : b.length ≤ 3000 := by have := HN.out; omega
        exact h
      clear x0 x1 x2
      go_wp2_with fail
      refine (HS.out.get _ b _ (HW.out.below HB3.out) (HV.out.below HB3.out) (by have := HL.out; omega)).mono ?_
      rintro e w4 ⟨hb, hcase⟩
      have HB4 : Hid (Below w.heap.size w w4) := HB3.out.trans (hb.mono HB3.out.size)
      have HX4 : Hid (Box3 w4 w.heap.size s n (.slice au m cu)) := HX3.out.below hb
      clear hb
      obtain ⟨gs, gn, gu, gos, E, rfl, hgu, hgc⟩ : ∃ gs gn gu gos E, e = .returned (.tuple #[.agg #[.int .i64 gs, .int .i64 gn, gu], .int .i64 E]) ∧ Ol w4 gu gos ∧ ((E = 0 ∧ Is b gs gn gos) ∨ (E = 3 ∧ gs = 0 ∧ gn = 0 ∧ gos = [] ∧ ∀ s n os, ¬ Is b s n os)) := by
        rcases hcase with ⟨a, b', u', os2, he, hu, his⟩ | ⟨u', he, hu, hno⟩
        · exact ⟨a, b', u', os2, 0, he, hu, Or.inl ⟨rfl, his⟩⟩
        · exact ⟨0, 0, u', [], 3, he, hu, Or.inr ⟨rfl, rfl, rfl, rfl, hno⟩⟩
      have HGU : Hid (Ol w4 gu gos) := hgu
      have HGC : Hid ((E = 0 ∧ Is b gs gn gos) ∨ (E = 3 ∧ gs = 0 ∧ gn = 0 ∧ gos = [] ∧ ∀ s n os, ¬ Is b s n os)) := hgc
      clear hcase hgu hgc
      obtain ⟨ag, mg, cg, rfl, hmg, hqg⟩ := HGU.out
      clear hmg hqg
      obtain ⟨q5, hq5⟩ : ∃ q, q = w4.heap.size := ⟨_, rfl⟩
      have hal : Below w4.heap.size w4 (w4.alloc (.cells #[.int .i64 gs, .int .i64 gn, .slice ag mg cg] 31)) := (Below.refl _ w4).alloc (Nat.le_refl _) _
      have HB5 : Hid (Below w.heap.size w (w4.alloc (.cells #[.int .i64 gs, .int .i64 gn, .slice ag mg cg] 31))) := HB4.out.trans (hal.mono HB4.out.size)
      have HX5 : Hid (Box3 (w4.alloc (.cells #[.int .i64 gs, .int .i64 gn, .slice ag mg cg] 31)) w.heap.size s n (.slice au m cu) ∧ Box3 (w4.alloc (.cells #[.int .i64 gs, .int .i64 gn, .slice ag mg cg] 31)) q5 gs gn (.slice ag mg cg)) := ⟨HX4.out.below hal, by rw [hq5]; exact Box3.made w4 gs gn _ _⟩
      have HGU5 : Hid (Ol (w4.alloc (.cells #[.int .i64 gs, .int .i64 gn, .slice ag mg cg] 31)) (.slice ag mg cg) gos) := HGU.out.below hal
      go_wp2_with fail
      rw [← hq5]
      clear hq5 hal
      generalize w4.alloc (.cells #[.int .i64 gs, .int .i64 gn, .slice ag mg cg] 31) = w5 at *
      refine (refGet_any _ b _ (HV.out.below HB5.out) (by have := HL.out; omega)).mono ?_
      rintro e w6 ⟨hb, hcase⟩
      have HB6 : Hid (Below w.heap.size w w6) := HB5.out.trans (hb.mono HB5.out.size)
      have HX6 : Hid (Box3 w6 w.heap.size s n (.slice au m cu) ∧ Box3 w6 q5 gs gn (.slice ag mg cg)) := ⟨HX5.out.1.below hb, HX5.out.2.below hb⟩
      have HGU6 : Hid (Ol w6 (.slice ag mg cg) gos) := HGU5.out.below hb
      clear hb
      obtain ⟨fu, K, rfl, hfu, hgk⟩ : ∃ fu K, e = .returned (.tuple #[.agg #[.int .i64 gs, .int .i64 gn, fu], .bool K]) ∧ Ol w6 fu gos ∧ ((K = true ∧ E = 0) ∨ (K = false ∧ E = 3)) := by
        rcases hcase with ⟨a, b', u', os2, he, hu, his⟩ | ⟨he, hno⟩
        · rcases HGC.out with ⟨h1, h2⟩ | ⟨_, _, _, _, h3⟩
          · obtain ⟨rfl, rfl, rfl⟩ := is_inj his h2
            exact ⟨u', true, he, hu, Or.inl ⟨rfl, h1⟩⟩
          · exact absurd his (h3 _ _ _)
        · rcases HGC.out with ⟨_, h2⟩ | ⟨h1, rfl, rfl, rfl, h3⟩
          · exact absurd h2 (hno _ _ _)
          · exact ⟨_, false, he, ⟨none, 0, 0, rfl, rfl, Nat.le_refl _, fun _ => rfl, fun j o h => by simp at h⟩, Or.inr ⟨rfl, h1⟩⟩
      have HFU : Hid (Ol w6 fu gos) := hfu
      have HGK : Hid ((K = true ∧ E = 0) ∨ (K = false ∧ E = 3)) := hgk
      clear hcase hfu hgk
      obtain ⟨af, mf, cf, rfl, hmg, hqg⟩ := HFU.out
      clear hmg hqg
      obtain ⟨q7, hq7⟩ : ∃ q, q = w6.heap.size := ⟨_, rfl⟩
      have hal : Below w6.heap.size w6 (w6.alloc (.cells #[.int .i64 gs, .int .i64 gn, .slice af mf cf] 39)) := (Below.refl _ w6).alloc (Nat.le_refl _) _
      have HB7 : Hid (Below w.heap.size w (w6.alloc (.cells #[.int .i64 gs, .int .i64 gn, .slice af mf cf] 39))) := HB6.out.trans (hal.mono HB6.out.size)
      have HX7 : Hid (Box3 (w6.alloc (.cells #[.int .i64 gs, .int .i64 gn, .slice af mf cf] 39)) w.heap.size s n (.slice au m cu) ∧ Box3 (w6.alloc (.cells #[.int .i64 gs, .int .i64 gn, .slice af mf cf] 39)) q5 gs gn (.slice ag mg cg) ∧ Box3 (w6.alloc (.cells #[.int .i64 gs, .int .i64 gn, .slice af mf cf] 39)) q7 gs gn (.slice af mf cf)) := ⟨HX6.out.1.below hal, HX6.out.2.below hal, by rw [hq7]; exact Box3.made w6 gs gn _ _⟩
      have HO7 : Hid (Ol (w6.alloc (.cells #[.int .i64 gs, .int .i64 gn, .slice af mf cf] 39)) (.slice ag mg cg) gos ∧ Ol (w6.alloc (.cells #[.int .i64 gs, .int .i64 gn, .slice af mf cf] 39)) (.slice af mf cf) gos) := ⟨HGU6.out.below hal, HFU.out.below hal⟩
      go_wp2
      rw [← hq7]
      clear hq7 hal
      generalize w6.alloc (.cells #[.int .i64 gs, .int .i64 gn, .slice af mf cf] 39) = w7 at *
      have HGL : Hid (gos.length ≤ maxLen) := by
        have h : gos.length ≤ maxLen := by
          unfold maxLen
          rcases HGC.out with ⟨_, h2⟩ | ⟨_, _, _, h3, _⟩
          · have := (may_sizes h2.1).2.2.2.1
            omega
          · rw [h3]
            simp
        exact h
      have HSN : Hid (Sane os) := by
        have h : Sane os := fun o ho => ⟨(HF.out.2 o ho).path, (HF.out.2 o ho).data⟩
        exact h
      have HB8 : Hid (Below w.heap.size w w7.drew) := HB7.out.drew
      have HX8 : Hid (Box3 w7.drew w.heap.size s n (.slice au m cu) ∧ Box3 w7.drew q5 gs gn (.slice ag mg cg) ∧ Box3 w7.drew q7 gs gn (.slice af mf cf)) := ⟨HX7.out.1.below (Below.refl _ w7).drew, HX7.out.2.1.below (Below.refl _ w7).drew, HX7.out.2.2.below (Below.refl _ w7).drew⟩
      have HO8 : Hid (Ol w7.drew (.slice ag mg cg) gos ∧ Ol w7.drew (.slice af mf cf) gos) := ⟨HO7.out.1.below (Below.refl _ w7).drew, HO7.out.2.below (Below.refl _ w7).drew⟩
      refine wp_region_held_drew (S := (S6 q5 w.heap.size q7 gs gn s n (.slice ag mg cg) (.slice au m cu) (.slice af mf cf))) (by kernel_rfl) (S6.of HX8.out.2.1 HX8.out.1 HX8.out.2.2) (fun hHeld => ?_)
      generalize w7.drew = w8 at *
      refine' take_at (i := 0) (d := 29) (v := _) rfl rfl (by kernel_rfl) (by kernel_rfl) (by kernel_rfl) (fun _ _ _ h => h) (Or.inl ⟨by rfl, ?h0⟩) (by assumption) ?_
      case h0 => intro w hSw; unfold S6 at hSw; go_simp; with_reducible rfl
      simp only [List.setIfInBounds_toArray, List.set_cons_zero, List.set_cons_succ]
      refine' take_at (i := 3) (d := 32) (v := _) rfl rfl (by kernel_rfl) (by kernel_rfl) (by kernel_rfl) (fun _ _ _ h => h) (Or.inl ⟨by rfl, ?h3⟩) (by assumption) ?_
      case h3 => intro w hSw; unfold S6 at hSw; go_simp; with_reducible rfl
      simp only [List.setIfInBounds_toArray, List.set_cons_zero, List.set_cons_succ]
      refine wpAnyH_ready (rs := [1]) (by kernel_rfl) (by simp) ?_
      refine AllReadyH.cons (o := _) rfl (fun K hK => ?_) AllReadyH.nil
      go_simp
      refine (HS.out.put s n _ os _ (HW.out.below HB8.out) (HU.out.below HB8.out) HF.out.1 HF.out.2).mono ?_
      rintro e wa ⟨vb, rfl, hbs, hb⟩
      obtain ⟨X, hX⟩ : ∃ X : ByteArray, X = ⟨(Oq.put s n os).toArray⟩ := ⟨_, rfl⟩
      have HXX : Hid (X = ⟨(Oq.put s n os).toArray⟩) := hX
      have HVa : Hid (Bs wa vb (Oq.put s n os)) := hbs
      have HBa : Hid (Below w.heap.size w wa) := HB8.out.trans (hb.mono HB8.out.size)
      have HXa : Hid (Box3 wa w.heap.size s n (.slice au m cu) ∧ Box3 wa q5 gs gn (.slice ag mg cg) ∧ Box3 wa q7 gs gn (.slice af mf cf)) := ⟨HX8.out.1.below hb, HX8.out.2.1.below hb, HX8.out.2.2.below hb⟩
      have HOa : Hid (Ol wa (.slice ag mg cg) gos ∧ Ol wa (.slice af mf cf) gos) := ⟨HO8.out.1.below hb, HO8.out.2.below hb⟩
      clear hbs hX
      clear hb
      simp only []
      refine hK.out _ _ (S6.of HXa.out.2.1 HXa.out.1 HXa.out.2.2) (fun hHeld2 => ?_)
      clear hK K hHeld
      have hS7 : (fun w' => S6 q5 w.heap.size q7 gs gn s n (.slice ag mg cg) (.slice au m cu) (.slice af mf cf) w' ∧ (convert 27 9 vb).run Tryz.prog w' = .ok (.string X) w') wa := ⟨S6.of HXa.out.2.1 HXa.out.1 HXa.out.2.2, by rw [HXX.out]; exact HVa.out.conv⟩
      refine wpAnyH_more (S' := (fun w' => S6 q5 w.heap.size q7 gs gn s n (.slice ag mg cg) (.slice au m cu) (.slice af mf cf) w' ∧ (convert 27 9 vb).run Tryz.prog w' = .ok (.string X) w')) (fun _ h => h.1) _ _ _ _ ?_
      refine' take_at (i := 2) (d := 31) (v := _) rfl rfl (by kernel_rfl) (by kernel_rfl) (by kernel_rfl) (fun _ _ _ h => h) (Or.inl ⟨by rfl, ?h2⟩) (by assumption) ?_
      case h2 => intro w hSw; unfold S6 at hSw; go_simp; with_reducible rfl
      simp only [List.setIfInBounds_toArray, List.set_cons_zero, List.set_cons_succ]
      refine wpAnyH_ready (rs := [4]) (by kernel_rfl) (by simp) ?_
      refine AllReadyH.cons (o := _) rfl (fun K hK => ?_) AllReadyH.nil
      go_simp
      refine (rq_any s n _ os _ (HU.out.below HBa.out)).mono ?_
      rintro e wb ⟨rfl, hb⟩
      have HVb : Hid (Bs wb vb (Oq.put s n os)) := HVa.out.below hb
      have HBb : Hid (Below w.heap.size w wb) := HBa.out.trans (hb.mono HBa.out.size)
      have HXb : Hid (Box3 wb w.heap.size s n (.slice au m cu) ∧ Box3 wb q5 gs gn (.slice ag mg cg) ∧ Box3 wb q7 gs gn (.slice af mf cf)) := ⟨HXa.out.1.below hb, HXa.out.2.1.below hb, HXa.out.2.2.below hb⟩
      have HOb : Hid (Ol wb (.slice ag mg cg) gos ∧ Ol wb (.slice af mf cf) gos) := ⟨HOa.out.1.below hb, HOa.out.2.below hb⟩
      clear hb
      simp only []
      refine hK.out _ _ ⟨S6.of HXb.out.2.1 HXb.out.1 HXb.out.2.2, by rw [HXX.out]; exact HVb.out.conv⟩ (fun hHeld => ?_)
      clear hK K hHeld2 hS7
      refine wpAnyH_ready (rs := [5]) (by kernel_rfl) (by simp) ?_
      refine AllReadyH.cons (o := _) rfl (fun K hK => ?_) AllReadyH.nil
      go_simp
      refine (refPut_any s n _ os _ (HU.out.below HBb.out) HSN.out).mono ?_
      rintro e wc ⟨vd, rfl, hbs, hb⟩
      have HVc : Hid (Bs wc vb (Oq.put s n os) ∧ Bs wc vd (Oq.put s n os)) := ⟨HVb.out.below hb, hbs⟩
      have HBc : Hid (Below w.heap.size w wc) := HBb.out.trans (hb.mono HBb.out.size)
      have HXc : Hid (Box3 wc w.heap.size s n (.slice au m cu) ∧ Box3 wc q5 gs gn (.slice ag mg cg) ∧ Box3 wc q7 gs gn (.slice af mf cf)) := ⟨HXb.out.1.below hb, HXb.out.2.1.below hb, HXb.out.2.2.below hb⟩
      have HOc : Hid (Ol wc (.slice ag mg cg) gos ∧ Ol wc (.slice af mf cf) gos) := ⟨HOb.out.1.below hb, HOb.out.2.below hb⟩
      clear hbs
      clear hb
      simp only []
      refine hK.out _ _ ⟨S6.of HXc.out.2.1 HXc.out.1 HXc.out.2.2, by rw [HXX.out]; exact HVc.out.1.conv⟩ (fun hHeld2 => ?_)
      clear hK K hHeld
      have hS8 : (fun w' => S6 q5 w.heap.size q7 gs gn s n (.slice ag mg cg) (.slice au m cu) (.slice af mf cf) w' ∧ (convert 27 9 vd).run Tryz.prog w' = .ok (.string X) w' ∧ (convert 27 9 vb).run Tryz.prog w' = .ok (.string X) w') wc := ⟨S6.of HXc.out.2.1 HXc.out.1 HXc.out.2.2, by rw [HXX.out]; exact HVc.out.2.conv, by rw [HXX.out]; exact HVc.out.1.conv⟩
      refine wpAnyH_more (S' := (fun w' => S6 q5 w.heap.size q7 gs gn s n (.slice ag mg cg) (.slice au m cu) (.slice af mf cf) w' ∧ (convert 27 9 vd).run Tryz.prog w' = .ok (.string X) w' ∧ (convert 27 9 vb).run Tryz.prog w' = .ok (.string X) w')) (fun _ h => ⟨h.1, h.2.2⟩) _ _ _ _ ?_
      refine' take_at (i := 6) (d := 35) (v := _) rfl rfl (by kernel_rfl) (by kernel_rfl) (by kernel_rfl) (fun _ _ _ h => h) (Or.inl ⟨by rfl, ?h6⟩) (by assumption) ?_
      case h6 => intro w hSw; unfold S6 at hSw; go_simp; with_reducible rfl
      simp only [List.setIfInBounds_toArray, List.set_cons_zero, List.set_cons_succ]
      obtain ⟨T, hT⟩ : ∃ T : Bool, (X.toList == X.toList) = T := ⟨_, rfl⟩
      have hT1 : T = true := by rw [← hT]; simp
      subst hT1
      refine' take_at (i := 7) (d := 36) (v := _) rfl rfl (by kernel_rfl) (by kernel_rfl) (by kernel_rfl) (fun _ _ _ h => h) (Or.inl ⟨by rfl, ?h7⟩) (by assumption) ?_
      case h7 => intro w hSw; unfold S6 at hSw; go_simp; with_reducible rfl
      simp only [List.setIfInBounds_toArray, List.set_cons_zero, List.set_cons_succ]
      refine' take_at (i := 8) (d := 37) (v := _) rfl rfl (by kernel_rfl) (by kernel_rfl) (by kernel_rfl) (fun _ _ _ h => h) (Or.inl ⟨by rfl, ?h8⟩) (by assumption) ?_
      case h8 => intro w hSw; unfold S6 at hSw; go_simp; with_reducible rfl
      simp only [List.setIfInBounds_toArray, List.set_cons_zero, List.set_cons_succ]
      rcases HGK.out with ⟨hk, he⟩ | ⟨hk, he⟩
      · subst hk
        subst he
        refine' take_at (i := 9) (d := 38) (v := _) rfl rfl (by kernel_rfl) (by kernel_rfl) (by kernel_rfl) (fun _ _ _ h => h) (Or.inl ⟨by rfl, ?h9⟩) (by assumption) ?_
        case h9 => intro w hSw; unfold S6 at hSw; go_simp; with_reducible rfl
        simp only [List.setIfInBounds_toArray, List.set_cons_zero, List.set_cons_succ]
        refine' take_at (i := 10) (d := 39) (v := _) rfl rfl (by kernel_rfl) (by kernel_rfl) (by kernel_rfl) (fun _ _ _ h => h) (Or.inl ⟨by rfl, ?h10⟩) (by assumption) ?_
        case h10 => intro w hSw; unfold S6 at hSw; go_simp; with_reducible rfl
        simp only [List.setIfInBounds_toArray, List.set_cons_zero, List.set_cons_succ]
        refine' take_at (i := 11) (d := 40) (v := _) rfl rfl (by kernel_rfl) (by kernel_rfl) (by kernel_rfl) (fun _ _ _ h => h) (Or.inl ⟨by rfl, ?h11⟩) (by assumption) ?_
        case h11 => intro w hSw; unfold S6 at hSw; go_simp; with_reducible rfl
        simp only [List.setIfInBounds_toArray, List.set_cons_zero, List.set_cons_succ]
        refine' take_at (i := 12) (d := 41) (v := _) rfl rfl (by kernel_rfl) (by kernel_rfl) (by kernel_rfl) (fun _ _ _ h => h) (Or.inl ⟨by rfl, ?h12⟩) (by assumption) ?_
        case h12 => intro w hSw; unfold S6 at hSw; go_simp; with_reducible rfl
        simp only [List.setIfInBounds_toArray, List.set_cons_zero, List.set_cons_succ]
        refine' take_at (i := 13) (d := 42) (v := _) rfl rfl (by kernel_rfl) (by kernel_rfl) (by kernel_rfl) (fun _ _ _ h => h) (Or.inl ⟨by rfl, ?h13⟩) (by assumption) ?_
        case h13 => intro w hSw; unfold S6 at hSw; go_simp; with_reducible rfl
        simp only [List.setIfInBounds_toArray, List.set_cons_zero, List.set_cons_succ]
        refine' take_at (i := 14) (d := 43) (v := _) rfl rfl (by kernel_rfl) (by kernel_rfl) (by kernel_rfl) (fun _ _ _ h => h) (Or.inl ⟨by rfl, ?h14⟩) (by assumption) ?_
        case h14 => intro w hSw; unfold S6 at hSw; go_simp; with_reducible rfl
        simp only [List.setIfInBounds_toArray, List.set_cons_zero, List.set_cons_succ]
        refine' take_at (i := 15) (d := 44) (v := _) rfl rfl (by kernel_rfl) (by kernel_rfl) (by kernel_rfl) (fun _ _ _ h => h) (Or.inl ⟨by rfl, ?h15⟩) (by assumption) ?_
        case h15 => intro w hSw; unfold S6 at hSw; go_simp; with_reducible rfl
        simp only [List.setIfInBounds_toArray, List.set_cons_zero, List.set_cons_succ]
        refine' take_at (i := 16) (d := 45) (v := _) rfl rfl (by kernel_rfl) (by kernel_rfl) (by kernel_rfl) (fun _ _ _ h => h) (Or.inl ⟨by rfl, ?h16⟩) (by assumption) ?_
        case h16 => intro w hSw; unfold S6 at hSw; go_simp; with_reducible rfl
        simp only [List.setIfInBounds_toArray, List.set_cons_zero, List.set_cons_succ]
        refine' take_at (i := 17) (d := 46) (v := undef) rfl rfl (by kernel_rfl) (by kernel_rfl) (by kernel_rfl) (fun _ _ _ h => h) (Or.inr ⟨by rfl, rfl⟩) (by assumption) ?_
        simp only [List.setIfInBounds_toArray, List.set_cons_zero, List.set_cons_succ]
        refine' take_at (i := 18) (d := 47) (v := undef) rfl rfl (by kernel_rfl) (by kernel_rfl) (by kernel_rfl) (fun _ _ _ h => h) (Or.inr ⟨by rfl, rfl⟩) (by assumption) ?_
        simp only [List.setIfInBounds_toArray, List.set_cons_zero, List.set_cons_succ]
        refine' take_at (i := 19) (d := 48) (v := _) rfl rfl (by kernel_rfl) (by kernel_rfl) (by kernel_rfl) (fun _ _ _ h => h) (Or.inl ⟨by rfl, ?h19⟩) (by assumption) ?_
        case h19 => intro w hSw; unfold S6 at hSw; go_simp; with_reducible rfl
        simp only [List.setIfInBounds_toArray, List.set_cons_zero, List.set_cons_succ]
        refine' take_at (i := 20) (d := 49) (v := _) rfl rfl (by kernel_rfl) (by kernel_rfl) (by kernel_rfl) (fun _ _ _ h => h) (Or.inl ⟨by rfl, ?h20⟩) (by assumption) ?_
        case h20 => intro w hSw; unfold S6 at hSw; go_simp; with_reducible rfl
        simp only [List.setIfInBounds_toArray, List.set_cons_zero, List.set_cons_succ]
        refine' take_at (i := 21) (d := 50) (v := _) rfl rfl (by kernel_rfl) (by kernel_rfl) (by kernel_rfl) (fun _ _ _ h => h) (Or.inl ⟨by rfl, ?h21⟩) (by assumption) ?_
        case h21 => intro w hSw; unfold S6 at hSw; go_simp; with_reducible rfl
        simp only [List.setIfInBounds_toArray, List.set_cons_zero, List.set_cons_succ]
        refine' take_at (i := 22) (d := 51) (v := _) rfl rfl (by kernel_rfl) (by kernel_rfl) (by kernel_rfl) (fun _ _ _ h => h) (Or.inl ⟨by rfl, ?h22⟩) (by assumption) ?_
        case h22 => intro w hSw; unfold S6 at hSw; go_simp; with_reducible rfl
        simp only [List.setIfInBounds_toArray, List.set_cons_zero, List.set_cons_succ]
        refine' take_at (i := 24) (d := 53) (v := _) rfl rfl (by kernel_rfl) (by kernel_rfl) (by kernel_rfl) (fun _ _ _ h => h) (Or.inl ⟨by rfl, ?h24⟩) (by assumption) ?_
        case h24 => intro w hSw; unfold S6 at hSw; go_simp; with_reducible rfl
        simp only [List.setIfInBounds_toArray, List.set_cons_zero, List.set_cons_succ]
        refine wpAnyH_ready (rs := [23]) (by kernel_rfl) (by simp) ?_
        refine AllReadyH.cons (o := _) rfl (fun K hK => ?_) AllReadyH.nil
        go_simp
        refine (rq_any gs gn _ gos _ HOc.out.1).mono ?_
        rintro e wd ⟨rfl, hb⟩
        have HVd : Hid (Bs wd vb (Oq.put s n os) ∧ Bs wd vd (Oq.put s n os)) := ⟨HVc.out.1.below hb, HVc.out.2.below hb⟩
        have HBd : Hid (Below w.heap.size w wd) := HBc.out.trans (hb.mono HBc.out.size)
        have HXd : Hid (Box3 wd w.heap.size s n (.slice au m cu) ∧ Box3 wd q5 gs gn (.slice ag mg cg) ∧ Box3 wd q7 gs gn (.slice af mf cf)) := ⟨HXc.out.1.below hb, HXc.out.2.1.below hb, HXc.out.2.2.below hb⟩
        have HOd : Hid (Ol wd (.slice ag mg cg) gos ∧ Ol wd (.slice af mf cf) gos) := ⟨HOc.out.1.below hb, HOc.out.2.below hb⟩
        clear hb
        simp only []
        refine hK.out _ _ ⟨S6.of HXd.out.2.1 HXd.out.1 HXd.out.2.2, by rw [HXX.out]; exact HVd.out.2.conv, by rw [HXX.out]; exact HVd.out.1.conv⟩ (fun hHeld => ?_)
        clear hK K hHeld2 hS8
        refine wpAnyH_ready (rs := [25]) (by kernel_rfl) (by simp) ?_
        refine AllReadyH.cons (o := _) rfl (fun K hK => ?_) AllReadyH.nil
        go_simp
        refine (refSameQ_any gs gn gs gn _ _ gos gos _ HOd.out.1 HOd.out.2 HGL.out).mono ?_
        rintro e we ⟨R, rfl, hR, hb⟩
        have hR1 : R = true := hR.2 ⟨rfl, rfl, rfl⟩
        subst hR1
        have HVe : Hid (Bs we vb (Oq.put s n os) ∧ Bs we vd (Oq.put s n os)) := ⟨HVd.out.1.below hb, HVd.out.2.below hb⟩
        have HBe : Hid (Below w.heap.size w we) := HBd.out.trans (hb.mono HBd.out.size)
        have HXe : Hid (Box3 we w.heap.size s n (.slice au m cu) ∧ Box3 we q5 gs gn (.slice ag mg cg) ∧ Box3 we q7 gs gn (.slice af mf cf)) := ⟨HXd.out.1.below hb, HXd.out.2.1.below hb, HXd.out.2.2.below hb⟩
        have HOe : Hid (Ol we (.slice ag mg cg) gos ∧ Ol we (.slice af mf cf) gos) := ⟨HOd.out.1.below hb, HOd.out.2.below hb⟩
        clear hR
        clear hb
        simp only []
        refine hK.out _ _ ⟨S6.of HXe.out.2.1 HXe.out.1 HXe.out.2.2, by rw [HXX.out]; exact HVe.out.2.conv, by rw [HXX.out]; exact HVe.out.1.conv⟩ (fun hHeld2 => ?_)
        clear hK K hHeld
        refine' take_at (i := 26) (d := 55) (v := _) rfl rfl (by kernel_rfl) (by kernel_rfl) (by kernel_rfl) (fun _ _ _ h => h) (Or.inl ⟨by rfl, ?h26⟩) (by assumption) ?_
        case h26 => intro w hSw; unfold S6 at hSw; go_simp; with_reducible rfl
        simp only [List.setIfInBounds_toArray, List.set_cons_zero, List.set_cons_succ]
        refine' take_at (i := 27) (d := 4) (v := _) rfl rfl (by kernel_rfl) (by kernel_rfl) (by kernel_rfl) (fun _ _ _ h => h) (Or.inl ⟨by rfl, ?h27⟩) (by assumption) ?_
        case h27 => intro w hSw; unfold S6 at hSw; go_simp; with_reducible rfl
        simp only [List.setIfInBounds_toArray, List.set_cons_zero, List.set_cons_succ]
        refine wpAnyH_done (by kernel_rfl) ?_ _
        clear hHeld2 hT
        go_wp2
        go_ret
        exact ⟨rfl, HBe.out⟩
      · subst hk
        subst he
        refine' take_at (i := 9) (d := 38) (v := _) rfl rfl (by kernel_rfl) (by kernel_rfl) (by kernel_rfl) (fun _ _ _ h => h) (Or.inl ⟨by rfl, ?h9⟩) (by assumption) ?_
        case h9 => intro w hSw; unfold S6 at hSw; go_simp; with_reducible rfl
        simp only [List.setIfInBounds_toArray, List.set_cons_zero, List.set_cons_succ]
        refine' take_at (i := 10) (d := 39) (v := _) rfl rfl (by kernel_rfl) (by kernel_rfl) (by kernel_rfl) (fun _ _ _ h => h) (Or.inl ⟨by rfl, ?h10⟩) (by assumption) ?_
        case h10 => intro w hSw; unfold S6 at hSw; go_simp; with_reducible rfl
        simp only [List.setIfInBounds_toArray, List.set_cons_zero, List.set_cons_succ]
        refine' take_at (i := 11) (d := 40) (v := _) rfl rfl (by kernel_rfl) (by kernel_rfl) (by kernel_rfl) (fun _ _ _ h => h) (Or.inl ⟨by rfl, ?h11⟩) (by assumption) ?_
        case h11 => intro w hSw; unfold S6 at hSw; go_simp; with_reducible rfl
        simp only [List.setIfInBounds_toArray, List.set_cons_zero, List.set_cons_succ]
        refine' take_at (i := 12) (d := 41) (v := _) rfl rfl (by kernel_rfl) (by kernel_rfl) (by kernel_rfl) (fun _ _ _ h => h) (Or.inl ⟨by rfl, ?h12⟩) (by assumption) ?_
        case h12 => intro w hSw; unfold S6 at hSw; go_simp; with_reducible rfl
        simp only [List.setIfInBounds_toArray, List.set_cons_zero, List.set_cons_succ]
        refine' take_at (i := 13) (d := 42) (v := _) rfl rfl (by kernel_rfl) (by kernel_rfl) (by kernel_rfl) (fun _ _ _ h => h) (Or.inl ⟨by rfl, ?h13⟩) (by assumption) ?_
        case h13 => intro w hSw; unfold S6 at hSw; go_simp; with_reducible rfl
        simp only [List.setIfInBounds_toArray, List.set_cons_zero, List.set_cons_succ]
        refine' take_at (i := 14) (d := 43) (v := _) rfl rfl (by kernel_rfl) (by kernel_rfl) (by kernel_rfl) (fun _ _ _ h => h) (Or.inl ⟨by rfl, ?h14⟩) (by assumption) ?_
        case h14 => intro w hSw; unfold S6 at hSw; go_simp; with_reducible rfl
        simp only [List.setIfInBounds_toArray, List.set_cons_zero, List.set_cons_succ]
        refine' take_at (i := 15) (d := 44) (v := _) rfl rfl (by kernel_rfl) (by kernel_rfl) (by kernel_rfl) (fun _ _ _ h => h) (Or.inl ⟨by rfl, ?h15⟩) (by assumption) ?_
        case h15 => intro w hSw; unfold S6 at hSw; go_simp; with_reducible rfl
        simp only [List.setIfInBounds_toArray, List.set_cons_zero, List.set_cons_succ]
        refine' take_at (i := 16) (d := 45) (v := _) rfl rfl (by kernel_rfl) (by kernel_rfl) (by kernel_rfl) (fun _ _ _ h => h) (Or.inl ⟨by rfl, ?h16⟩) (by assumption) ?_
        case h16 => intro w hSw; unfold S6 at hSw; go_simp; with_reducible rfl
        simp only [List.setIfInBounds_toArray, List.set_cons_zero, List.set_cons_succ]
        refine' take_at (i := 17) (d := 46) (v := _) rfl rfl (by kernel_rfl) (by kernel_rfl) (by kernel_rfl) (fun _ _ _ h => h) (Or.inl ⟨by rfl, ?h17⟩) (by assumption) ?_
        case h17 => intro w hSw; unfold S6 at hSw; go_simp; with_reducible rfl
        simp only [List.setIfInBounds_toArray, List.set_cons_zero, List.set_cons_succ]
        refine' take_at (i := 18) (d := 47) (v := _) rfl rfl (by kernel_rfl) (by kernel_rfl) (by kernel_rfl) (fun _ _ _ h => h) (Or.inl ⟨by rfl, ?h18⟩) (by assumption) ?_
        case h18 => intro w hSw; unfold S6 at hSw; go_simp; with_reducible rfl
        simp only [List.setIfInBounds_toArray, List.set_cons_zero, List.set_cons_succ]
        refine' take_at (i := 19) (d := 48) (v := _) rfl rfl (by kernel_rfl) (by kernel_rfl) (by kernel_rfl) (fun _ _ _ h => h) (Or.inl ⟨by rfl, ?h19⟩) (by assumption) ?_
        case h19 => intro w hSw; unfold S6 at hSw; go_simp; with_reducible rfl
        simp only [List.setIfInBounds_toArray, List.set_cons_zero, List.set_cons_succ]
        refine' take_at (i := 20) (d := 49) (v := _) rfl rfl (by kernel_rfl) (by kernel_rfl) (by kernel_rfl) (fun _ _ _ h => h) (Or.inl ⟨by rfl, ?h20⟩) (by assumption) ?_
        case h20 => intro w hSw; unfold S6 at hSw; go_simp; with_reducible rfl
        simp only [List.setIfInBounds_toArray, List.set_cons_zero, List.set_cons_succ]
        refine' take_at (i := 21) (d := 50) (v := _) rfl rfl (by kernel_rfl) (by kernel_rfl) (by kernel_rfl) (fun _ _ _ h => h) (Or.inl ⟨by rfl, ?h21⟩) (by assumption) ?_
        case h21 => intro w hSw; unfold S6 at hSw; go_simp; with_reducible rfl
        simp only [List.setIfInBounds_toArray, List.set_cons_zero, List.set_cons_succ]
        refine' take_at (i := 22) (d := 51) (v := _) rfl rfl (by kernel_rfl) (by kernel_rfl) (by kernel_rfl) (fun _ _ _ h => h) (Or.inl ⟨by rfl, ?h22⟩) (by assumption) ?_
        case h22 => intro w hSw; unfold S6 at hSw; go_simp; with_reducible rfl
        simp only [List.setIfInBounds_toArray, List.set_cons_zero, List.set_cons_succ]
        refine' take_at (i := 24) (d := 53) (v := _) rfl rfl (by kernel_rfl) (by kernel_rfl) (by kernel_rfl) (fun _ _ _ h => h) (Or.inl ⟨by rfl, ?h24⟩) (by assumption) ?_
        case h24 => intro w hSw; unfold S6 at hSw; go_simp; with_reducible rfl
        simp only [List.setIfInBounds_toArray, List.set_cons_zero, List.set_cons_succ]
        refine wpAnyH_ready (rs := [23]) (by kernel_rfl) (by simp) ?_
        refine AllReadyH.cons (o := _) rfl (fun K hK => ?_) AllReadyH.nil
        go_simp
        refine (rq_any gs gn _ gos _ HOc.out.1).mono ?_
        rintro e wd ⟨rfl, hb⟩
        have HVd : Hid (Bs wd vb (Oq.put s n os) ∧ Bs wd vd (Oq.put s n os)) := ⟨HVc.out.1.below hb, HVc.out.2.below hb⟩
        have HBd : Hid (Below w.heap.size w wd) := HBc.out.trans (hb.mono HBc.out.size)
        have HXd : Hid (Box3 wd w.heap.size s n (.slice au m cu) ∧ Box3 wd q5 gs gn (.slice ag mg cg) ∧ Box3 wd q7 gs gn (.slice af mf cf)) := ⟨HXc.out.1.below hb, HXc.out.2.1.below hb, HXc.out.2.2.below hb⟩
        have HOd : Hid (Ol wd (.slice ag mg cg) gos ∧ Ol wd (.slice af mf cf) gos) := ⟨HOc.out.1.below hb, HOc.out.2.below hb⟩
        clear hb
        simp only []
        refine hK.out _ _ ⟨S6.of HXd.out.2.1 HXd.out.1 HXd.out.2.2, by rw [HXX.out]; exact HVd.out.2.conv, by rw [HXX.out]; exact HVd.out.1.conv⟩ (fun hHeld => ?_)
        clear hK K hHeld2 hS8
        refine wpAnyH_ready (rs := [25]) (by kernel_rfl) (by simp) ?_
        refine AllReadyH.cons (o := _) rfl (fun K hK => ?_) AllReadyH.nil
        go_simp
        refine (refSameQ_any gs gn gs gn _ _ gos gos _ HOd.out.1 HOd.out.2 HGL.out).mono ?_
        rintro e we ⟨R, rfl, hR, hb⟩
        have hR1 : R = true := hR.2 ⟨rfl, rfl, rfl⟩
        subst hR1
        have HVe : Hid (Bs we vb (Oq.put s n os) ∧ Bs we vd (Oq.put s n os)) := ⟨HVd.out.1.below hb, HVd.out.2.below hb⟩
        have HBe : Hid (Below w.heap.size w we) := HBd.out.trans (hb.mono HBd.out.size)
        have HXe : Hid (Box3 we w.heap.size s n (.slice au m cu) ∧ Box3 we q5 gs gn (.slice ag mg cg) ∧ Box3 we q7 gs gn (.slice af mf cf)) := ⟨HXd.out.1.below hb, HXd.out.2.1.below hb, HXd.out.2.2.below hb⟩
        have HOe : Hid (Ol we (.slice ag mg cg) gos ∧ Ol we (.slice af mf cf) gos) := ⟨HOd.out.1.below hb, HOd.out.2.below hb⟩
        clear hR
        clear hb
        simp only []
        refine hK.out _ _ ⟨S6.of HXe.out.2.1 HXe.out.1 HXe.out.2.2, by rw [HXX.out]; exact HVe.out.2.conv, by rw [HXX.out]; exact HVe.out.1.conv⟩ (fun hHeld2 => ?_)
        clear hK K hHeld
        refine' take_at (i := 26) (d := 55) (v := _) rfl rfl (by kernel_rfl) (by kernel_rfl) (by kernel_rfl) (fun _ _ _ h => h) (Or.inl ⟨by rfl, ?h26⟩) (by assumption) ?_
        case h26 => intro w hSw; unfold S6 at hSw; go_simp; with_reducible rfl
        simp only [List.setIfInBounds_toArray, List.set_cons_zero, List.set_cons_succ]
        refine' take_at (i := 27) (d := 4) (v := _) rfl rfl (by kernel_rfl) (by kernel_rfl) (by kernel_rfl) (fun _ _ _ h => h) (Or.inl ⟨by rfl, ?h27⟩) (by assumption) ?_
        case h27 => intro w hSw; unfold S6 at hSw; go_simp; with_reducible rfl
        simp only [List.setIfInBounds_toArray, List.set_cons_zero, List.set_cons_succ]
        refine wpAnyH_done (by kernel_rfl) ?_ _
        clear hHeld2 hT
        go_wp2
        go_ret
        exact ⟨rfl, HBe.out⟩
end Go.Proofs.YtcpajjjkhikipaaGreatDoor
