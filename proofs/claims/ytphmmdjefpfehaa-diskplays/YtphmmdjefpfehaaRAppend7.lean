/- What the reference's Append answers. -/
import Derived.Test.YtphmmdjefpfehaaROps7
namespace Go.Proofs.Ytphmmdjefpfehaa
open Go.RowKit

set_option maxRecDepth 20000 in
set_option maxHeartbeats 8000000 in
theorem refAppend_any (q : Nat) (st : Dq.St) (G : Nat → Prop) (v : Value) (ps : List (Dq.Fl × Value)) (s : ByteArray) (vb : Value) (b : List UInt8) (w : World) (hR : RefC w q st G v ps) (hf : Fine st) (hs : s.size ≤ 9223372036854775807) (hb : Bs w vb b) (hbl : b.length ≤ 1000) :
    Calls Try.prog 21 #[dptr q, .string s, vb] w fun e w' => e = .returned (.int .i64 (Dq.append st s b).1) ∧ RefPost w q (Dq.append st s b).2 G w' := by
  have HR : Hid (RefC w q st G v ps ∧ Fine st) := ⟨hR, hf⟩
  have HBV : Hid (Bs w vb b ∧ b.length ≤ 1000) := ⟨hb, hbl⟩
  obtain ⟨avb, nvb, cvb, rfl, hnvb, hX⟩ := hb
  have HNV : Hid (nvb = b.length) := hnvb
  have hnv : nvb ≤ 1000 := by omega
  clear hX hnvb hbl
  obtain ⟨R, hRr⟩ : ∃ z, z = st.room := ⟨_, rfl⟩
  obtain ⟨Z, hZz⟩ : ∃ z, z = Dq.size st.fs := ⟨_, rfl⟩
  have hRZ : Z ≤ R ∧ R ≤ 1048576 := by rw [hRr, hZz]; exact ⟨hf.1.fits, hf.1.room.2⟩
  have HRZ : Hid (R = st.room ∧ Z = Dq.size st.fs) := ⟨hRr, hZz⟩
  have hc0 := hR.c0
  rw [← hRr] at hc0
  clear hRr hZz
  have hsub : IntKind.wrap .i64 ((R : Int) - (Z : Int)) = (R : Int) - (Z : Int) := by rw [IntKind.wrap_i64]; omega
  rcases Dq.err_cases st s with ⟨e, h1⟩ | ⟨e, h1, h2⟩ | ⟨e, h1, h2, h3⟩ | ⟨e, h1, h2, f, h3⟩
  · have HZ : Hid (askZ st s = -1 ∧ Dq.err st s = 10) := ⟨by unfold askZ; rw [e]; rfl, e⟩
    have HX : Hid (Dq.append st s b = (10, st)) := by
      have h : Dq.append st s b = (10, st) := by unfold Dq.append; rw [e]; simp
      exact h
    rw [HX.out]
    clear hR hf e h1 hc0
    go_enter Try.func21, Try.ntmps21
    go_wp2_with fail
    refine (ask_any q st G _ ps s _ HR.out.1 (by have := HR.out.2.2.1; omega) hs).mono ?_
    rintro e w1 ⟨rfl, hw⟩
    rw [hw, HZ.out.1, HZ.out.2]
    clear hw
    go_wp2
    go_ret
    exact ⟨rfl, _, _, _, HR.out.1, Moved.refl _ _⟩
  · have HZ : Hid (askZ st s = -1 ∧ Dq.err st s = 1) := ⟨by unfold askZ; rw [e]; rfl, e⟩
    have HX : Hid (Dq.append st s b = (1, st)) := by
      have h : Dq.append st s b = (1, st) := by unfold Dq.append; rw [e]; simp
      exact h
    rw [HX.out]
    clear hR hf e h1 h2 hc0
    go_enter Try.func21, Try.ntmps21
    go_wp2_with fail
    refine (ask_any q st G _ ps s _ HR.out.1 (by have := HR.out.2.2.1; omega) hs).mono ?_
    rintro e w1 ⟨rfl, hw⟩
    rw [hw, HZ.out.1, HZ.out.2]
    clear hw
    go_wp2
    go_ret
    exact ⟨rfl, _, _, _, HR.out.1, Moved.refl _ _⟩
  · have HZ : Hid (askZ st s = -1 ∧ Dq.err st s = 4) := ⟨by unfold askZ; rw [e]; rfl, e⟩
    clear hR hf e h1 h2 h3
    by_cases hbig : R < Z + nvb
    · have hbig' : (R : Int) - (Z : Int) < (nvb : Int) := by omega
      have HX : Hid (Dq.append st s b = (9, st)) := by
        have h : Dq.append st s b = (9, st) := by unfold Dq.append; rw [HZ.out.2, ← HRZ.out.1, ← HRZ.out.2, ← HNV.out]; simp [hbig]
        exact h
      rw [HX.out]
      go_enter Try.func21, Try.ntmps21
      go_wp2_with fail
      refine (ask_any q st G _ ps s _ HR.out.1 (by have := HR.out.2.2.1; omega) hs).mono ?_
      rintro e w1 ⟨rfl, hw⟩
      rw [hw, HZ.out.1, HZ.out.2]
      clear hw
      go_wp2
      go_quiet (first
        | (go_at_call 39; refine Calls.quiet_of_same (v := .int .i64 (Z : Int)) ?_; rw [HRZ.out.2]; exact refSize_any q st G _ ps _ (HR.out.1.below (below_drewN (Below.refl _ _) _)) HR.out.2))
      clear hc0
      go_wp2
      go_ret
      exact ⟨rfl, _, _, _, HR.out.1.below (below_drewN (Below.refl _ _) _), Moved.of_below G (below_drewN (Below.refl _ _) _)⟩
    have hbig' : ¬ (R : Int) - (Z : Int) < (nvb : Int) := by omega
    have HX : Hid (Dq.append st s b = (0, { st with fs := Dq.lay ⟨s, b, 0⟩ st.fs })) := by
      have h : Dq.append st s b = (0, { st with fs := Dq.lay ⟨s, b, 0⟩ st.fs }) := by unfold Dq.append; rw [HZ.out.2, ← HRZ.out.1, ← HRZ.out.2, ← HNV.out]; simp [hbig]
      exact h
    rw [HX.out]
    clear hbig
    go_enter Try.func21, Try.ntmps21
    go_wp2_with fail
    refine (ask_any q st G _ ps s _ HR.out.1 (by have := HR.out.2.2.1; omega) hs).mono ?_
    rintro e w1 ⟨rfl, hw⟩
    rw [hw, HZ.out.1, HZ.out.2]
    clear hw
    go_wp2
    go_quiet (first
      | (go_at_call 39; refine Calls.quiet_of_same (v := .int .i64 (Z : Int)) ?_; rw [HRZ.out.2]; exact refSize_any q st G _ ps _ (HR.out.1.below (below_drewN (Below.refl _ _) _)) HR.out.2))
    clear hc0
    have HRD : Hid (RefC (w.drewN nq) q st G v ps ∧ Moved w (w.drewN nq) G G ∧ Bs (w.drewN nq) (.slice avb nvb cvb) b) := ⟨HR.out.1.below (below_drewN (Below.refl _ _) _), Moved.of_below G (below_drewN (Below.refl _ _) _), HBV.out.1.below (below_drewN (Below.refl _ _) _)⟩
    generalize w.drewN nq = wD at *
    obtain ⟨vb2, hvb2⟩ : ∃ z, z = Value.slice avb nvb cvb := ⟨_, rfl⟩
    rw [← hvb2] at HRD ⊢
    clear hvb2
    go_wp2_with (at_builtin; refine append_copy rfl _ _ rfl vb2 b wD rfl rfl HRD.out.2.2 (by have := HBV.out.2; omega) ?_)
    intro v1 w1 hown hbw
    obtain ⟨G1, hG1⟩ : ∃ G1 : Nat → Prop, G1 = Gx wD w1 G := ⟨_, rfl⟩
    have HL1 : Hid (RefC w1 q st G1 v ps ∧ w1.ownsRow (q + 1) 5 1 v1 b.length (bc b) ∧ (∀ k, v1.ownBlock = some k → G1 k) ∧ Moved w w1 G G1) := by
      have hs := hbw.size
      have hq := HRD.out.1.lt
      refine ⟨(HRD.out.1.below hbw).more (fun k hk => by rw [hG1]; exact Or.inl hk) (fun k hk => ?_), hown.mono (by omega), fun k hk => by rw [hG1]; exact Or.inr (hown.lt k hk), ?_⟩
      · rw [hG1] at hk
        rcases hk with hk | hk
        · exact Nat.lt_of_lt_of_le (HRD.out.1.glt k hk) hs
        · exact hk.2
      · refine HRD.out.2.1.trans ⟨hbw.os, hbw.tape, hbw.output, hs, fun k hk _ => hbw.block k hk, fun k hk => ?_⟩
        rw [hG1] at hk
        rcases hk with hk | hk
        · exact Or.inl hk
        · exact Or.inr hk.1
    obtain ⟨a1, m1, c1, rfl⟩ := slice_own hown
    clear hown hbw hG1
    go_wp2_with fail
    refine (refLay_any q st G1 v ps ⟨s, b, 0⟩ (.slice a1 m1 c1) _ HL1.out.1 (by have := HR.out.2.2.1; omega) HL1.out.2.1 HL1.out.2.2.1).mono ?_
    rintro e w2 ⟨G2, v2, ps2, rfl, hr, hm⟩
    have HFIN : Hid (RefPost w q { st with fs := Dq.lay ⟨s, b, 0⟩ st.fs } G w2) := ⟨_, _, _, hr, HL1.out.2.2.2.trans hm⟩
    clear hr hm
    go_wp2
    go_ret
    exact ⟨rfl, HFIN.out⟩
  · obtain ⟨i, g, n, cap, nb, cb, ab, rfl, hpk⟩ := hR.pick hf.1.rises (by have := hf.2.1; omega) h3
    have HK : Hid (Picked w q st G ps s f i g n cap nb cb ab) := hpk
    have HZ : Hid (askZ st s = (i : Int) ∧ Dq.err st s = 0) := ⟨by unfold askZ; rw [e, if_pos rfl]; exact hpk.at_, e⟩
    have hi1 : (0 : Int) ≤ (i : Int) := by omega
    have hi2 : (i : Int) < (n : Int) := by have := hpk.lt; omega
    have hi3 : ¬ (i : Int) < 0 := by omega
    clear hR hf e h1 h2 h3 hpk
    by_cases hbig : R < Z + nvb
    · have hbig' : (R : Int) - (Z : Int) < (nvb : Int) := by omega
      have HX : Hid (Dq.append st s b = (9, st)) := by
        have h : Dq.append st s b = (9, st) := by unfold Dq.append; rw [HZ.out.2, ← HRZ.out.1, ← HRZ.out.2, ← HNV.out]; simp [hbig]
        exact h
      rw [HX.out]
      go_enter Try.func21, Try.ntmps21
      go_wp2_with fail
      refine (ask_any q st G _ ps s _ HR.out.1 (by have := HR.out.2.2.1; omega) hs).mono ?_
      rintro e w1 ⟨rfl, hw⟩
      rw [hw, HZ.out.1, HZ.out.2]
      clear hw
      go_wp2
      go_quiet (first
        | (go_at_call 39; refine Calls.quiet_of_same (v := .int .i64 (Z : Int)) ?_; rw [HRZ.out.2]; exact refSize_any q st G _ ps _ (HR.out.1.below (below_drewN (Below.refl _ _) _)) HR.out.2))
      clear hc0
      go_wp2
      go_ret
      exact ⟨rfl, _, _, _, HR.out.1.below (below_drewN (Below.refl _ _) _), Moved.of_below G (below_drewN (Below.refl _ _) _)⟩
    have hbig' : ¬ (R : Int) - (Z : Int) < (nvb : Int) := by omega
    have HX : Hid (Dq.append st s b = (0, { st with fs := Dq.upd s (fun f => { f with b := f.b ++ b }) st.fs })) := by
      have h : Dq.append st s b = (0, { st with fs := Dq.upd s (fun f => { f with b := f.b ++ b }) st.fs }) := by unfold Dq.append; rw [HZ.out.2, ← HRZ.out.1, ← HRZ.out.2, ← HNV.out]; simp [hbig]
      exact h
    rw [HX.out]
    clear hbig
    have HFB : Hid (f.b.length ≤ 1048576) := by
      have h : f.b.length ≤ 1048576 := by
        have h1 := Dq.size_upd (g := fun f => { f with b := [] }) HR.out.2.1.rises (s := s) (f := f) (by
          have h2 := HK.out.at_
          have h3 := HR.out.1.file HK.out.p
          cases e : Dq.get s st.fs with
          | none => rw [(Dq.at_none e).1] at h2; omega
          | some f2 =>
            obtain ⟨j, h4, _, h5⟩ := Dq.at_some e
            have : j = i := by omega
            subst this
            rw [h3] at h5
            exact h5.symm)
        have h2 := HR.out.2.1.fits
        have h3 := HR.out.2.1.room.2
        simp only [List.length_nil] at h1
        omega
      exact h
    go_enter Try.func21, Try.ntmps21
    go_wp2_with fail
    refine (ask_any q st G _ ps s _ HR.out.1 (by have := HR.out.2.2.1; omega) hs).mono ?_
    rintro e w1 ⟨rfl, hw⟩
    rw [hw, HZ.out.1, HZ.out.2]
    clear hw
    go_wp2
    go_quiet (first
      | (go_at_call 39; refine Calls.quiet_of_same (v := .int .i64 (Z : Int)) ?_; rw [HRZ.out.2]; exact refSize_any q st G _ ps _ (HR.out.1.below (below_drewN (Below.refl _ _) _)) HR.out.2))
    clear hc0
    go_wp2_with fail
    refine wp_region_T (fun w' => w'.cell? ⟨q, 1, none⟩ = some (.slice (some ⟨g, 0, none⟩) n cap) ∧ w'.cell? ⟨g, i * 3 + 1, none⟩ = some (.slice ab nb cb)) 19 (by kernel_rfl) ?_
    have HRX : Hid (RefC (w.drewN nq).drew q st G (.slice (some ⟨g, 0, none⟩) n cap) ps) := HR.out.1.below ((below_drewN (Below.refl _ _) _).drew)
    have HKX : Hid (Picked (w.drewN nq).drew q st G ps s f i g n cap nb cb ab) := HK.out.below ((below_drewN (Below.refl _ _) _).drew)
    have HMX : Hid (Moved w (w.drewN nq).drew G G) := Moved.of_below G ((below_drewN (Below.refl _ _) _).drew)
    have HBX : Hid (Bs (w.drewN nq).drew (.slice avb nvb cvb) b) := HBV.out.1.below (below_drewN (Below.refl _ _) _).drew
    generalize (w.drewN nq).drew = wX at *
    have HSB : Hid (∀ w', Below wX.heap.size wX w' → w'.cell? ⟨q, 1, none⟩ = some (.slice (some ⟨g, 0, none⟩) n cap) ∧ w'.cell? ⟨g, i * 3 + 1, none⟩ = some (.slice ab nb cb)) := fun w' hb => ⟨Below.kept hb HRX.out.c1, Below.kept hb HKX.out.f1⟩
    have HSX : Hid (wX.cell? ⟨q, 1, none⟩ = some (.slice (some ⟨g, 0, none⟩) n cap) ∧ wX.cell? ⟨g, i * 3 + 1, none⟩ = some (.slice ab nb cb)) := HSB.out _ (Below.refl _ _)
    refine' take_T (i := 0) (d := 41) (v := _) rfl rfl (by kernel_rfl) (by kernel_rfl) (by kernel_rfl) (by kernel_rfl) (by kernel_rfl) (fun _ _ _ h => h) (Or.inl ⟨by rfl, ?h0⟩) HSX.out ?_
    case h0 => intro w hSw; go_simp; with_reducible rfl
    simp only [List.setIfInBounds_toArray, List.set_cons_zero, List.set_cons_succ]
    refine' take_T (i := 1) (d := 42) (v := _) rfl rfl (by kernel_rfl) (by kernel_rfl) (by kernel_rfl) (by kernel_rfl) (by kernel_rfl) (fun _ _ _ h => h) (Or.inl ⟨by rfl, ?h1⟩) HSX.out ?_
    case h1 => intro w hSw; go_simp; with_reducible rfl
    simp only [List.setIfInBounds_toArray, List.set_cons_zero, List.set_cons_succ]
    refine' take_T (i := 2) (d := 43) (v := _) rfl rfl (by kernel_rfl) (by kernel_rfl) (by kernel_rfl) (by kernel_rfl) (by kernel_rfl) (fun _ _ _ h => h) (Or.inl ⟨by rfl, ?h2⟩) HSX.out ?_
    case h2 => intro w hSw; go_simp; with_reducible rfl
    simp only [List.setIfInBounds_toArray, List.set_cons_zero, List.set_cons_succ]
    refine' take_T (i := 3) (d := 44) (v := _) rfl rfl (by kernel_rfl) (by kernel_rfl) (by kernel_rfl) (by kernel_rfl) (by kernel_rfl) (fun _ _ _ h => h) (Or.inl ⟨by rfl, ?h3⟩) HSX.out ?_
    case h3 => intro w hSw; obtain ⟨hs1, hs2⟩ := hSw; go_simp; with_reducible rfl
    simp only [List.setIfInBounds_toArray, List.set_cons_zero, List.set_cons_succ]
    refine' take_T (i := 4) (d := 45) (v := _) rfl rfl (by kernel_rfl) (by kernel_rfl) (by kernel_rfl) (by kernel_rfl) (by kernel_rfl) (fun _ _ _ h => h) (Or.inl ⟨by rfl, ?h4⟩) HSX.out ?_
    case h4 => intro w hSw; go_simp; with_reducible rfl
    simp only [List.setIfInBounds_toArray, List.set_cons_zero, List.set_cons_succ]
    refine' take_T (i := 6) (d := 47) (v := _) rfl rfl (by kernel_rfl) (by kernel_rfl) (by kernel_rfl) (by kernel_rfl) (by kernel_rfl) (fun _ _ _ h => h) (Or.inl ⟨by rfl, ?h6⟩) HSX.out ?_
    case h6 => intro w hSw; go_simp; with_reducible rfl
    simp only [List.setIfInBounds_toArray, List.set_cons_zero, List.set_cons_succ]
    refine' take_T (i := 7) (d := 48) (v := _) rfl rfl (by kernel_rfl) (by kernel_rfl) (by kernel_rfl) (by kernel_rfl) (by kernel_rfl) (fun _ _ _ h => h) (Or.inl ⟨by rfl, ?h7⟩) HSX.out ?_
    case h7 => intro w hSw; go_simp; with_reducible rfl
    simp only [List.setIfInBounds_toArray, List.set_cons_zero, List.set_cons_succ]
    refine' take_T (i := 8) (d := 49) (v := _) rfl rfl (by kernel_rfl) (by kernel_rfl) (by kernel_rfl) (by kernel_rfl) (by kernel_rfl) (fun _ _ _ h => h) (Or.inl ⟨by rfl, ?h8⟩) HSX.out ?_
    case h8 => intro w hSw; go_simp; with_reducible rfl
    simp only [List.setIfInBounds_toArray, List.set_cons_zero, List.set_cons_succ]
    refine' take_T (i := 9) (d := 50) (v := _) rfl rfl (by kernel_rfl) (by kernel_rfl) (by kernel_rfl) (by kernel_rfl) (by kernel_rfl) (fun _ _ _ h => h) (Or.inl ⟨by rfl, ?h9⟩) HSX.out ?_
    case h9 => intro w hSw; obtain ⟨hs1, hs2⟩ := hSw; go_simp; with_reducible rfl
    simp only [List.setIfInBounds_toArray, List.set_cons_zero, List.set_cons_succ]
    refine' take_T (i := 10) (d := 51) (v := _) rfl rfl (by kernel_rfl) (by kernel_rfl) (by kernel_rfl) (by kernel_rfl) (by kernel_rfl) (fun _ _ _ h => h) (Or.inl ⟨by rfl, ?h10⟩) HSX.out ?_
    case h10 => intro w hSw; go_simp; with_reducible rfl
    simp only [List.setIfInBounds_toArray, List.set_cons_zero, List.set_cons_succ]
    refine' take_T (i := 11) (d := 52) (v := _) rfl rfl (by kernel_rfl) (by kernel_rfl) (by kernel_rfl) (by kernel_rfl) (by kernel_rfl) (fun _ _ _ h => h) (Or.inl ⟨by rfl, ?h11⟩) HSX.out ?_
    case h11 => intro w hSw; go_simp; with_reducible rfl
    simp only [List.setIfInBounds_toArray, List.set_cons_zero, List.set_cons_succ]
    refine' take_T (i := 12) (d := 53) (v := _) rfl rfl (by kernel_rfl) (by kernel_rfl) (by kernel_rfl) (by kernel_rfl) (by kernel_rfl) (fun _ _ _ h => h) (Or.inl ⟨by rfl, ?h12⟩) HSX.out ?_
    case h12 => intro w hSw; go_simp; with_reducible rfl
    simp only [List.setIfInBounds_toArray, List.set_cons_zero, List.set_cons_succ]
    refine' take_T (i := 13) (d := 54) (v := _) rfl rfl (by kernel_rfl) (by kernel_rfl) (by kernel_rfl) (by kernel_rfl) (by kernel_rfl) (fun _ _ _ h => h) (Or.inl ⟨by rfl, ?h13⟩) HSX.out ?_
    case h13 => intro w hSw; obtain ⟨hs1, hs2⟩ := hSw; go_simp; with_reducible rfl
    simp only [List.setIfInBounds_toArray, List.set_cons_zero, List.set_cons_succ]
    refine' take_T (i := 15) (d := 56) (v := _) rfl rfl (by kernel_rfl) (by kernel_rfl) (by kernel_rfl) (by kernel_rfl) (by kernel_rfl) (fun _ _ _ h => h) (Or.inl ⟨by rfl, ?h15⟩) HSX.out ?_
    case h15 => intro w hSw; go_simp; with_reducible rfl
    simp only [List.setIfInBounds_toArray, List.set_cons_zero, List.set_cons_succ]
    refine wpAnyT_ready (rs := [5]) (by kernel_rfl) (by simp) ?_
    refine AllReadyT.cons (o := _) rfl (fun K hK => ?_) AllReadyT.nil
    go_simp
    obtain ⟨q0, hqq⟩ : ∃ z, z = wX.heap.size := ⟨_, rfl⟩
    rw [← hqq]
    have HB1 : Hid (Below wX.heap.size wX (wX.alloc (.cells #[] 5))) := (Below.refl _ wX).alloc (Nat.le_refl _) _
    have HO1 : Hid ((wX.alloc (.cells #[] 5)).ownsRow wX.heap.size 5 1 (.slice (some ⟨q0, 0, none⟩) 0 0) ([] : List UInt8).length (bc [])) := by rw [hqq]; exact World.ownsRow_made wX #[] 0 (Nat.le_refl _) (by decide) rfl
    clear hqq
    generalize wX.alloc (.cells #[] 5) = wY1 at *
    refine hK.out _ _ (fun _ => (HSB.out _ HB1.out)) ?_
    clear hK K
    refine wpAnyT_ready (rs := [14]) (by kernel_rfl) (by simp) ?_
    refine AllReadyT.cons (o := _) rfl (fun K hK => ?_) AllReadyT.nil
    refine wp_bs _ _ rfl wX.heap.size (.slice (some ⟨q0, 0, none⟩) 0 0) (.slice ab nb cb) ([] : List UInt8) f.b wY1 rfl rfl HO1.out HB1.out.size (HKX.out.bs.below HB1.out) (by have := HFB.out; simp only [List.length_nil]; omega) ?_
    intro v2 wY2 ho hg
    have HO2 : Hid (wY2.ownsRow wX.heap.size 5 1 v2 (([] : List UInt8) ++ f.b).length (bc (([] : List UInt8) ++ f.b))) := ho
    have HB2 : Hid (Below wX.heap.size wX wY2) := HB1.out.grown hg HB1.out.size (fun z hz => (HO1.out.lt z hz).1)
    obtain ⟨a2, m2, c2, rfl⟩ := slice_own ho
    clear ho hg
    go_simp
    refine hK.out _ _ (fun _ => (HSB.out _ HB2.out)) ?_
    clear hK K
    refine wpAnyT_ready (rs := [16]) (by kernel_rfl) (by simp) ?_
    refine AllReadyT.cons (o := _) rfl (fun K hK => ?_) AllReadyT.nil
    refine wp_bs _ _ rfl wX.heap.size (.slice a2 m2 c2) (.slice avb nvb cvb) (([] : List UInt8) ++ f.b) b wY2 rfl rfl HO2.out HB2.out.size (HBX.out.below HB2.out) (by have := HFB.out; have := HBV.out.2; simp only [List.length_nil, List.length_append]; omega) ?_
    intro v3 wY3 ho hg
    have HO3 : Hid (wY3.ownsRow wX.heap.size 5 1 v3 ((([] : List UInt8) ++ f.b) ++ b).length (bc ((([] : List UInt8) ++ f.b) ++ b))) := ho
    have HB3 : Hid (Below wX.heap.size wX wY3) := HB2.out.grown hg HB2.out.size (fun z hz => (HO2.out.lt z hz).1)
    obtain ⟨a3, m3, c3, rfl⟩ := slice_own ho
    clear ho hg
    go_simp
    refine hK.out _ _ (fun _ => (HSB.out _ HB3.out)) ?_
    clear hK K
    refine' take_T (i := 17) (d := 58) (v := _) rfl rfl (by kernel_rfl) (by kernel_rfl) (by kernel_rfl) (by kernel_rfl) (by kernel_rfl) (fun _ _ _ h => h) (Or.inl ⟨by rfl, ?h17⟩) (HSB.out _ HB3.out) ?_
    case h17 => intro w hSw; go_simp; with_reducible rfl
    simp only [List.setIfInBounds_toArray, List.set_cons_zero, List.set_cons_succ]
    refine' take_T (i := 18) (d := 59) (v := _) rfl rfl (by kernel_rfl) (by kernel_rfl) (by kernel_rfl) (by kernel_rfl) (by kernel_rfl) (fun _ _ _ h => h) (Or.inl ⟨by rfl, ?h18⟩) (HSB.out _ HB3.out) ?_
    case h18 => intro w hSw; go_simp; with_reducible rfl
    simp only [List.setIfInBounds_toArray, List.set_cons_zero, List.set_cons_succ]
    refine wpAnyT_ready (rs := [19]) (by kernel_rfl) (by simp) ?_
    refine AllReadyT.cons (o := _) rfl (fun K hK => ?_) AllReadyT.nil
    have HKZ : Hid (Picked wY3 q st G ps s f i g n cap nb cb ab) := HKX.out.below HB3.out
    have hc := HKZ.out.f1
    have hz := HKZ.out.fz (i * 3 + 1)
    have HFIN : Hid (RefPost w q { st with fs := Dq.upd s (fun f => { f with b := f.b ++ b }) st.fs } G (wY3.setCell ⟨g, i * 3 + 1, none⟩ (.slice a3 m3 c3))) := by
      obtain ⟨h1, h2⟩ := HRX.out.put (p' := ({ f with b := f.b ++ b }, .slice a3 m3 c3)) (j := 1) (u := .slice a3 m3 c3) HKX.out.en HKX.out.p HB3.out (by decide) rfl (by have h := HO3.out.mono (show q + 1 ≤ wX.heap.size from HRX.out.lt); simpa using h) (fun k hk => Or.inr (HO3.out.lt k hk).1)
      exact ⟨_, _, _, h1.as (by rw [HKX.out.set HRX.out (fun f => { f with b := f.b ++ b })]), HMX.out.trans h2⟩
    go_simp
    clear hc hz
    refine hK.out _ _ (fun h => absurd rfl h) ?_
    clear hK K
    refine wpAnyT_done (by kernel_rfl) ?_ _
    generalize wY3.setCell ⟨g, i * 3 + 1, none⟩ (.slice a3 m3 c3) = wz at *
    go_wp2
    go_ret
    exact ⟨rfl, HFIN.out⟩

end Go.Proofs.Ytphmmdjefpfehaa
