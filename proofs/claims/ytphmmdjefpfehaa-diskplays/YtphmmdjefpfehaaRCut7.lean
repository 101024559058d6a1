/- What the reference's Cut answers. -/
import Derived.Test.YtphmmdjefpfehaaROps7
namespace Go.Proofs.Ytphmmdjefpfehaa
open Go.RowKit

theorem Bs.room {w : World} {a : Option Addr} {n c : Nat} {xs : List UInt8} (h : Bs w (.slice a n c) xs) : n ≤ c := by
  obtain ⟨a', n', c', hv, hn, hs⟩ := h
  simp only [Value.slice.injEq] at hv
  obtain ⟨rfl, rfl, rfl⟩ := hv
  rw [hn]
  exact hs.cap

set_option maxRecDepth 20000 in
set_option maxHeartbeats 8000000 in
theorem refCut_any (q : Nat) (st : Dq.St) (G : Nat → Prop) (v : Value) (ps : List (Dq.Fl × Value)) (s : ByteArray) (nn : Int) (w : World) (hR : RefC w q st G v ps) (hf : Fine st) (hs : s.size ≤ 9223372036854775807) :
    Calls Try.prog 23 #[dptr q, .string s, .int .i64 nn] w fun e w' => e = .returned (.int .i64 (Dq.cut st s nn).1) ∧ RefPost w q (Dq.cut st s nn).2 G w' := by
  have HR : Hid (RefC w q st G v ps ∧ Fine st) := ⟨hR, hf⟩
  rcases Dq.err_cases st s with ⟨e, h1⟩ | ⟨e, h1, h2⟩ | ⟨e, h1, h2, h3⟩ | ⟨e, h1, h2, f, h3⟩
  · have HZ : Hid (askZ st s = -1 ∧ Dq.err st s = 10) := ⟨by unfold askZ; rw [e]; rfl, e⟩
    have HX : Hid (Dq.cut st s nn = (10, st)) := by
      have h : Dq.cut st s nn = (10, st) := by unfold Dq.cut; rw [e]; simp
      exact h
    rw [HX.out]
    clear hR hf e h1
    go_enter Try.func23, Try.ntmps23
    go_wp2_with fail
    refine (ask_any q st G _ ps s _ HR.out.1 (by have := HR.out.2.2.1; omega) hs).mono ?_
    rintro e w1 ⟨rfl, hw⟩
    rw [hw, HZ.out.1, HZ.out.2]
    clear hw
    go_wp2
    go_ret
    exact ⟨rfl, _, _, _, HR.out.1, Moved.refl _ _⟩
  · have HZ : Hid (askZ st s = -1 ∧ Dq.err st s = 1) := ⟨by unfold askZ; rw [e]; rfl, e⟩
    have HX : Hid (Dq.cut st s nn = (1, st)) := by
      have h : Dq.cut st s nn = (1, st) := by unfold Dq.cut; rw [e]; simp
      exact h
    rw [HX.out]
    clear hR hf e h1 h2
    go_enter Try.func23, Try.ntmps23
    go_wp2_with fail
    refine (ask_any q st G _ ps s _ HR.out.1 (by have := HR.out.2.2.1; omega) hs).mono ?_
    rintro e w1 ⟨rfl, hw⟩
    rw [hw, HZ.out.1, HZ.out.2]
    clear hw
    go_wp2
    go_ret
    exact ⟨rfl, _, _, _, HR.out.1, Moved.refl _ _⟩
  · have HZ : Hid (askZ st s = -1 ∧ Dq.err st s = 4) := ⟨by unfold askZ; rw [e]; rfl, e⟩
    have HX : Hid (Dq.cut st s nn = (4, st)) := by
      have h : Dq.cut st s nn = (4, st) := by unfold Dq.cut; rw [e]; simp
      exact h
    rw [HX.out]
    clear hR hf e h1 h2 h3
    go_enter Try.func23, Try.ntmps23
    go_wp2_with fail
    refine (ask_any q st G _ ps s _ HR.out.1 (by have := HR.out.2.2.1; omega) hs).mono ?_
    rintro e w1 ⟨rfl, hw⟩
    rw [hw, HZ.out.1, HZ.out.2]
    clear hw
    go_wp2
    go_ret
    exact ⟨rfl, _, _, _, HR.out.1, Moved.refl _ _⟩
  · obtain ⟨i, g, n, cap, nb, cb, ab, rfl, hpk⟩ := hR.pick hf.1.rises (by have := hf.2.1; omega) h3
    have HK : Hid (Picked w q st G ps s f i g n cap nb cb ab) := hpk
    have HZ : Hid (askZ st s = (i : Int) ∧ Dq.err st s = 0) := ⟨by unfold askZ; rw [e, if_pos rfl]; exact hpk.at_, e⟩
    have hi1 : (0 : Int) ≤ (i : Int) := by omega
    have hi2 : (i : Int) < (n : Int) := by have := hpk.lt; omega
    have HGT : Hid (Dq.get s st.fs = some f) := h3
    have hnc : nb ≤ cb := hpk.bs.room
    clear hR hf e h1 h2 h3 hpk
    have hc1 := HR.out.1.c1
    have hf1 := HK.out.f1
    by_cases hneg : nn < 0
    · have HX : Hid (Dq.cut st s nn = (1, st)) := by
        have h : Dq.cut st s nn = (1, st) := by unfold Dq.cut; rw [HZ.out.2, if_pos rfl, HGT.out, if_pos (by simp only [Option.map_some, Option.getD_some]; rw [← HK.out.enb]; omega)]
        exact h
      rw [HX.out]
      go_enter Try.func23, Try.ntmps23
      go_wp2_with fail
      refine (ask_any q st G _ ps s _ HR.out.1 (by have := HR.out.2.2.1; omega) hs).mono ?_
      rintro e w1 ⟨rfl, hw⟩
      rw [hw, HZ.out.1, HZ.out.2]
      clear hw
      go_wp2
      go_ret
      exact ⟨rfl, _, _, _, HR.out.1, Moved.refl _ _⟩
    by_cases hbig : (nb : Int) < nn
    · have HX : Hid (Dq.cut st s nn = (1, st)) := by
        have h : Dq.cut st s nn = (1, st) := by unfold Dq.cut; rw [HZ.out.2, if_pos rfl, HGT.out, if_pos (by simp only [Option.map_some, Option.getD_some]; rw [← HK.out.enb]; omega)]
        exact h
      rw [HX.out]
      go_enter Try.func23, Try.ntmps23
      go_wp2_with fail
      refine (ask_any q st G _ ps s _ HR.out.1 (by have := HR.out.2.2.1; omega) hs).mono ?_
      rintro e w1 ⟨rfl, hw⟩
      rw [hw, HZ.out.1, HZ.out.2]
      clear hw
      go_wp2
      go_ret
      exact ⟨rfl, _, _, _, HR.out.1, Moved.refl _ _⟩
    obtain ⟨m, rfl⟩ : ∃ m : Nat, nn = (m : Int) := ⟨nn.toNat, by omega⟩
    have hm : m ≤ nb := by omega
    have hm1 : (0 : Int) ≤ (m : Int) := by omega
    have hm2 : (m : Int) ≤ (cb : Int) := by omega
    have HX : Hid (Dq.cut st s (m : Int) = (0, { st with fs := Dq.upd s (fun f => { f with b := f.b.take m, safe := min f.safe m }) st.fs })) := by
      have h : Dq.cut st s (m : Int) = (0, { st with fs := Dq.upd s (fun f => { f with b := f.b.take m, safe := min f.safe m }) st.fs }) := by
        unfold Dq.cut
        rw [HZ.out.2, if_pos rfl, HGT.out, if_neg (by simp only [Option.map_some, Option.getD_some]; rw [← HK.out.enb]; omega), Int.toNat_natCast]
      exact h
    rw [HX.out]
    have HFB : Hid (f.b.length ≤ 1048576) := by
      have h : f.b.length ≤ 1048576 := by
        have h1 := Dq.size_upd (g := fun f => { f with b := [] }) HR.out.2.1.rises HGT.out
        have h2 := HR.out.2.1.fits
        have h3 := HR.out.2.1.room.2
        simp only [List.length_nil] at h1
        omega
      exact h
    go_enter Try.func23, Try.ntmps23
    go_wp2_with fail
    refine (ask_any q st G _ ps s _ HR.out.1 (by have := HR.out.2.2.1; omega) hs).mono ?_
    rintro e w1 ⟨rfl, hw⟩
    rw [hw, HZ.out.1, HZ.out.2]
    clear hw
    go_wp2_with fail
    refine wp_region_T (fun w' => w'.cell? ⟨q, 1, none⟩ = some (.slice (some ⟨g, 0, none⟩) n cap) ∧ w'.cell? ⟨g, i * 3 + 1, none⟩ = some (.slice ab nb cb)) 19 (by kernel_rfl) ?_
    clear hc1 hf1
    have HRX : Hid (RefC w.drew q st G (.slice (some ⟨g, 0, none⟩) n cap) ps) := HR.out.1.below ((Below.refl _ _).drew)
    have HKX : Hid (Picked w.drew q st G ps s f i g n cap nb cb ab) := HK.out.below ((Below.refl _ _).drew)
    have HMX : Hid (Moved w w.drew G G) := Moved.of_below G ((Below.refl _ _).drew)
    generalize w.drew = wX at *
    have HSB : Hid (∀ w', Below wX.heap.size wX w' → w'.cell? ⟨q, 1, none⟩ = some (.slice (some ⟨g, 0, none⟩) n cap) ∧ w'.cell? ⟨g, i * 3 + 1, none⟩ = some (.slice ab nb cb)) := fun w' hb => ⟨Below.kept hb HRX.out.c1, Below.kept hb HKX.out.f1⟩
    have HSX : Hid (wX.cell? ⟨q, 1, none⟩ = some (.slice (some ⟨g, 0, none⟩) n cap) ∧ wX.cell? ⟨g, i * 3 + 1, none⟩ = some (.slice ab nb cb)) := HSB.out _ (Below.refl _ _)
    refine' take_T (i := 0) (d := 33) (v := _) rfl rfl (by kernel_rfl) (by kernel_rfl) (by kernel_rfl) (by kernel_rfl) (by kernel_rfl) (fun _ _ _ h => h) (Or.inl ⟨by rfl, ?h0⟩) HSX.out ?_
    case h0 => intro w hSw; go_simp; with_reducible rfl
    simp only [List.setIfInBounds_toArray, List.set_cons_zero, List.set_cons_succ]
    refine' take_T (i := 1) (d := 34) (v := _) rfl rfl (by kernel_rfl) (by kernel_rfl) (by kernel_rfl) (by kernel_rfl) (by kernel_rfl) (fun _ _ _ h => h) (Or.inl ⟨by rfl, ?h1⟩) HSX.out ?_
    case h1 => intro w hSw; go_simp; with_reducible rfl
    simp only [List.setIfInBounds_toArray, List.set_cons_zero, List.set_cons_succ]
    refine' take_T (i := 2) (d := 35) (v := _) rfl rfl (by kernel_rfl) (by kernel_rfl) (by kernel_rfl) (by kernel_rfl) (by kernel_rfl) (fun _ _ _ h => h) (Or.inl ⟨by rfl, ?h2⟩) HSX.out ?_
    case h2 => intro w hSw; go_simp; with_reducible rfl
    simp only [List.setIfInBounds_toArray, List.set_cons_zero, List.set_cons_succ]
    refine' take_T (i := 3) (d := 36) (v := _) rfl rfl (by kernel_rfl) (by kernel_rfl) (by kernel_rfl) (by kernel_rfl) (by kernel_rfl) (fun _ _ _ h => h) (Or.inl ⟨by rfl, ?h3⟩) HSX.out ?_
    case h3 => intro w hSw; obtain ⟨hs1, hs2⟩ := hSw; go_simp; with_reducible rfl
    simp only [List.setIfInBounds_toArray, List.set_cons_zero, List.set_cons_succ]
    refine' take_T (i := 4) (d := 37) (v := _) rfl rfl (by kernel_rfl) (by kernel_rfl) (by kernel_rfl) (by kernel_rfl) (by kernel_rfl) (fun _ _ _ h => h) (Or.inl ⟨by rfl, ?h4⟩) HSX.out ?_
    case h4 => intro w hSw; go_simp; with_reducible rfl
    simp only [List.setIfInBounds_toArray, List.set_cons_zero, List.set_cons_succ]
    refine' take_T (i := 6) (d := 39) (v := _) rfl rfl (by kernel_rfl) (by kernel_rfl) (by kernel_rfl) (by kernel_rfl) (by kernel_rfl) (fun _ _ _ h => h) (Or.inl ⟨by rfl, ?h6⟩) HSX.out ?_
    case h6 => intro w hSw; go_simp; with_reducible rfl
    simp only [List.setIfInBounds_toArray, List.set_cons_zero, List.set_cons_succ]
    refine' take_T (i := 7) (d := 40) (v := _) rfl rfl (by kernel_rfl) (by kernel_rfl) (by kernel_rfl) (by kernel_rfl) (by kernel_rfl) (fun _ _ _ h => h) (Or.inl ⟨by rfl, ?h7⟩) HSX.out ?_
    case h7 => intro w hSw; go_simp; with_reducible rfl
    simp only [List.setIfInBounds_toArray, List.set_cons_zero, List.set_cons_succ]
    refine' take_T (i := 8) (d := 41) (v := _) rfl rfl (by kernel_rfl) (by kernel_rfl) (by kernel_rfl) (by kernel_rfl) (by kernel_rfl) (fun _ _ _ h => h) (Or.inl ⟨by rfl, ?h8⟩) HSX.out ?_
    case h8 => intro w hSw; go_simp; with_reducible rfl
    simp only [List.setIfInBounds_toArray, List.set_cons_zero, List.set_cons_succ]
    refine' take_T (i := 9) (d := 42) (v := _) rfl rfl (by kernel_rfl) (by kernel_rfl) (by kernel_rfl) (by kernel_rfl) (by kernel_rfl) (fun _ _ _ h => h) (Or.inl ⟨by rfl, ?h9⟩) HSX.out ?_
    case h9 => intro w hSw; obtain ⟨hs1, hs2⟩ := hSw; go_simp; with_reducible rfl
    simp only [List.setIfInBounds_toArray, List.set_cons_zero, List.set_cons_succ]
    refine' take_T (i := 10) (d := 43) (v := _) rfl rfl (by kernel_rfl) (by kernel_rfl) (by kernel_rfl) (by kernel_rfl) (by kernel_rfl) (fun _ _ _ h => h) (Or.inl ⟨by rfl, ?h10⟩) HSX.out ?_
    case h10 => intro w hSw; go_simp; with_reducible rfl
    simp only [List.setIfInBounds_toArray, List.set_cons_zero, List.set_cons_succ]
    refine' take_T (i := 11) (d := 44) (v := _) rfl rfl (by kernel_rfl) (by kernel_rfl) (by kernel_rfl) (by kernel_rfl) (by kernel_rfl) (fun _ _ _ h => h) (Or.inl ⟨by rfl, ?h11⟩) HSX.out ?_
    case h11 => intro w hSw; go_simp; with_reducible rfl
    simp only [List.setIfInBounds_toArray, List.set_cons_zero, List.set_cons_succ]
    refine' take_T (i := 12) (d := 45) (v := _) rfl rfl (by kernel_rfl) (by kernel_rfl) (by kernel_rfl) (by kernel_rfl) (by kernel_rfl) (fun _ _ _ h => h) (Or.inl ⟨by rfl, ?h12⟩) HSX.out ?_
    case h12 => intro w hSw; go_simp; with_reducible rfl
    simp only [List.setIfInBounds_toArray, List.set_cons_zero, List.set_cons_succ]
    refine' take_T (i := 13) (d := 46) (v := _) rfl rfl (by kernel_rfl) (by kernel_rfl) (by kernel_rfl) (by kernel_rfl) (by kernel_rfl) (fun _ _ _ h => h) (Or.inl ⟨by rfl, ?h13⟩) HSX.out ?_
    case h13 => intro w hSw; obtain ⟨hs1, hs2⟩ := hSw; go_simp; with_reducible rfl
    simp only [List.setIfInBounds_toArray, List.set_cons_zero, List.set_cons_succ]
    refine' take_T (i := 14) (d := 47) (v := _) rfl rfl (by kernel_rfl) (by kernel_rfl) (by kernel_rfl) (by kernel_rfl) (by kernel_rfl) (fun _ _ _ h => h) (Or.inl ⟨by rfl, ?h14⟩) HSX.out ?_
    case h14 => intro w hSw; go_simp; with_reducible rfl
    simp only [List.setIfInBounds_toArray, List.set_cons_zero, List.set_cons_succ]
    refine' take_T (i := 15) (d := 48) (v := _) rfl rfl (by kernel_rfl) (by kernel_rfl) (by kernel_rfl) (by kernel_rfl) (by kernel_rfl) (fun _ _ _ h => h) (Or.inl ⟨by rfl, ?h15⟩) HSX.out ?_
    case h15 => intro w hSw; go_simp; with_reducible rfl
    simp only [List.setIfInBounds_toArray, List.set_cons_zero, List.set_cons_succ]
    refine wpAnyT_ready (rs := [5]) (by kernel_rfl) (by simp) ?_
    refine AllReadyT.cons (o := _) rfl (fun K hK => ?_) AllReadyT.nil
    go_simp
    obtain ⟨q0, hqq⟩ : ∃ z, z = wX.heap.size := ⟨_, rfl⟩
    rw [← hqq]
    have HB1 : Hid (Below wX.heap.size wX (wX.alloc (.cells #[] 5))) := (Below.refl _ wX).alloc (Nat.le_refl _) _
    have HO1 : Hid ((wX.alloc (.cells #[] 5)).ownsRow wX.heap.size 5 1 (.slice (some ⟨q0, 0, none⟩) 0 0) ([] : List UInt8).length (bc [])) := by rw [hqq]; exact World.ownsRow_made wX #[] 0 (Nat.le_refl _) (by decide) rfl
    clear hqq
    generalize wX.alloc (.cells #[] 5) = wY1 at *
    refine hK.out _ _ (fun _ => (HSB.out _ HB1.out)) ?_
    clear hK K
    refine wpAnyT_ready (rs := [16]) (by kernel_rfl) (by simp) ?_
    refine AllReadyT.cons (o := _) rfl (fun K hK => ?_) AllReadyT.nil
    refine wp_bs _ _ rfl wX.heap.size (.slice (some ⟨q0, 0, none⟩) 0 0) (.slice ab m cb) ([] : List UInt8) (f.b.take m) wY1 rfl rfl HO1.out HB1.out.size ((HKX.out.bs.cut (k := m) hm).below HB1.out) (by have := HFB.out; simp only [List.length_nil, List.length_take]; omega) ?_
    intro v2 wY2 ho hg
    have HO2 : Hid (wY2.ownsRow wX.heap.size 5 1 v2 (([] : List UInt8) ++ (f.b.take m)).length (bc (([] : List UInt8) ++ (f.b.take m)))) := ho
    have HB2 : Hid (Below wX.heap.size wX wY2) := HB1.out.grown hg HB1.out.size (fun z hz => (HO1.out.lt z hz).1)
    obtain ⟨a2, m2, c2, rfl⟩ := slice_own ho
    clear ho hg
    go_simp
    refine hK.out _ _ (fun _ => (HSB.out _ HB2.out)) ?_
    clear hK K
    refine' take_T (i := 17) (d := 50) (v := _) rfl rfl (by kernel_rfl) (by kernel_rfl) (by kernel_rfl) (by kernel_rfl) (by kernel_rfl) (fun _ _ _ h => h) (Or.inl ⟨by rfl, ?h17⟩) (HSB.out _ HB2.out) ?_
    case h17 => intro w hSw; go_simp; with_reducible rfl
    simp only [List.setIfInBounds_toArray, List.set_cons_zero, List.set_cons_succ]
    refine' take_T (i := 18) (d := 51) (v := _) rfl rfl (by kernel_rfl) (by kernel_rfl) (by kernel_rfl) (by kernel_rfl) (by kernel_rfl) (fun _ _ _ h => h) (Or.inl ⟨by rfl, ?h18⟩) (HSB.out _ HB2.out) ?_
    case h18 => intro w hSw; go_simp; with_reducible rfl
    simp only [List.setIfInBounds_toArray, List.set_cons_zero, List.set_cons_succ]
    refine wpAnyT_ready (rs := [19]) (by kernel_rfl) (by simp) ?_
    refine AllReadyT.cons (o := _) rfl (fun K hK => ?_) AllReadyT.nil
    have HKZ : Hid (Picked wY2 q st G ps s f i g n cap nb cb ab) := HKX.out.below HB2.out
    have hc := HKZ.out.f1
    have hz := HKZ.out.fz (i * 3 + 1)
    have HR2 : Hid (RefC (wY2.setCell ⟨g, i * 3 + 1, none⟩ (.slice a2 m2 c2)) q { st with fs := (ps.set i ({ f with b := f.b.take m }, Value.slice a2 m2 c2)).map (·.1) } (Gx wX wY2 G) (.slice (some ⟨g, 0, none⟩) n cap) (ps.set i ({ f with b := f.b.take m }, .slice a2 m2 c2)) ∧ Moved w (wY2.setCell ⟨g, i * 3 + 1, none⟩ (.slice a2 m2 c2)) G (Gx wX wY2 G)) := by
      obtain ⟨h1, h2⟩ := HRX.out.put (p' := ({ f with b := f.b.take m }, .slice a2 m2 c2)) (j := 1) (u := .slice a2 m2 c2) HKX.out.en HKX.out.p HB2.out (by decide) rfl (by have h := HO2.out.mono (show q + 1 ≤ wX.heap.size from HRX.out.lt); simpa using h) (fun k hk => Or.inr (HO2.out.lt k hk).1)
      exact ⟨h1, HMX.out.trans h2⟩
    have HEQ : Hid (∀ u : Value, (ps.set i ({ f with b := f.b.take m, safe := min f.safe m }, u)).map (·.1) = Dq.upd s (fun f => { f with b := f.b.take m, safe := min f.safe m }) st.fs) := fun u => HKX.out.set HRX.out (fun f => { f with b := f.b.take m, safe := min f.safe m }) u
    go_simp
    clear hc hz
    refine hK.out _ _ (fun h => absurd rfl h) ?_
    clear hK K
    refine wpAnyT_done (by kernel_rfl) ?_ _
    have HP2 : Hid ((ps.set i ({ f with b := f.b.take m }, Value.slice a2 m2 c2))[i]? = some ({ f with b := f.b.take m }, .slice a2 m2 c2)) := by
      have h : (ps.set i ({ f with b := f.b.take m }, Value.slice a2 m2 c2))[i]? = some ({ f with b := f.b.take m }, .slice a2 m2 c2) := by
        rw [List.getElem?_set, if_pos rfl, if_pos (by rw [← HKX.out.en]; exact HKX.out.lt)]
      exact h
    generalize wY2.setCell ⟨g, i * 3 + 1, none⟩ (.slice a2 m2 c2) = wz at *
    obtain ⟨g', cap', hv', _, _, _, f0, f1, f2, fz⟩ := HR2.out.1.fo.cell HP2.out
    simp only [Value.slice.injEq, Option.some.injEq, Addr.mk.injEq, and_true] at hv'
    obtain ⟨rfl, hq2, rfl⟩ := hv'
    simp only [] at f0 f1 f2
    have hc1 := HR2.out.1.c1
    have fz2 := fz (i * 3 + 2)
    clear fz hq2
    by_cases hsafe : m < f.safe
    · have hsafe' : (m : Int) < (f.safe : Int) := by omega
      have HFIN : Hid (RefPost w q { st with fs := Dq.upd s (fun f => { f with b := f.b.take m, safe := min f.safe m }) st.fs } G (wz.setCell ⟨g, i * 3 + 2, none⟩ (.int .i64 (m : Int)))) := by
        have hn : n = (ps.set i ({ f with b := f.b.take m }, Value.slice a2 m2 c2)).length := by rw [List.length_set]; exact HKX.out.en
        obtain ⟨h1, h2⟩ := HR2.out.1.put (p' := ({ f with b := f.b.take m, safe := min f.safe m }, .slice a2 m2 c2)) (j := 2) (u := .int .i64 (m : Int)) hn HP2.out (Below.refl _ _) (by decide) (by simp only [fc]; rw [show min f.safe m = m by omega]; rfl) (by have h := HR2.out.1.fo.bytes _ (List.mem_of_getElem? HP2.out); exact h) (fun k hk => Or.inl (by have h := HR2.out.1.gb _ (List.mem_of_getElem? HP2.out) k hk; exact h))
        rw [List.set_set] at h1
        exact ⟨_, _, _, h1.as (by rw [HEQ.out]), HR2.out.2.trans h2⟩
      go_wp2
      clear hc1 f0 f1 f2 fz2
      generalize wz.setCell ⟨g, i * 3 + 2, none⟩ (.int .i64 (m : Int)) = wq at *
      go_ret
      exact ⟨rfl, HFIN.out⟩
    · have hsafe' : ¬ (m : Int) < (f.safe : Int) := by omega
      have HFIN : Hid (RefPost w q { st with fs := Dq.upd s (fun f => { f with b := f.b.take m, safe := min f.safe m }) st.fs } G wz) := by
        refine ⟨_, _, _, HR2.out.1.as ?_, HR2.out.2⟩
        rw [← HEQ.out (.slice a2 m2 c2), show min f.safe m = f.safe by omega]
      go_wp2
      go_ret
      exact ⟨rfl, HFIN.out⟩

end Go.Proofs.Ytphmmdjefpfehaa
