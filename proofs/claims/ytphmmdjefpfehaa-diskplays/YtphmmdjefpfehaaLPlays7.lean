/- What DiskPlays answers. -/
import Derived.Test.YtphmmdjefpfehaaActs7
import Derived.Deep.DeepCutAuto
namespace Go.Proofs.Ytphmmdjefpfehaa
open Go.RowKit

/-- Both disks behind k calls. -/
structure PlayS (LD : Rep) (W w : World) (q qr k : Nat) (st : Dq.St) (F G : Nat → Prop) (v : Value) (ps : List (Dq.Fl × Value)) : Prop where
  t : Two7 LD W w q qr st st F G v ps
  few : Few7 st k

set_option maxRecDepth 20000 in
set_option maxHeartbeats 16000000 in
theorem plays_any7 {LD : Rep} (S : Specs7 LD) (room : Int) (vl : Value) (acs : List Ac) (W : World) (hl : Acl W vl acs) (hll : acs.length ≤ maxLen) (hfit : ∀ a ∈ acs, AcFit a) :
    Calls Try.prog 4 #[.int .i64 room, vl] W fun e w' => e = .returned (.bool true) ∧ Below W.heap.size W w' := by
  have HS : Hid (Specs7 LD) := S
  have HL : Hid (Acl W vl acs ∧ ∀ a ∈ acs, AcFit a) := ⟨hl, hfit⟩
  obtain ⟨al, n, cl, rfl, hn, hX⟩ := hl
  have HN : Hid (n = acs.length) := hn
  have hn1 : n ≤ 9223372036854775807 := by unfold maxLen at hll; omega
  clear S hX hn hll hfit
  go_enter Try.func4, Try.ntmps4
  go_wp2_with fail
  refine (awake_any7 HS.out W).mono ?_
  rintro e w0 ⟨rfl, hb⟩
  have B0 : Hid (Below W.heap.size W w0) := hb
  clear hb
  by_cases hroom : room < 64 ∨ 1048576 < room
  · go_wp2_with fail
    refine (mine_none HS.out B0.out room hroom).mono ?_
    rintro e w1 ⟨rfl, hb⟩
    have B1 : Hid (Below W.heap.size W w1) := hb
    clear hb
    rcases hroom with h1 | h1
    · go_wp2
      go_ret
      exact ⟨rfl, B1.out⟩
    · by_cases h0 : room < 64
      · go_wp2
        go_ret
        exact ⟨rfl, B1.out⟩
      · go_wp2
        go_ret
        exact ⟨rfl, B1.out⟩
  have hr1 : ¬ room < 64 := fun h => hroom (Or.inl h)
  have hr2 : ¬ 1048576 < room := fun h => hroom (Or.inr h)
  obtain ⟨R, rfl⟩ : ∃ z : Nat, room = (z : Int) := ⟨room.toNat, by omega⟩
  clear hroom
  go_wp2_with fail
  refine (mine_new HS.out B0.out R (by omega)).mono ?_
  rintro e w1 ⟨q, F1, rfl, hM⟩
  have M1 : Hid (Mine LD W w1 q ⟨R, [], false, 1⟩ F1) := hM
  clear hM
  by_cases h80 : 80 < n
  · have h80' : (80 : Int) < (n : Int) := by omega
    go_wp2
    go_ret
    exact ⟨rfl, M1.out.below⟩
  have h80' : ¬ (80 : Int) < (n : Int) := by omega
  obtain ⟨qr, hqr⟩ : ∃ z, z = w1.heap.size := ⟨_, rfl⟩
  have HP1 : Hid (PlayS LD W (w1.alloc (.cells #[.int .i64 (R : Int), .slice none 0 0, .bool false, .int .i64 1] 42)) q qr 0 ⟨R, [], false, 1⟩ F1 (fun k => k = w1.heap.size) (.slice none 0 0) []) := by
    have hb : Below w1.heap.size w1 (w1.alloc (.cells #[.int .i64 (R : Int), .slice none 0 0, .bool false, .int .i64 1] 42)) := (Below.refl _ w1).alloc (Nat.le_refl _) _
    have hm := M1.out.later HS.out hb
    refine ⟨⟨hm.ld, by rw [hqr]; exact ref_new R _, hm.fine, hm.fine, fun k hk hG => ?_, hm.hi, fun k hk => ?_, hm.below⟩, ⟨Nat.le_refl _, Nat.le_refl _, hm.fine⟩⟩
    · have := HS.out.lt M1.out.ld hk
      omega
    · have := M1.out.below.size
      omega
  go_upto_region 9 with fail
  rw [← hqr]
  clear hqr
  generalize w1.alloc (.cells #[.int .i64 (R : Int), .slice none 0 0, .bool false, .int .i64 1] 42) = w2 at *
  go_wp2
  go_loopw [8] (fun i wr => ∃ (k : Nat) (st : Dq.St) (F G : Nat → Prop) (v : Value) (ps : List (Dq.Fl × Value)), k ≤ n ∧ i = .int .i64 (k : Int) ∧ PlayS LD W wr q qr k st F G v ps) (fun i _ => ((n : Int) - intOf i).toNat)
  case atStart => exact ⟨0, _, _, _, _, _, Nat.zero_le _, rfl, HP1.out⟩
  case round =>
    obtain ⟨k, st, F, G, v, ps, hk, rfl, hps⟩ := hrel
    have HP : Hid (PlayS LD W wr q qr k st F G v ps) := hps
    clear hps
    by_cases hlt : k < n
    · have hlt' : (k : Int) < (n : Int) := by omega
      have hk0 : (0 : Int) ≤ (k : Int) := by omega
      have hkl : k < acs.length := by rw [← HN.out]; exact hlt
      obtain ⟨av, kv, cv, hv, hkv, _, _, hcs⟩ := HL.out.1
      obtain ⟨g, b, bv, hal, hbx, hcell⟩ := hcs k acs[k] (List.getElem?_eq_getElem hkl)
      have hfa := HL.out.2 _ (List.getElem_mem hkl)
      simp only [Value.slice.injEq] at hv
      obtain ⟨rfl, hq2, rfl⟩ := hv
      subst hal
      generalize acs[k] = a at *
      clear hcs hkv hkl hq2
      have HBX : Hid (Bs W bv a.b ∧ AcFit a) := ⟨hbx, hfa⟩
      obtain ⟨ab, nb, cb, rfl, hnb, hY⟩ := hbx
      have HNB : Hid (nb = a.b.length) := hnb
      have hnb1 : nb ≤ 9223372036854775807 := by have := hfa.b; unfold maxLen at this; omega
      have hs1 := hfa.s
      have ht1 := hfa.t
      have HCL : Hid (∀ (i : Nat) u, (acc a (.slice ab nb cb))[i]? = some u → wr.cell? ⟨g, b + (k * 5 + i), none⟩ = some u) := fun i u hu => Below.kept HP.out.t.below (hcell i u hu)
      clear hY hnb hfa hcell
      have e0 := HCL.out 0 _ rfl
      have e1 := HCL.out 1 _ rfl
      have e2 := HCL.out 2 _ rfl
      have e3 := HCL.out 3 _ rfl
      have e4 := HCL.out 4 _ rfl
      simp only [← Nat.add_assoc, Nat.add_zero] at e0 e1 e2 e3 e4
      obtain ⟨qx, hqx⟩ : ∃ z, z = wr.heap.size := ⟨_, rfl⟩
      have HA0 : Hid (ActS LD W (wr.alloc (.cells #[.int .i64 a.op, .int .i64 a.n, .string a.s, .string a.t, .slice ab nb cb] 44)) q qr qx st st F G v ps a (.slice ab nb cb)) := by
        have hb : Below wr.heap.size wr (wr.alloc (.cells #[.int .i64 a.op, .int .i64 a.n, .string a.s, .string a.t, .slice ab nb cb] 44)) := (Below.refl _ wr).alloc (Nat.le_refl _) _
        refine ⟨HP.out.t.later HS.out hb, by rw [hqx]; exact BoxA.made wr a _ _, fun h => ?_, fun h => ?_⟩
        · have := HS.out.lt HP.out.t.ld h
          omega
        · have := HP.out.t.rd.glt qx h
          omega
      go_upto_region 13 with fail
      rw [← hqx]
      clear hqx e0 e1 e2 e3 e4 HCL
      generalize wr.alloc (.cells #[.int .i64 a.op, .int .i64 a.n, .string a.s, .string a.t, .slice ab nb cb] 44) = wA at *
      obtain ⟨x0, x1, x2, x3, x4⟩ := HA0.out.box
      by_cases g1 : 300 < nb
      · have g1' : (300 : Int) < (nb : Int) := by omega
        go_wp2
        go_ret
        exact ⟨rfl, HA0.out.t.below⟩
      have g1' : ¬ (300 : Int) < (nb : Int) := by omega
      by_cases g2 : 30 < a.s.size
      · have g2' : (30 : Int) < (a.s.size : Int) := by omega
        go_wp2
        go_ret
        exact ⟨rfl, HA0.out.t.below⟩
      have g2' : ¬ (30 : Int) < (a.s.size : Int) := by omega
      by_cases g3 : 30 < a.t.size
      · have g3' : (30 : Int) < (a.t.size : Int) := by omega
        go_wp2
        go_ret
        exact ⟨rfl, HA0.out.t.below⟩
      have g3' : ¬ (30 : Int) < (a.t.size : Int) := by omega
      have HFW : Hid (Few7 st k ∧ k ≤ 900 ∧ a.b.length ≤ 1000) := ⟨HP.out.few, by omega, by rw [← HNB.out]; omega⟩
      by_cases o0 : a.op = 0
      · go_wp2_with fail
        refine wp_region_held_drew (S := fun w' => BoxA w' qx a (.slice ab nb cb)) (by kernel_rfl) (HA0.out.later HS.out (Below.refl _ _).drew).box (fun _ => ?_)
        have HA1 : Hid (ActS LD W wA.drew q qr qx st st F G v ps a (.slice ab nb cb)) := HA0.out.later HS.out (Below.refl _ _).drew
        clear x0 x1 x2 x3 x4
        generalize wA.drew = wX at *
        have HSX : Hid (BoxA wX qx a (.slice ab nb cb)) := HA1.out.box
        have HFN : Hid (Fine (Dq.append st a.s a.b).2) := (few_append HFW.out.1 HFW.out.2.1 a.s a.b).2.2

        refine' take_at (i := 0) (d := 77) (v := _) rfl rfl (by kernel_rfl) (by kernel_rfl) (by kernel_rfl) (fun _ _ _ h => h) (Or.inl ⟨by rfl, ?h0⟩) HSX.out ?_
        case h0 => intro w hSw; go_simp; with_reducible rfl
        simp only [List.setIfInBounds_toArray, List.set_cons_zero, List.set_cons_succ]
        refine' take_at (i := 1) (d := 78) (v := _) rfl rfl (by kernel_rfl) (by kernel_rfl) (by kernel_rfl) (fun _ _ _ h => h) (Or.inl ⟨by rfl, ?h1⟩) HSX.out ?_
        case h1 => intro w hSw; go_simp; with_reducible rfl
        simp only [List.setIfInBounds_toArray, List.set_cons_zero, List.set_cons_succ]
        refine' take_at (i := 2) (d := 79) (v := _) rfl rfl (by kernel_rfl) (by kernel_rfl) (by kernel_rfl) (fun _ _ _ h => h) (Or.inl ⟨by rfl, ?h2⟩) HSX.out ?_
        case h2 => intro w hSw; obtain ⟨y0, y1, y2, y3, y4⟩ := hSw; go_simp; with_reducible rfl
        simp only [List.setIfInBounds_toArray, List.set_cons_zero, List.set_cons_succ]
        refine' take_at (i := 3) (d := 80) (v := _) rfl rfl (by kernel_rfl) (by kernel_rfl) (by kernel_rfl) (fun _ _ _ h => h) (Or.inl ⟨by rfl, ?h3⟩) HSX.out ?_
        case h3 => intro w hSw; go_simp; with_reducible rfl
        simp only [List.setIfInBounds_toArray, List.set_cons_zero, List.set_cons_succ]
        refine' take_at (i := 4) (d := 81) (v := _) rfl rfl (by kernel_rfl) (by kernel_rfl) (by kernel_rfl) (fun _ _ _ h => h) (Or.inl ⟨by rfl, ?h4⟩) HSX.out ?_
        case h4 => intro w hSw; obtain ⟨y0, y1, y2, y3, y4⟩ := hSw; go_simp; with_reducible rfl
        simp only [List.setIfInBounds_toArray, List.set_cons_zero, List.set_cons_succ]
        refine' take_at (i := 6) (d := 83) (v := _) rfl rfl (by kernel_rfl) (by kernel_rfl) (by kernel_rfl) (fun _ _ _ h => h) (Or.inl ⟨by rfl, ?h6⟩) HSX.out ?_
        case h6 => intro w hSw; go_simp; with_reducible rfl
        simp only [List.setIfInBounds_toArray, List.set_cons_zero, List.set_cons_succ]
        refine' take_at (i := 7) (d := 84) (v := _) rfl rfl (by kernel_rfl) (by kernel_rfl) (by kernel_rfl) (fun _ _ _ h => h) (Or.inl ⟨by rfl, ?h7⟩) HSX.out ?_
        case h7 => intro w hSw; go_simp; with_reducible rfl
        simp only [List.setIfInBounds_toArray, List.set_cons_zero, List.set_cons_succ]
        refine' take_at (i := 8) (d := 85) (v := _) rfl rfl (by kernel_rfl) (by kernel_rfl) (by kernel_rfl) (fun _ _ _ h => h) (Or.inl ⟨by rfl, ?h8⟩) HSX.out ?_
        case h8 => intro w hSw; obtain ⟨y0, y1, y2, y3, y4⟩ := hSw; go_simp; with_reducible rfl
        simp only [List.setIfInBounds_toArray, List.set_cons_zero, List.set_cons_succ]
        refine' take_at (i := 9) (d := 86) (v := _) rfl rfl (by kernel_rfl) (by kernel_rfl) (by kernel_rfl) (fun _ _ _ h => h) (Or.inl ⟨by rfl, ?h9⟩) HSX.out ?_
        case h9 => intro w hSw; go_simp; with_reducible rfl
        simp only [List.setIfInBounds_toArray, List.set_cons_zero, List.set_cons_succ]
        refine' take_at (i := 10) (d := 87) (v := _) rfl rfl (by kernel_rfl) (by kernel_rfl) (by kernel_rfl) (fun _ _ _ h => h) (Or.inl ⟨by rfl, ?h10⟩) HSX.out ?_
        case h10 => intro w hSw; obtain ⟨y0, y1, y2, y3, y4⟩ := hSw; go_simp; with_reducible rfl
        simp only [List.setIfInBounds_toArray, List.set_cons_zero, List.set_cons_succ]
        refine wpAnyH_ready (rs := [5]) (by kernel_rfl) (by simp) ?_
        refine AllReadyH.cons (o := _) rfl (fun K hK => ?_) AllReadyH.nil
        go_simp
        refine (HS.out.append q st F a.s _ a.b _ HA1.out.t.ld HA1.out.t.fd (HA1.out.t.arg HBX.out.1).1 HFW.out.2.2 (HA1.out.t.arg HBX.out.1).2).mono ?_
        rintro e wY ⟨F2, rfl, hl, hm⟩
        have HA1b : Hid (ActS LD W wY q qr qx (Dq.append st a.s a.b).2 st F2 G v ps a (.slice ab nb cb)) := HA1.out.landed hl HFN.out hm
        clear hl hm
        refine hK.out _ _ HA1b.out.box (fun _ => ?_)
        clear hK K
        refine wpAnyH_ready (rs := [11]) (by kernel_rfl) (by simp) ?_
        refine AllReadyH.cons (o := _) rfl (fun K hK => ?_) AllReadyH.nil
        go_simp
        refine (refAppend_any qr st G v ps a.s _ a.b _ HA1b.out.t.rd HA1b.out.t.fr hs1 (HA1b.out.t.arg HBX.out.1).1 HFW.out.2.2).mono ?_
        rintro e wZ ⟨rfl, hr⟩
        obtain ⟨G2, v2, ps2, hA2⟩ := HA1b.out.ref HS.out hr HFN.out
        have HA2 : Hid (ActS LD W wZ q qr qx (Dq.append st a.s a.b).2 (Dq.append st a.s a.b).2 F2 G2 v2 ps2 a (.slice ab nb cb)) := hA2
        have HSZ : Hid (BoxA wZ qx a (.slice ab nb cb)) := HA2.out.box
        clear hr hA2
        refine hK.out _ _ HSZ.out (fun _ => ?_)
        clear hK K
        refine' take_at (i := 12) (d := 89) (v := _) rfl rfl (by kernel_rfl) (by kernel_rfl) (by kernel_rfl) (fun _ _ _ h => h) (Or.inl ⟨by rfl, ?h12⟩) HSZ.out ?_
        case h12 => intro w hSw; go_simp; with_reducible rfl
        simp only [List.setIfInBounds_toArray, List.set_cons_zero, List.set_cons_succ]
        refine wpAnyH_ready (rs := [13]) (by kernel_rfl) (by simp) ?_
        refine AllReadyH.cons (o := _) rfl (fun K hK => ?_) AllReadyH.nil
        go_simp
        refine hK.out _ _ HSZ.out (fun _ => ?_)
        clear hK K
        refine wpAnyH_done (by kernel_rfl) ?_ _
        have HX1 := HA2.out.box.c2
        go_wp2_with fail
        clear HX1
        refine (same_any7 HS.out W q qr _ F2 G2 v2 ps2 a.s _ HA2.out.t hs1).mono ?_
        rintro e wS ⟨rfl, F3, hT⟩
        have HPN : Hid (PlayS LD W wS q qr (k + 1) (Dq.append st a.s a.b).2 F3 G2 v2 ps2) := ⟨hT, few_append HFW.out.1 HFW.out.2.1 a.s a.b⟩
        clear hT
        go_wp2
        go_roundw
        case rel => exact ⟨k + 1, _, F3, G2, v2, ps2, by omega, by go_num, HPN.out⟩
        case measure => simp [intOf]; omega
      by_cases o1 : a.op = 1
      · go_wp2_with fail
        refine wp_region_held_drew (S := fun w' => BoxA w' qx a (.slice ab nb cb)) (by kernel_rfl) (HA0.out.later HS.out (Below.refl _ _).drew).box (fun _ => ?_)
        have HA1 : Hid (ActS LD W wA.drew q qr qx st st F G v ps a (.slice ab nb cb)) := HA0.out.later HS.out (Below.refl _ _).drew
        clear x0 x1 x2 x3 x4
        generalize wA.drew = wX at *
        have HSX : Hid (BoxA wX qx a (.slice ab nb cb)) := HA1.out.box
        have HFN : Hid (Fine (Dq.sync st a.s).2) := (few_sync HFW.out.1 a.s).2.2

        refine' take_at (i := 0) (d := 92) (v := _) rfl rfl (by kernel_rfl) (by kernel_rfl) (by kernel_rfl) (fun _ _ _ h => h) (Or.inl ⟨by rfl, ?h0⟩) HSX.out ?_
        case h0 => intro w hSw; go_simp; with_reducible rfl
        simp only [List.setIfInBounds_toArray, List.set_cons_zero, List.set_cons_succ]
        refine' take_at (i := 1) (d := 93) (v := _) rfl rfl (by kernel_rfl) (by kernel_rfl) (by kernel_rfl) (fun _ _ _ h => h) (Or.inl ⟨by rfl, ?h1⟩) HSX.out ?_
        case h1 => intro w hSw; go_simp; with_reducible rfl
        simp only [List.setIfInBounds_toArray, List.set_cons_zero, List.set_cons_succ]
        refine' take_at (i := 2) (d := 94) (v := _) rfl rfl (by kernel_rfl) (by kernel_rfl) (by kernel_rfl) (fun _ _ _ h => h) (Or.inl ⟨by rfl, ?h2⟩) HSX.out ?_
        case h2 => intro w hSw; obtain ⟨y0, y1, y2, y3, y4⟩ := hSw; go_simp; with_reducible rfl
        simp only [List.setIfInBounds_toArray, List.set_cons_zero, List.set_cons_succ]
        refine' take_at (i := 4) (d := 96) (v := _) rfl rfl (by kernel_rfl) (by kernel_rfl) (by kernel_rfl) (fun _ _ _ h => h) (Or.inl ⟨by rfl, ?h4⟩) HSX.out ?_
        case h4 => intro w hSw; go_simp; with_reducible rfl
        simp only [List.setIfInBounds_toArray, List.set_cons_zero, List.set_cons_succ]
        refine' take_at (i := 5) (d := 97) (v := _) rfl rfl (by kernel_rfl) (by kernel_rfl) (by kernel_rfl) (fun _ _ _ h => h) (Or.inl ⟨by rfl, ?h5⟩) HSX.out ?_
        case h5 => intro w hSw; go_simp; with_reducible rfl
        simp only [List.setIfInBounds_toArray, List.set_cons_zero, List.set_cons_succ]
        refine' take_at (i := 6) (d := 98) (v := _) rfl rfl (by kernel_rfl) (by kernel_rfl) (by kernel_rfl) (fun _ _ _ h => h) (Or.inl ⟨by rfl, ?h6⟩) HSX.out ?_
        case h6 => intro w hSw; obtain ⟨y0, y1, y2, y3, y4⟩ := hSw; go_simp; with_reducible rfl
        simp only [List.setIfInBounds_toArray, List.set_cons_zero, List.set_cons_succ]
        refine wpAnyH_ready (rs := [3]) (by kernel_rfl) (by simp) ?_
        refine AllReadyH.cons (o := _) rfl (fun K hK => ?_) AllReadyH.nil
        go_simp
        refine (HS.out.sync q st F a.s _ HA1.out.t.ld HA1.out.t.fd).mono ?_
        rintro e wY ⟨F2, rfl, hl, hm⟩
        have HA1b : Hid (ActS LD W wY q qr qx (Dq.sync st a.s).2 st F2 G v ps a (.slice ab nb cb)) := HA1.out.landed hl HFN.out hm
        clear hl hm
        refine hK.out _ _ HA1b.out.box (fun _ => ?_)
        clear hK K
        refine wpAnyH_ready (rs := [7]) (by kernel_rfl) (by simp) ?_
        refine AllReadyH.cons (o := _) rfl (fun K hK => ?_) AllReadyH.nil
        go_simp
        refine (refSync_any qr st G v ps a.s _ HA1b.out.t.rd HA1b.out.t.fr hs1).mono ?_
        rintro e wZ ⟨rfl, hr⟩
        obtain ⟨G2, v2, ps2, hA2⟩ := HA1b.out.ref HS.out hr HFN.out
        have HA2 : Hid (ActS LD W wZ q qr qx (Dq.sync st a.s).2 (Dq.sync st a.s).2 F2 G2 v2 ps2 a (.slice ab nb cb)) := hA2
        have HSZ : Hid (BoxA wZ qx a (.slice ab nb cb)) := HA2.out.box
        clear hr hA2
        refine hK.out _ _ HSZ.out (fun _ => ?_)
        clear hK K
        refine' take_at (i := 8) (d := 100) (v := _) rfl rfl (by kernel_rfl) (by kernel_rfl) (by kernel_rfl) (fun _ _ _ h => h) (Or.inl ⟨by rfl, ?h8⟩) HSZ.out ?_
        case h8 => intro w hSw; go_simp; with_reducible rfl
        simp only [List.setIfInBounds_toArray, List.set_cons_zero, List.set_cons_succ]
        refine wpAnyH_ready (rs := [9]) (by kernel_rfl) (by simp) ?_
        refine AllReadyH.cons (o := _) rfl (fun K hK => ?_) AllReadyH.nil
        go_simp
        refine hK.out _ _ HSZ.out (fun _ => ?_)
        clear hK K
        refine wpAnyH_done (by kernel_rfl) ?_ _
        have HX1 := HA2.out.box.c2
        go_wp2_with fail
        clear HX1
        refine (same_any7 HS.out W q qr _ F2 G2 v2 ps2 a.s _ HA2.out.t hs1).mono ?_
        rintro e wS ⟨rfl, F3, hT⟩
        have HPN : Hid (PlayS LD W wS q qr (k + 1) (Dq.sync st a.s).2 F3 G2 v2 ps2) := ⟨hT, few_sync HFW.out.1 a.s⟩
        clear hT
        go_wp2
        go_roundw
        case rel => exact ⟨k + 1, _, F3, G2, v2, ps2, by omega, by go_num, HPN.out⟩
        case measure => simp [intOf]; omega
      by_cases o2 : a.op = 2
      · go_wp2_with fail
        refine wp_region_held_drew (S := fun w' => BoxA w' qx a (.slice ab nb cb)) (by kernel_rfl) (HA0.out.later HS.out (Below.refl _ _).drew).box (fun _ => ?_)
        have HA1 : Hid (ActS LD W wA.drew q qr qx st st F G v ps a (.slice ab nb cb)) := HA0.out.later HS.out (Below.refl _ _).drew
        clear x0 x1 x2 x3 x4
        generalize wA.drew = wX at *
        have HSX : Hid (BoxA wX qx a (.slice ab nb cb)) := HA1.out.box
        have HFN : Hid (Fine (Dq.cut st a.s a.n).2) := (few_cut HFW.out.1 a.s a.n).2.2

        refine' take_at (i := 0) (d := 103) (v := _) rfl rfl (by kernel_rfl) (by kernel_rfl) (by kernel_rfl) (fun _ _ _ h => h) (Or.inl ⟨by rfl, ?h0⟩) HSX.out ?_
        case h0 => intro w hSw; go_simp; with_reducible rfl
        simp only [List.setIfInBounds_toArray, List.set_cons_zero, List.set_cons_succ]
        refine' take_at (i := 1) (d := 104) (v := _) rfl rfl (by kernel_rfl) (by kernel_rfl) (by kernel_rfl) (fun _ _ _ h => h) (Or.inl ⟨by rfl, ?h1⟩) HSX.out ?_
        case h1 => intro w hSw; go_simp; with_reducible rfl
        simp only [List.setIfInBounds_toArray, List.set_cons_zero, List.set_cons_succ]
        refine' take_at (i := 2) (d := 105) (v := _) rfl rfl (by kernel_rfl) (by kernel_rfl) (by kernel_rfl) (fun _ _ _ h => h) (Or.inl ⟨by rfl, ?h2⟩) HSX.out ?_
        case h2 => intro w hSw; obtain ⟨y0, y1, y2, y3, y4⟩ := hSw; go_simp; with_reducible rfl
        simp only [List.setIfInBounds_toArray, List.set_cons_zero, List.set_cons_succ]
        refine' take_at (i := 3) (d := 106) (v := _) rfl rfl (by kernel_rfl) (by kernel_rfl) (by kernel_rfl) (fun _ _ _ h => h) (Or.inl ⟨by rfl, ?h3⟩) HSX.out ?_
        case h3 => intro w hSw; go_simp; with_reducible rfl
        simp only [List.setIfInBounds_toArray, List.set_cons_zero, List.set_cons_succ]
        refine' take_at (i := 4) (d := 107) (v := _) rfl rfl (by kernel_rfl) (by kernel_rfl) (by kernel_rfl) (fun _ _ _ h => h) (Or.inl ⟨by rfl, ?h4⟩) HSX.out ?_
        case h4 => intro w hSw; obtain ⟨y0, y1, y2, y3, y4⟩ := hSw; go_simp; with_reducible rfl
        simp only [List.setIfInBounds_toArray, List.set_cons_zero, List.set_cons_succ]
        refine' take_at (i := 6) (d := 109) (v := _) rfl rfl (by kernel_rfl) (by kernel_rfl) (by kernel_rfl) (fun _ _ _ h => h) (Or.inl ⟨by rfl, ?h6⟩) HSX.out ?_
        case h6 => intro w hSw; go_simp; with_reducible rfl
        simp only [List.setIfInBounds_toArray, List.set_cons_zero, List.set_cons_succ]
        refine' take_at (i := 7) (d := 110) (v := _) rfl rfl (by kernel_rfl) (by kernel_rfl) (by kernel_rfl) (fun _ _ _ h => h) (Or.inl ⟨by rfl, ?h7⟩) HSX.out ?_
        case h7 => intro w hSw; go_simp; with_reducible rfl
        simp only [List.setIfInBounds_toArray, List.set_cons_zero, List.set_cons_succ]
        refine' take_at (i := 8) (d := 111) (v := _) rfl rfl (by kernel_rfl) (by kernel_rfl) (by kernel_rfl) (fun _ _ _ h => h) (Or.inl ⟨by rfl, ?h8⟩) HSX.out ?_
        case h8 => intro w hSw; obtain ⟨y0, y1, y2, y3, y4⟩ := hSw; go_simp; with_reducible rfl
        simp only [List.setIfInBounds_toArray, List.set_cons_zero, List.set_cons_succ]
        refine' take_at (i := 9) (d := 112) (v := _) rfl rfl (by kernel_rfl) (by kernel_rfl) (by kernel_rfl) (fun _ _ _ h => h) (Or.inl ⟨by rfl, ?h9⟩) HSX.out ?_
        case h9 => intro w hSw; go_simp; with_reducible rfl
        simp only [List.setIfInBounds_toArray, List.set_cons_zero, List.set_cons_succ]
        refine' take_at (i := 10) (d := 113) (v := _) rfl rfl (by kernel_rfl) (by kernel_rfl) (by kernel_rfl) (fun _ _ _ h => h) (Or.inl ⟨by rfl, ?h10⟩) HSX.out ?_
        case h10 => intro w hSw; obtain ⟨y0, y1, y2, y3, y4⟩ := hSw; go_simp; with_reducible rfl
        simp only [List.setIfInBounds_toArray, List.set_cons_zero, List.set_cons_succ]
        refine wpAnyH_ready (rs := [5]) (by kernel_rfl) (by simp) ?_
        refine AllReadyH.cons (o := _) rfl (fun K hK => ?_) AllReadyH.nil
        go_simp
        refine (HS.out.cut q st F a.s a.n _ HA1.out.t.ld HA1.out.t.fd).mono ?_
        rintro e wY ⟨F2, rfl, hl, hm⟩
        have HA1b : Hid (ActS LD W wY q qr qx (Dq.cut st a.s a.n).2 st F2 G v ps a (.slice ab nb cb)) := HA1.out.landed hl HFN.out hm
        clear hl hm
        refine hK.out _ _ HA1b.out.box (fun _ => ?_)
        clear hK K
        refine wpAnyH_ready (rs := [11]) (by kernel_rfl) (by simp) ?_
        refine AllReadyH.cons (o := _) rfl (fun K hK => ?_) AllReadyH.nil
        go_simp
        refine (refCut_any qr st G v ps a.s a.n _ HA1b.out.t.rd HA1b.out.t.fr hs1).mono ?_
        rintro e wZ ⟨rfl, hr⟩
        obtain ⟨G2, v2, ps2, hA2⟩ := HA1b.out.ref HS.out hr HFN.out
        have HA2 : Hid (ActS LD W wZ q qr qx (Dq.cut st a.s a.n).2 (Dq.cut st a.s a.n).2 F2 G2 v2 ps2 a (.slice ab nb cb)) := hA2
        have HSZ : Hid (BoxA wZ qx a (.slice ab nb cb)) := HA2.out.box
        clear hr hA2
        refine hK.out _ _ HSZ.out (fun _ => ?_)
        clear hK K
        refine' take_at (i := 12) (d := 115) (v := _) rfl rfl (by kernel_rfl) (by kernel_rfl) (by kernel_rfl) (fun _ _ _ h => h) (Or.inl ⟨by rfl, ?h12⟩) HSZ.out ?_
        case h12 => intro w hSw; go_simp; with_reducible rfl
        simp only [List.setIfInBounds_toArray, List.set_cons_zero, List.set_cons_succ]
        refine wpAnyH_ready (rs := [13]) (by kernel_rfl) (by simp) ?_
        refine AllReadyH.cons (o := _) rfl (fun K hK => ?_) AllReadyH.nil
        go_simp
        refine hK.out _ _ HSZ.out (fun _ => ?_)
        clear hK K
        refine wpAnyH_done (by kernel_rfl) ?_ _
        have HX1 := HA2.out.box.c2
        go_wp2_with fail
        clear HX1
        refine (same_any7 HS.out W q qr _ F2 G2 v2 ps2 a.s _ HA2.out.t hs1).mono ?_
        rintro e wS ⟨rfl, F3, hT⟩
        have HPN : Hid (PlayS LD W wS q qr (k + 1) (Dq.cut st a.s a.n).2 F3 G2 v2 ps2) := ⟨hT, few_cut HFW.out.1 a.s a.n⟩
        clear hT
        go_wp2
        go_roundw
        case rel => exact ⟨k + 1, _, F3, G2, v2, ps2, by omega, by go_num, HPN.out⟩
        case measure => simp [intOf]; omega
      by_cases o3 : a.op = 3
      · go_wp2_with fail
        refine wp_region_held_drew (S := fun w' => BoxA w' qx a (.slice ab nb cb)) (by kernel_rfl) (HA0.out.later HS.out (Below.refl _ _).drew).box (fun _ => ?_)
        have HA1 : Hid (ActS LD W wA.drew q qr qx st st F G v ps a (.slice ab nb cb)) := HA0.out.later HS.out (Below.refl _ _).drew
        clear x0 x1 x2 x3 x4
        generalize wA.drew = wX at *
        have HSX : Hid (BoxA wX qx a (.slice ab nb cb)) := HA1.out.box
        have HFN : Hid (Fine (Dq.rename st a.s a.t).2) := (few_rename HFW.out.1 HFW.out.2.1 a.s a.t).2.2

        refine' take_at (i := 0) (d := 118) (v := _) rfl rfl (by kernel_rfl) (by kernel_rfl) (by kernel_rfl) (fun _ _ _ h => h) (Or.inl ⟨by rfl, ?h0⟩) HSX.out ?_
        case h0 => intro w hSw; go_simp; with_reducible rfl
        simp only [List.setIfInBounds_toArray, List.set_cons_zero, List.set_cons_succ]
        refine' take_at (i := 1) (d := 119) (v := _) rfl rfl (by kernel_rfl) (by kernel_rfl) (by kernel_rfl) (fun _ _ _ h => h) (Or.inl ⟨by rfl, ?h1⟩) HSX.out ?_
        case h1 => intro w hSw; go_simp; with_reducible rfl
        simp only [List.setIfInBounds_toArray, List.set_cons_zero, List.set_cons_succ]
        refine' take_at (i := 2) (d := 120) (v := _) rfl rfl (by kernel_rfl) (by kernel_rfl) (by kernel_rfl) (fun _ _ _ h => h) (Or.inl ⟨by rfl, ?h2⟩) HSX.out ?_
        case h2 => intro w hSw; obtain ⟨y0, y1, y2, y3, y4⟩ := hSw; go_simp; with_reducible rfl
        simp only [List.setIfInBounds_toArray, List.set_cons_zero, List.set_cons_succ]
        refine' take_at (i := 3) (d := 121) (v := _) rfl rfl (by kernel_rfl) (by kernel_rfl) (by kernel_rfl) (fun _ _ _ h => h) (Or.inl ⟨by rfl, ?h3⟩) HSX.out ?_
        case h3 => intro w hSw; go_simp; with_reducible rfl
        simp only [List.setIfInBounds_toArray, List.set_cons_zero, List.set_cons_succ]
        refine' take_at (i := 4) (d := 122) (v := _) rfl rfl (by kernel_rfl) (by kernel_rfl) (by kernel_rfl) (fun _ _ _ h => h) (Or.inl ⟨by rfl, ?h4⟩) HSX.out ?_
        case h4 => intro w hSw; obtain ⟨y0, y1, y2, y3, y4⟩ := hSw; go_simp; with_reducible rfl
        simp only [List.setIfInBounds_toArray, List.set_cons_zero, List.set_cons_succ]
        refine' take_at (i := 6) (d := 124) (v := _) rfl rfl (by kernel_rfl) (by kernel_rfl) (by kernel_rfl) (fun _ _ _ h => h) (Or.inl ⟨by rfl, ?h6⟩) HSX.out ?_
        case h6 => intro w hSw; go_simp; with_reducible rfl
        simp only [List.setIfInBounds_toArray, List.set_cons_zero, List.set_cons_succ]
        refine' take_at (i := 7) (d := 125) (v := _) rfl rfl (by kernel_rfl) (by kernel_rfl) (by kernel_rfl) (fun _ _ _ h => h) (Or.inl ⟨by rfl, ?h7⟩) HSX.out ?_
        case h7 => intro w hSw; go_simp; with_reducible rfl
        simp only [List.setIfInBounds_toArray, List.set_cons_zero, List.set_cons_succ]
        refine' take_at (i := 8) (d := 126) (v := _) rfl rfl (by kernel_rfl) (by kernel_rfl) (by kernel_rfl) (fun _ _ _ h => h) (Or.inl ⟨by rfl, ?h8⟩) HSX.out ?_
        case h8 => intro w hSw; obtain ⟨y0, y1, y2, y3, y4⟩ := hSw; go_simp; with_reducible rfl
        simp only [List.setIfInBounds_toArray, List.set_cons_zero, List.set_cons_succ]
        refine' take_at (i := 9) (d := 127) (v := _) rfl rfl (by kernel_rfl) (by kernel_rfl) (by kernel_rfl) (fun _ _ _ h => h) (Or.inl ⟨by rfl, ?h9⟩) HSX.out ?_
        case h9 => intro w hSw; go_simp; with_reducible rfl
        simp only [List.setIfInBounds_toArray, List.set_cons_zero, List.set_cons_succ]
        refine' take_at (i := 10) (d := 128) (v := _) rfl rfl (by kernel_rfl) (by kernel_rfl) (by kernel_rfl) (fun _ _ _ h => h) (Or.inl ⟨by rfl, ?h10⟩) HSX.out ?_
        case h10 => intro w hSw; obtain ⟨y0, y1, y2, y3, y4⟩ := hSw; go_simp; with_reducible rfl
        simp only [List.setIfInBounds_toArray, List.set_cons_zero, List.set_cons_succ]
        refine wpAnyH_ready (rs := [5]) (by kernel_rfl) (by simp) ?_
        refine AllReadyH.cons (o := _) rfl (fun K hK => ?_) AllReadyH.nil
        go_simp
        refine (HS.out.rename q st F a.s a.t _ HA1.out.t.ld HA1.out.t.fd).mono ?_
        rintro e wY ⟨F2, rfl, hl, hm⟩
        have HA1b : Hid (ActS LD W wY q qr qx (Dq.rename st a.s a.t).2 st F2 G v ps a (.slice ab nb cb)) := HA1.out.landed hl HFN.out hm
        clear hl hm
        refine hK.out _ _ HA1b.out.box (fun _ => ?_)
        clear hK K
        refine wpAnyH_ready (rs := [11]) (by kernel_rfl) (by simp) ?_
        refine AllReadyH.cons (o := _) rfl (fun K hK => ?_) AllReadyH.nil
        go_simp
        refine (refRename_any qr st G v ps a.s a.t _ HA1b.out.t.rd HA1b.out.t.fr hs1 ht1).mono ?_
        rintro e wZ ⟨rfl, hr⟩
        obtain ⟨G2, v2, ps2, hA2⟩ := HA1b.out.ref HS.out hr HFN.out
        have HA2 : Hid (ActS LD W wZ q qr qx (Dq.rename st a.s a.t).2 (Dq.rename st a.s a.t).2 F2 G2 v2 ps2 a (.slice ab nb cb)) := hA2
        have HSZ : Hid (BoxA wZ qx a (.slice ab nb cb)) := HA2.out.box
        clear hr hA2
        refine hK.out _ _ HSZ.out (fun _ => ?_)
        clear hK K
        refine' take_at (i := 12) (d := 130) (v := _) rfl rfl (by kernel_rfl) (by kernel_rfl) (by kernel_rfl) (fun _ _ _ h => h) (Or.inl ⟨by rfl, ?h12⟩) HSZ.out ?_
        case h12 => intro w hSw; go_simp; with_reducible rfl
        simp only [List.setIfInBounds_toArray, List.set_cons_zero, List.set_cons_succ]
        refine wpAnyH_ready (rs := [13]) (by kernel_rfl) (by simp) ?_
        refine AllReadyH.cons (o := _) rfl (fun K hK => ?_) AllReadyH.nil
        go_simp
        refine hK.out _ _ HSZ.out (fun _ => ?_)
        clear hK K
        refine wpAnyH_done (by kernel_rfl) ?_ _
        have HX1 := HA2.out.box.c2
        go_wp2_with fail
        clear HX1
        refine (same_any7 HS.out W q qr _ F2 G2 v2 ps2 a.s _ HA2.out.t hs1).mono ?_
        rintro e wS ⟨rfl, F3, hT⟩
        have HPN : Hid (PlayS LD W wS q qr (k + 1) (Dq.rename st a.s a.t).2 F3 G2 v2 ps2) := ⟨hT, few_rename HFW.out.1 HFW.out.2.1 a.s a.t⟩
        clear hT
        go_wp2
        go_roundw
        case rel => exact ⟨k + 1, _, F3, G2, v2, ps2, by omega, by go_num, HPN.out⟩
        case measure => simp [intOf]; omega
      by_cases o4 : a.op = 4
      · go_wp2_with fail
        refine wp_region_held_drew (S := fun w' => BoxA w' qx a (.slice ab nb cb)) (by kernel_rfl) (HA0.out.later HS.out (Below.refl _ _).drew).box (fun _ => ?_)
        have HA1 : Hid (ActS LD W wA.drew q qr qx st st F G v ps a (.slice ab nb cb)) := HA0.out.later HS.out (Below.refl _ _).drew
        clear x0 x1 x2 x3 x4
        generalize wA.drew = wX at *
        have HSX : Hid (BoxA wX qx a (.slice ab nb cb)) := HA1.out.box
        have HFN : Hid (Fine (Dq.drop st a.s).2) := (few_drop HFW.out.1 a.s).2.2

        refine' take_at (i := 0) (d := 133) (v := _) rfl rfl (by kernel_rfl) (by kernel_rfl) (by kernel_rfl) (fun _ _ _ h => h) (Or.inl ⟨by rfl, ?h0⟩) HSX.out ?_
        case h0 => intro w hSw; go_simp; with_reducible rfl
        simp only [List.setIfInBounds_toArray, List.set_cons_zero, List.set_cons_succ]
        refine' take_at (i := 1) (d := 134) (v := _) rfl rfl (by kernel_rfl) (by kernel_rfl) (by kernel_rfl) (fun _ _ _ h => h) (Or.inl ⟨by rfl, ?h1⟩) HSX.out ?_
        case h1 => intro w hSw; go_simp; with_reducible rfl
        simp only [List.setIfInBounds_toArray, List.set_cons_zero, List.set_cons_succ]
        refine' take_at (i := 2) (d := 135) (v := _) rfl rfl (by kernel_rfl) (by kernel_rfl) (by kernel_rfl) (fun _ _ _ h => h) (Or.inl ⟨by rfl, ?h2⟩) HSX.out ?_
        case h2 => intro w hSw; obtain ⟨y0, y1, y2, y3, y4⟩ := hSw; go_simp; with_reducible rfl
        simp only [List.setIfInBounds_toArray, List.set_cons_zero, List.set_cons_succ]
        refine' take_at (i := 4) (d := 137) (v := _) rfl rfl (by kernel_rfl) (by kernel_rfl) (by kernel_rfl) (fun _ _ _ h => h) (Or.inl ⟨by rfl, ?h4⟩) HSX.out ?_
        case h4 => intro w hSw; go_simp; with_reducible rfl
        simp only [List.setIfInBounds_toArray, List.set_cons_zero, List.set_cons_succ]
        refine' take_at (i := 5) (d := 138) (v := _) rfl rfl (by kernel_rfl) (by kernel_rfl) (by kernel_rfl) (fun _ _ _ h => h) (Or.inl ⟨by rfl, ?h5⟩) HSX.out ?_
        case h5 => intro w hSw; go_simp; with_reducible rfl
        simp only [List.setIfInBounds_toArray, List.set_cons_zero, List.set_cons_succ]
        refine' take_at (i := 6) (d := 139) (v := _) rfl rfl (by kernel_rfl) (by kernel_rfl) (by kernel_rfl) (fun _ _ _ h => h) (Or.inl ⟨by rfl, ?h6⟩) HSX.out ?_
        case h6 => intro w hSw; obtain ⟨y0, y1, y2, y3, y4⟩ := hSw; go_simp; with_reducible rfl
        simp only [List.setIfInBounds_toArray, List.set_cons_zero, List.set_cons_succ]
        refine wpAnyH_ready (rs := [3]) (by kernel_rfl) (by simp) ?_
        refine AllReadyH.cons (o := _) rfl (fun K hK => ?_) AllReadyH.nil
        go_simp
        refine (HS.out.drop q st F a.s _ HA1.out.t.ld HA1.out.t.fd).mono ?_
        rintro e wY ⟨F2, rfl, hl, hm⟩
        have HA1b : Hid (ActS LD W wY q qr qx (Dq.drop st a.s).2 st F2 G v ps a (.slice ab nb cb)) := HA1.out.landed hl HFN.out hm
        clear hl hm
        refine hK.out _ _ HA1b.out.box (fun _ => ?_)
        clear hK K
        refine wpAnyH_ready (rs := [7]) (by kernel_rfl) (by simp) ?_
        refine AllReadyH.cons (o := _) rfl (fun K hK => ?_) AllReadyH.nil
        go_simp
        refine (refDrop_any qr st G v ps a.s _ HA1b.out.t.rd HA1b.out.t.fr hs1).mono ?_
        rintro e wZ ⟨rfl, hr⟩
        obtain ⟨G2, v2, ps2, hA2⟩ := HA1b.out.ref HS.out hr HFN.out
        have HA2 : Hid (ActS LD W wZ q qr qx (Dq.drop st a.s).2 (Dq.drop st a.s).2 F2 G2 v2 ps2 a (.slice ab nb cb)) := hA2
        have HSZ : Hid (BoxA wZ qx a (.slice ab nb cb)) := HA2.out.box
        clear hr hA2
        refine hK.out _ _ HSZ.out (fun _ => ?_)
        clear hK K
        refine' take_at (i := 8) (d := 141) (v := _) rfl rfl (by kernel_rfl) (by kernel_rfl) (by kernel_rfl) (fun _ _ _ h => h) (Or.inl ⟨by rfl, ?h8⟩) HSZ.out ?_
        case h8 => intro w hSw; go_simp; with_reducible rfl
        simp only [List.setIfInBounds_toArray, List.set_cons_zero, List.set_cons_succ]
        refine wpAnyH_ready (rs := [9]) (by kernel_rfl) (by simp) ?_
        refine AllReadyH.cons (o := _) rfl (fun K hK => ?_) AllReadyH.nil
        go_simp
        refine hK.out _ _ HSZ.out (fun _ => ?_)
        clear hK K
        refine wpAnyH_done (by kernel_rfl) ?_ _
        have HX1 := HA2.out.box.c2
        go_wp2_with fail
        clear HX1
        refine (same_any7 HS.out W q qr _ F2 G2 v2 ps2 a.s _ HA2.out.t hs1).mono ?_
        rintro e wS ⟨rfl, F3, hT⟩
        have HPN : Hid (PlayS LD W wS q qr (k + 1) (Dq.drop st a.s).2 F3 G2 v2 ps2) := ⟨hT, few_drop HFW.out.1 a.s⟩
        clear hT
        go_wp2
        go_roundw
        case rel => exact ⟨k + 1, _, F3, G2, v2, ps2, by omega, by go_num, HPN.out⟩
        case measure => simp [intOf]; omega
      by_cases o5 : a.op = 5
      · have HFN : Hid (Fine (Dq.crash st a.n)) := (few_crash HFW.out.1 a.n).2.2
        go_wp2_with fail
        refine (HS.out.crash q st F a.n _ HA0.out.t.ld HA0.out.t.fd HBX.out.2.n.1 HBX.out.2.n.2).mono ?_
        rintro e wY ⟨F2, rfl, hl, hm⟩
        have HA1b : Hid (ActS LD W wY q qr qx (Dq.crash st a.n) st F2 G v ps a (.slice ab nb cb)) := HA0.out.landed hl HFN.out hm
        clear hl hm x0 x1 x2 x3 x4
        obtain ⟨x0, x1, x2, x3, x4⟩ := HA1b.out.box
        go_wp2_with fail
        refine (refCrash_any qr st G v ps a.n _ HA1b.out.t.rd HA1b.out.t.fr HBX.out.2.n).mono ?_
        rintro e wZ ⟨rfl, hr⟩
        obtain ⟨G2, v2, ps2, hA2⟩ := HA1b.out.ref HS.out hr HFN.out
        have HA2 : Hid (ActS LD W wZ q qr qx (Dq.crash st a.n) (Dq.crash st a.n) F2 G2 v2 ps2 a (.slice ab nb cb)) := hA2
        clear hr hA2 x0 x1 x2 x3 x4
        have HX1 := HA2.out.box.c2
        go_wp2_with fail
        clear HX1
        refine (same_any7 HS.out W q qr _ F2 G2 v2 ps2 a.s _ HA2.out.t hs1).mono ?_
        rintro e wS ⟨rfl, F3, hT⟩
        have HPN : Hid (PlayS LD W wS q qr (k + 1) (Dq.crash st a.n) F3 G2 v2 ps2) := ⟨hT, few_crash HFW.out.1 a.n⟩
        clear hT
        go_wp2
        go_roundw
        case rel => exact ⟨k + 1, _, F3, G2, v2, ps2, by omega, by go_num, HPN.out⟩
        case measure => simp [intOf]; omega
      have HFN : Hid (Fine (Dq.on st)) := (few_on HFW.out.1 HFW.out.2.1).2.2
      go_wp2_with fail
      refine (HS.out.on q st F _ HA0.out.t.ld HA0.out.t.fd).mono ?_
      rintro e wY ⟨F2, rfl, hl, hm⟩
      have HA1b : Hid (ActS LD W wY q qr qx (Dq.on st) st F2 G v ps a (.slice ab nb cb)) := HA0.out.landed hl HFN.out hm
      clear hl hm x0 x1 x2 x3 x4
      obtain ⟨x0, x1, x2, x3, x4⟩ := HA1b.out.box
      go_wp2_with fail
      refine (refOn_any qr st G v ps _ HA1b.out.t.rd (by have := HFW.out.1.2.1; omega)).mono ?_
      rintro e wZ ⟨rfl, hr⟩
      obtain ⟨G2, v2, ps2, hA2⟩ := HA1b.out.ref HS.out hr HFN.out
      have HA2 : Hid (ActS LD W wZ q qr qx (Dq.on st) (Dq.on st) F2 G2 v2 ps2 a (.slice ab nb cb)) := hA2
      clear hr hA2 x0 x1 x2 x3 x4
      have HX1 := HA2.out.box.c2
      go_wp2_with fail
      clear HX1
      refine (same_any7 HS.out W q qr _ F2 G2 v2 ps2 a.s _ HA2.out.t hs1).mono ?_
      rintro e wS ⟨rfl, F3, hT⟩
      have HPN : Hid (PlayS LD W wS q qr (k + 1) (Dq.on st) F3 G2 v2 ps2) := ⟨hT, few_on HFW.out.1 HFW.out.2.1⟩
      clear hT
      go_wp2
      go_roundw
      case rel => exact ⟨k + 1, _, F3, G2, v2, ps2, by omega, by go_num, HPN.out⟩
      case measure => simp [intOf]; omega
    · have hlt' : ¬ (k : Int) < (n : Int) := by omega
      have HF1 : Hid (Fine (Dq.crash st 1) ∧ Fine (Dq.on (Dq.crash st 1))) := ⟨(few_crash HP.out.few 1).2.2, (few_on (few_crash HP.out.few 1) (by omega)).2.2⟩
      go_wp2_with fail
      refine (HS.out.crash q st F 1 _ HP.out.t.ld HP.out.t.fd (by decide) (by decide)).mono ?_
      rintro e w3 ⟨F3, rfl, hl, hm⟩
      have HT3 : Hid (Two7 LD W w3 q qr (Dq.crash st 1) st F3 G v ps) := HP.out.t.landed hl HF1.out.1 hm
      clear hl hm
      go_wp2_with fail
      refine (refCrash_any qr st G v ps 1 _ HT3.out.rd HT3.out.fr (by decide)).mono ?_
      rintro e w4 ⟨rfl, hr⟩
      obtain ⟨G4, v4, ps4, hT4⟩ := HT3.out.ref HS.out hr HF1.out.1
      have HT4 : Hid (Two7 LD W w4 q qr (Dq.crash st 1) (Dq.crash st 1) F3 G4 v4 ps4) := hT4
      clear hr hT4
      go_wp2_with fail
      refine (HS.out.on q _ F3 _ HT4.out.ld HT4.out.fd).mono ?_
      rintro e w5 ⟨F5, rfl, hl, hm⟩
      have HT5 : Hid (Two7 LD W w5 q qr (Dq.on (Dq.crash st 1)) (Dq.crash st 1) F5 G4 v4 ps4) := HT4.out.landed hl HF1.out.2 hm
      clear hl hm
      go_wp2_with fail
      refine (refOn_any qr _ G4 v4 ps4 _ HT5.out.rd (by have := HT5.out.fr.2.2; omega)).mono ?_
      rintro e w6 ⟨rfl, hr⟩
      obtain ⟨G6, v6, ps6, hT6⟩ := HT5.out.ref HS.out hr HF1.out.2
      obtain ⟨sz, hsz⟩ : ∃ z, z = Dq.on (Dq.crash st 1) := ⟨_, rfl⟩
      rw [← hsz] at hT6
      have HT6 : Hid (Two7 LD W w6 q qr sz sz F5 G6 v6 ps6) := hT6
      clear hr hT6 hsz
      obtain ⟨a6, n6, c6, rfl, hn6, hcc6, hns6⟩ := HT6.out.rd.begin
      have HN6 : Hid (n6 = ps6.length) := hn6
      have hn61 : n6 ≤ 1000 := by rw [hns6]; exact HT6.out.fd.2.1
      clear hn6 hns6
      go_wp2
      go_loopw [11] (fun i wr => ∃ (j : Nat) (F : Nat → Prop), j ≤ n6 ∧ i = .int .i64 (j : Int) ∧ Two7 LD W wr q qr sz sz F G6 (.slice a6 n6 c6) ps6) (fun i _ => ((n6 : Int) - intOf i).toNat)
      case atStart => exact ⟨0, F5, Nat.zero_le _, rfl, HT6.out⟩
      case round =>
        obtain ⟨j, F7, hj, rfl, hT7⟩ := hrel
        have HT7 : Hid (Two7 LD W wr q qr sz sz F7 G6 (.slice a6 n6 c6) ps6) := hT7
        clear hT7
        have hc1 := HT7.out.rd.c1
        by_cases hlt2 : j < n6
        · have hlt2' : (j : Int) < (n6 : Int) := by omega
          have hj0 : (0 : Int) ≤ (j : Int) := by omega
          obtain ⟨p, hp⟩ : ∃ p, ps6[j]? = some p := ⟨ps6[j]'(by rw [← HN6.out]; exact hlt2), List.getElem?_eq_getElem _⟩
          obtain ⟨g, cap, hv, hcap, _, _, f0, f1, f2, _⟩ := HT7.out.rd.fo.cell hp
          simp only [Value.slice.injEq] at hv
          obtain ⟨rfl, hq2, rfl⟩ := hv
          have HSZ : Hid (p.1.name.size ≤ 9223372036854775807) := by
            have h : p.1.name.size ≤ 9223372036854775807 := by
              have h1 := HT7.out.fr.1.good p.1 (List.mem_of_getElem? (HT7.out.rd.file hp))
              unfold Dq.may at h1
              simp only [Bool.and_eq_true, decide_eq_true_eq] at h1
              omega
            exact h
          clear hq2 hp hcap
          go_wp2_with fail
          refine (same_any7 HS.out W q qr _ F7 G6 _ ps6 p.1.name _ HT7.out HSZ.out).mono ?_
          rintro e wS ⟨rfl, F8, hT8⟩
          have HT8 : Hid (Two7 LD W wS q qr sz sz F8 G6 (.slice (some ⟨g, 0, none⟩) n6 c6) ps6) := hT8
          clear hT8 hc1 f0 f1 f2
          go_wp2
          go_roundw
          case rel => exact ⟨j + 1, F8, by omega, by go_num, HT8.out⟩
          case measure => simp [intOf]; omega
        · have hlt2' : ¬ (j : Int) < (n6 : Int) := by omega
          go_wp2
          go_ret
          exact ⟨rfl, HT7.out.below⟩
end Go.Proofs.Ytphmmdjefpfehaa
