/- TreeKeeps' walk. -/
import Derived.Test.YtfcbdjjbchcpjaaGreatDoorKeep11
namespace Go.Proofs.YtfcbdjjbchcpjaaGreatDoor
open Go.RowKit

set_option maxRecDepth 20000 in
set_option maxHeartbeats 8000000 in
theorem keeps_any11 {LT : Rep11} (S : Specs11 LT) (R : SpecR11 LT) (vl : Value) (acs : List Ac11) (o : O) (V : World) (hS : Pa.Std V) (hl : Acl11 V vl acs) (hll : acs.length ≤ maxLen) (hok : ∀ x ∈ acs, AcOk11 x) (ho : OFit o) :
    Calls Tryz.prog 6 #[vl, ov o] V fun e w' => e = .returned (.bool true) ∧ Below V.heap.size V w' := by
  obtain ⟨W, hW⟩ : ∃ W, W = V.alloc (.cells #[.int .i64 o.kind, .string o.path, .string o.data, .int .i64 o.ver, .int .i64 o.flags] 34) := ⟨_, rfl⟩
  obtain ⟨qo, hqo⟩ : ∃ z, z = V.heap.size := ⟨_, rfl⟩
  have hbV : Below V.heap.size V W := by rw [hW]; exact (Below.refl _ V).alloc (Nat.le_refl _) _
  have HV : Hid (Below V.heap.size V W ∧ Cb W qo (oc o) 34) := ⟨hbV, by rw [hW, hqo]; exact Cb.made V (oc o) _⟩
  have HS : Hid (Specs11 LT ∧ Pa.Std W ∧ SpecR11 LT) := ⟨S, hS.below hbV, R⟩
  obtain ⟨av, N, c, rfl, hN, hc⟩ := hl
  have HC : Hid ((∀ (j : Nat) x, acs[j]? = some x → ∃ g o nv, av = some ⟨g, o, none⟩ ∧ Ss W nv x.n.names ∧ ∀ (i : Nat) u, (a18 x nv)[i]? = some u → W.cell? ⟨g, o + j * 18 + i, none⟩ = some u) ∧ N = acs.length ∧ ∀ x ∈ acs, AcOk11 x) := ⟨fun j x hx => by
    obtain ⟨g, o, nv, h1, h2, h3⟩ := hc j x hx
    exact ⟨g, o, nv, h1, h2.below hbV, fun i u hu => Below.kept hbV (h3 i u hu)⟩, hN, hok⟩
  have hN1 : N ≤ 9223372036854775807 := by unfold maxLen at hll; omega
  have HO : Hid (OFit o) := ho
  clear S R hS hc hN hok hll hbV ho
  unfold ov
  go_enter Tryz.func6, Tryz.ntmps6
  go_wp2_with fail
  rw [← hqo, ← hW]
  clear hqo hW
  refine (awake_any11 HS.out.1 W HS.out.2.1).mono ?_
  rintro e w0 ⟨rfl, hb⟩
  have B0 : Hid (Below W.heap.size W w0) := hb
  clear hb
  have HCO : Hid (∀ w', Below W.heap.size W w' → w'.cell? ⟨qo, 0, none⟩ = some (.int .i64 o.kind) ∧ w'.cell? ⟨qo, 1, none⟩ = some (.string o.path) ∧ w'.cell? ⟨qo, 2, none⟩ = some (.string o.data) ∧ w'.cell? ⟨qo, 3, none⟩ = some (.int .i64 o.ver) ∧ w'.cell? ⟨qo, 4, none⟩ = some (.int .i64 o.flags)) := fun w' hb => ⟨Below.kept hb ((HV.out.2.cell 0).trans rfl), Below.kept hb ((HV.out.2.cell 1).trans rfl), Below.kept hb ((HV.out.2.cell 2).trans rfl), Below.kept hb ((HV.out.2.cell 3).trans rfl), Below.kept hb ((HV.out.2.cell 4).trans rfl)⟩
  have HVW : Hid (∀ w', Below W.heap.size W w' → Below V.heap.size V w') := fun w' hb => HV.out.1.trans (hb.mono HV.out.1.size)
  have hp0 : o.path.size ≤ 9223372036854775807 := by have h := HO.out.path; unfold maxLen at h; omega
  have hd0 : o.data.size ≤ 9223372036854775807 := by have h := HO.out.data; unfold maxLen at h; omega
  by_cases h30 : 30 < N
  · have h30' : (30 : Int) < (N : Int) := by omega
    go_wp2
    go_ret
    exact ⟨rfl, HVW.out _ B0.out⟩
  have h30' : ¬ (30 : Int) < (N : Int) := by omega
  obtain ⟨c0, c1, c2, c3, c4⟩ := HCO.out w0 B0.out
  by_cases h300 : 300 < o.path.size
  · have h300' : (300 : Int) < (o.path.size : Int) := by omega
    go_wp2
    go_ret
    exact ⟨rfl, HVW.out _ B0.out⟩
  have h300' : ¬ (300 : Int) < (o.path.size : Int) := by omega
  by_cases h110 : 1100 < o.data.size
  · have h110' : (1100 : Int) < (o.data.size : Int) := by omega
    go_wp2
    go_ret
    exact ⟨rfl, HVW.out _ B0.out⟩
  have h110' : ¬ (1100 : Int) < (o.data.size : Int) := by omega
  go_wp2_with fail
  clear c0 c1 c2 c3 c4 hp0 hd0
  refine (Mine11.made HS.out.1 50 (by decide) B0.out).mono ?_
  rintro e w1 ⟨q, F1, rfl, hM, hb⟩
  have M1 : Hid (Mine11 LT W w1 q ⟨50, []⟩ F1) := hM
  clear hM hb B0
  unfold dptr
  go_wp2
  go_loopw [7] (fun i wr => ∃ (k : Nat) (t : Tq.Tr) (F : Nat → Prop), k ≤ N ∧ i = .int .i64 (k : Int) ∧ Mine11 LT W wr q t F ∧ Tq.Few t k ∧ t.room = 50) (fun i _ => N - (intOf i).toNat)
  case atStart => exact ⟨0, ⟨50, []⟩, F1, Nat.zero_le _, rfl, M1.out, Tq.few_new 50, rfl⟩
  case round =>
    obtain ⟨k, t, F, hk, rfl, hM, hF, hrm⟩ := hrel
    have HR : Hid (Mine11 LT W wr q t F ∧ Tq.Few t k ∧ t.room = 50) := ⟨hM, hF, hrm⟩
    clear hM hF hrm M1
    by_cases hlt : k < N
    · as_aux_lemma =>
        have hlt' : (k : Int) < (N : Int) := by omega
        have hk0 : (0 : Int) ≤ (k : Int) := by omega
        have hwk : IntKind.wrap .i64 ((k : Int) + 1) = (k : Int) + 1 := by rw [IntKind.wrap_i64]; omega
        obtain ⟨x, hx⟩ : ∃ x, acs[k]? = some x := ⟨_, List.getElem?_eq_getElem (by have := HC.out.2.1; omega)⟩
        have HX : Hid (AcOk11 x ∧ x ∈ acs) := ⟨HC.out.2.2 x (List.mem_of_getElem? hx), List.mem_of_getElem? hx⟩
        obtain ⟨g, o2, nv, hav, hnv, hcell⟩ := HC.out.1 k x hx
        subst hav
        obtain ⟨na, nL, nc, rfl, hj1, hj2⟩ := hnv
        have HNV : Hid (Ss W (.slice na nL nc) x.n.names) := ⟨_, _, _, rfl, hj1, hj2⟩
        clear hj1 hj2
        have HCL : Hid (∀ w', Below W.heap.size W w' → w'.cell? ⟨g, o2 + k * 18, none⟩ = some (.int .i64 x.op) ∧ w'.cell? ⟨g, o2 + k * 18 + 1, none⟩ = some (.int .i64 x.o.kind) ∧ w'.cell? ⟨g, o2 + k * 18 + 2, none⟩ = some (.string x.o.path) ∧ w'.cell? ⟨g, o2 + k * 18 + 3, none⟩ = some (.string x.o.data) ∧ w'.cell? ⟨g, o2 + k * 18 + 4, none⟩ = some (.int .i64 x.o.ver) ∧ w'.cell? ⟨g, o2 + k * 18 + 5, none⟩ = some (.int .i64 x.o.flags) ∧ w'.cell? ⟨g, o2 + k * 18 + 6, none⟩ = some (.int .i64 x.sess) ∧ w'.cell? ⟨g, o2 + k * 18 + 7, none⟩ = some (.int .i64 x.zxid) ∧ w'.cell? ⟨g, o2 + k * 18 + 8, none⟩ = some (.int .i64 x.n.made) ∧ w'.cell? ⟨g, o2 + k * 18 + 9, none⟩ = some (.int .i64 x.n.changed) ∧ w'.cell? ⟨g, o2 + k * 18 + 10, none⟩ = some (.int .i64 x.n.ver) ∧ w'.cell? ⟨g, o2 + k * 18 + 11, none⟩ = some (.int .i64 x.n.kids) ∧ w'.cell? ⟨g, o2 + k * 18 + 12, none⟩ = some (.int .i64 x.n.owner) ∧ w'.cell? ⟨g, o2 + k * 18 + 13, none⟩ = some (.int .i64 x.n.len) ∧ w'.cell? ⟨g, o2 + k * 18 + 14, none⟩ = some (.int .i64 x.n.cnt) ∧ w'.cell? ⟨g, o2 + k * 18 + 15, none⟩ = some (.string x.n.data) ∧ w'.cell? ⟨g, o2 + k * 18 + 16, none⟩ = some (.int .i64 x.n.next) ∧ w'.cell? ⟨g, o2 + k * 18 + 17, none⟩ = some (.slice na nL nc)) := fun w' hb => ⟨Below.kept hb (hcell 0 _ rfl), Below.kept hb (hcell 1 _ rfl), Below.kept hb (hcell 2 _ rfl), Below.kept hb (hcell 3 _ rfl), Below.kept hb (hcell 4 _ rfl), Below.kept hb (hcell 5 _ rfl), Below.kept hb (hcell 6 _ rfl), Below.kept hb (hcell 7 _ rfl), Below.kept hb (hcell 8 _ rfl), Below.kept hb (hcell 9 _ rfl), Below.kept hb (hcell 10 _ rfl), Below.kept hb (hcell 11 _ rfl), Below.kept hb (hcell 12 _ rfl), Below.kept hb (hcell 13 _ rfl), Below.kept hb (hcell 14 _ rfl), Below.kept hb (hcell 15 _ rfl), Below.kept hb (hcell 16 _ rfl), Below.kept hb (hcell 17 _ rfl)⟩
        clear hx hcell
        obtain ⟨y0, y1, y2, y3, y4, y5, y6, y7, y8, y9, y10, y11, y12, y13, y14, y15, y16, y17⟩ := HCL.out wr HR.out.1.below
        go_wp2_with fail
        clear y0 y1 y2 y3 y4 y5 y6 y7 y8 y9 y10 y11 y12 y13 y14 y15 y16 y17
        refine (heavy_any11 x na nL nc wr (HNV.out.below HR.out.1.below) HX.out.1).mono ?_
        rintro e w2 ⟨b2, rfl, hb2, hb⟩
        have M2 : Hid (Mine11 LT W w2 q t F) := HR.out.1.later HS.out.1 hb
        clear hb hb2
        cases b2 with
        | true =>
          go_wp2
          go_ret
          exact ⟨rfl, HVW.out _ M2.out.below⟩
        | false =>
          go_wp2_with fail
          refine wp_region_held_drew (S := fun w' => Below W.heap.size W w') (by kernel_rfl) M2.out.below.drew (fun _ => ?_)
          have M3 : Hid (Mine11 LT W w2.drew q t F) := M2.out.later HS.out.1 (Below.refl _ _).drew
          clear M2
          generalize w2.drew = w3 at *
          refine' take_at (i := 0) (d := 43) (v := _) rfl rfl (by kernel_rfl) (by kernel_rfl) (by kernel_rfl) (fun _ _ _ h => h) (Or.inl ⟨by rfl, ?h0⟩) (M3.out.below) ?_
          case h0 =>
            intro w hSw
            go_simp
            with_reducible rfl
          simp only [List.setIfInBounds_toArray, List.set_cons_zero, List.set_cons_succ]
          refine' take_at (i := 1) (d := 44) (v := _) rfl rfl (by kernel_rfl) (by kernel_rfl) (by kernel_rfl) (fun _ _ _ h => h) (Or.inl ⟨by rfl, ?h1⟩) (M3.out.below) ?_
          case h1 =>
            intro w hSw
            go_simp
            with_reducible rfl
          simp only [List.setIfInBounds_toArray, List.set_cons_zero, List.set_cons_succ]
          refine' take_at (i := 2) (d := 45) (v := _) rfl rfl (by kernel_rfl) (by kernel_rfl) (by kernel_rfl) (fun _ _ _ h => h) (Or.inl ⟨by rfl, ?h2⟩) (M3.out.below) ?_
          case h2 =>
            intro w hSw
            go_simp
            with_reducible rfl
          simp only [List.setIfInBounds_toArray, List.set_cons_zero, List.set_cons_succ]
          refine' take_at (i := 3) (d := 46) (v := _) rfl rfl (by kernel_rfl) (by kernel_rfl) (by kernel_rfl) (fun _ _ _ h => h) (Or.inl ⟨by rfl, ?h3⟩) (M3.out.below) ?_
          case h3 =>
            intro w hSw
            go_simp
            with_reducible rfl
          simp only [List.setIfInBounds_toArray, List.set_cons_zero, List.set_cons_succ]
          refine' take_at (i := 4) (d := 47) (v := _) rfl rfl (by kernel_rfl) (by kernel_rfl) (by kernel_rfl) (fun _ _ _ h => h) (Or.inl ⟨by rfl, ?h4⟩) (M3.out.below) ?_
          case h4 =>
            intro w hSw
            go_simp
            with_reducible rfl
          simp only [List.setIfInBounds_toArray, List.set_cons_zero, List.set_cons_succ]
          refine' take_at (i := 5) (d := 48) (v := _) rfl rfl (by kernel_rfl) (by kernel_rfl) (by kernel_rfl) (fun _ _ _ h => h) (Or.inl ⟨by rfl, ?h5⟩) (M3.out.below) ?_
          case h5 =>
            intro w hSw
            obtain ⟨y0, y1, y2, y3, y4, y5, y6, y7, y8, y9, y10, y11, y12, y13, y14, y15, y16, y17⟩ := HCL.out w hSw
            go_simp
            with_reducible rfl
          simp only [List.setIfInBounds_toArray, List.set_cons_zero, List.set_cons_succ]
          refine' take_at (i := 6) (d := 49) (v := _) rfl rfl (by kernel_rfl) (by kernel_rfl) (by kernel_rfl) (fun _ _ _ h => h) (Or.inl ⟨by rfl, ?h6⟩) (M3.out.below) ?_
          case h6 =>
            intro w hSw
            go_simp
            with_reducible rfl
          simp only [List.setIfInBounds_toArray, List.set_cons_zero, List.set_cons_succ]
          refine' take_at (i := 7) (d := 50) (v := _) rfl rfl (by kernel_rfl) (by kernel_rfl) (by kernel_rfl) (fun _ _ _ h => h) (Or.inl ⟨by rfl, ?h7⟩) (M3.out.below) ?_
          case h7 =>
            intro w hSw
            go_simp
            with_reducible rfl
          simp only [List.setIfInBounds_toArray, List.set_cons_zero, List.set_cons_succ]
          refine' take_at (i := 8) (d := 51) (v := _) rfl rfl (by kernel_rfl) (by kernel_rfl) (by kernel_rfl) (fun _ _ _ h => h) (Or.inl ⟨by rfl, ?h8⟩) (M3.out.below) ?_
          case h8 =>
            intro w hSw
            go_simp
            with_reducible rfl
          simp only [List.setIfInBounds_toArray, List.set_cons_zero, List.set_cons_succ]
          refine' take_at (i := 9) (d := 52) (v := _) rfl rfl (by kernel_rfl) (by kernel_rfl) (by kernel_rfl) (fun _ _ _ h => h) (Or.inl ⟨by rfl, ?h9⟩) (M3.out.below) ?_
          case h9 =>
            intro w hSw
            go_simp
            with_reducible rfl
          simp only [List.setIfInBounds_toArray, List.set_cons_zero, List.set_cons_succ]
          refine' take_at (i := 10) (d := 53) (v := _) rfl rfl (by kernel_rfl) (by kernel_rfl) (by kernel_rfl) (fun _ _ _ h => h) (Or.inl ⟨by rfl, ?h10⟩) (M3.out.below) ?_
          case h10 =>
            intro w hSw
            obtain ⟨y0, y1, y2, y3, y4, y5, y6, y7, y8, y9, y10, y11, y12, y13, y14, y15, y16, y17⟩ := HCL.out w hSw
            go_simp
            with_reducible rfl
          simp only [List.setIfInBounds_toArray, List.set_cons_zero, List.set_cons_succ]
          refine' take_at (i := 11) (d := 54) (v := _) rfl rfl (by kernel_rfl) (by kernel_rfl) (by kernel_rfl) (fun _ _ _ h => h) (Or.inl ⟨by rfl, ?h11⟩) (M3.out.below) ?_
          case h11 =>
            intro w hSw
            go_simp
            with_reducible rfl
          simp only [List.setIfInBounds_toArray, List.set_cons_zero, List.set_cons_succ]
          refine' take_at (i := 12) (d := 55) (v := _) rfl rfl (by kernel_rfl) (by kernel_rfl) (by kernel_rfl) (fun _ _ _ h => h) (Or.inl ⟨by rfl, ?h12⟩) (M3.out.below) ?_
          case h12 =>
            intro w hSw
            go_simp
            with_reducible rfl
          simp only [List.setIfInBounds_toArray, List.set_cons_zero, List.set_cons_succ]
          refine' take_at (i := 13) (d := 56) (v := _) rfl rfl (by kernel_rfl) (by kernel_rfl) (by kernel_rfl) (fun _ _ _ h => h) (Or.inl ⟨by rfl, ?h13⟩) (M3.out.below) ?_
          case h13 =>
            intro w hSw
            go_simp
            with_reducible rfl
          simp only [List.setIfInBounds_toArray, List.set_cons_zero, List.set_cons_succ]
          refine' take_at (i := 14) (d := 57) (v := _) rfl rfl (by kernel_rfl) (by kernel_rfl) (by kernel_rfl) (fun _ _ _ h => h) (Or.inl ⟨by rfl, ?h14⟩) (M3.out.below) ?_
          case h14 =>
            intro w hSw
            go_simp
            with_reducible rfl
          simp only [List.setIfInBounds_toArray, List.set_cons_zero, List.set_cons_succ]
          refine' take_at (i := 15) (d := 58) (v := _) rfl rfl (by kernel_rfl) (by kernel_rfl) (by kernel_rfl) (fun _ _ _ h => h) (Or.inl ⟨by rfl, ?h15⟩) (M3.out.below) ?_
          case h15 =>
            intro w hSw
            obtain ⟨y0, y1, y2, y3, y4, y5, y6, y7, y8, y9, y10, y11, y12, y13, y14, y15, y16, y17⟩ := HCL.out w hSw
            go_simp
            with_reducible rfl
          simp only [List.setIfInBounds_toArray, List.set_cons_zero, List.set_cons_succ]
          refine wpAnyH_ready (rs := [16]) (by kernel_rfl) (by simp) ?_
          refine AllReadyH.cons (o := _) rfl (fun KQ hKQ => ?_) AllReadyH.nil
          go_simp
          obtain ⟨x4, t4, he4⟩ : ∃ x4 t4, Tq.doo t x.o x.sess x.zxid = (x4, t4) := ⟨_, _, rfl⟩
          have hfin := Tq.fine_doo (o := x.o) (s := x.sess) (z := x.zxid) M3.out.fine (HR.out.2.1.more (by omega))
          have hfew := Tq.few_doo (o := x.o) (s := x.sess) (z := x.zxid) HR.out.2.1
          have hroom := Tq.room_doo t x.o x.sess x.zxid
          rw [he4] at hfin hfew hroom
          refine (M3.out.doo HS.out.1 HS.out.2.1 x.o x.sess x.zxid HX.out.1.o x4 t4 he4 hfin).mono ?_
          rintro e w4 ⟨F4, v4, rfl, hsq, hof, hM, hmv⟩
          have M4 : Hid (Mine11 LT W w4 q t4 F4 ∧ Tq.Few t4 (k + 1) ∧ t4.room = 50) := ⟨hM, hfew, hroom.trans HR.out.2.2⟩
          clear hof hM hmv he4 hfin hfew hroom hsq
          simp only []
          refine hKQ.out _ _ M4.out.1.below (fun _ => ?_)
          clear hKQ
          refine wpAnyH_done (by kernel_rfl) ?_ _
          go_wp2
          go_roundw
          case rel => exact ⟨k + 1, t4, F4, by omega, by go_num, M4.out⟩
          case measure => simp [intOf]; omega
    · have hlt' : ¬ (k : Int) < (N : Int) := by omega
      go_wp2_with fail
      refine (HR.out.1.own11 HS.out.1 HS.out.2.2 50).mono ?_
      rintro e w5 ⟨q5, v5, es, rfl, hR5, hes, hb5⟩
      have M5 : Hid (Mine11 LT W w5 q t F ∧ Ro11 W w5 F q5 50 v5 es ∧ es.map (·.1) = t.l) := ⟨HR.out.1.later HS.out.1 hb5, hR5, hes⟩
      clear hR5 hes hb5
      unfold dptr
      go_wp2_with fail
      refine (M5.out.1.copy HS.out.1).mono ?_
      rintro e w6 ⟨q6, F6, rfl, hT, hb6, hfr⟩
      have M6 : Hid (Two12 LT W w6 q t F q6 t F6 ∧ Ro11 W w6 (fun k => F k ∨ F6 k) q5 50 v5 es) := ⟨hT, M5.out.2.1.moved ⟨hb6.os, hb6.tape, hb6.output, hb6.size, fun k hk _ => hb6.block k hk, fun k hk => hk.imp id (hfr k)⟩⟩
      have HE : Hid (es.map (·.1) = t.l ∧ Fine11 t ∧ Tq.Few t k ∧ k ≤ 30) := ⟨M5.out.2.2, HR.out.1.fine, HR.out.2.1, by omega⟩
      clear hT hb6 hfr M5 HR
      unfold dptr
      obtain ⟨c0, c1, c2, c3, c4⟩ := HCO.out w6 M6.out.1.one.below
      go_wp2_with fail
      clear c0 c1 c2 c3 c4
      refine (M6.out.1.one.tri HS.out.1 HS.out.2.1 o 1 5 HO.out).mono ?_
      rintro e w7 ⟨F7, v7, rfl, hM, hmv⟩
      have M7 : Hid (Two12 LT W w7 q t F7 q6 t F6 ∧ Ro11 W w7 (fun k => F7 k ∨ F6 k) q5 50 v5 es) := ⟨M6.out.1.left HS.out.1 hM hmv, M6.out.2.moved (hmv.join_left F6)⟩
      clear hM hmv M6
      unfold rv
      obtain ⟨c0, c1, c2, c3, c4⟩ := HCO.out w7 M7.out.1.one.below
      go_wp2_with fail
      clear c0 c1 c2 c3 c4
      obtain ⟨x8, t8, hx8⟩ : ∃ x t5, Tq.doo t o 1 5 = (x, t5) := ⟨_, _, rfl⟩
      have HX8 : Hid (Tq.doo t o 1 5 = (x8, t8) ∧ Fine11 t8 ∧ Tq.Few t8 (k + 1)) := by
        have h1 := Tq.fine_doo (o := o) (s := 1) (z := 5) HE.out.2.1 (HE.out.2.2.1.more (by have := HE.out.2.2.2; omega))
        have h2 := Tq.few_doo (o := o) (s := 1) (z := 5) HE.out.2.2.1
        rw [hx8] at h1 h2
        exact ⟨hx8, h1, h2⟩
      clear hx8
      refine (M7.out.1.two.doo HS.out.1 HS.out.2.1 o 1 5 HO.out x8 t8 HX8.out.1 HX8.out.2.1).mono ?_
      rintro e w8 ⟨F8, v8, rfl, hsq, hof, hM, hmv⟩
      have M8 : Hid (Two12 LT W w8 q t F7 q6 t8 F8 ∧ Ro11 W w8 (fun k => F7 k ∨ F8 k) q5 50 v5 es) := ⟨M7.out.1.right HS.out.1 hM hmv, M7.out.2.moved (hmv.join_right F7)⟩
      clear hsq hof hM hmv M7
      unfold rv
      go_wp2_with fail
      refine (made_any11 Tq.pZZ 0 w8).mono ?_
      rintro e w9 ⟨rfl, hb⟩
      have M9 : Hid (Two12 LT W w9 q t F7 q6 t8 F8 ∧ Ro11 W w9 (fun k => F7 k ∨ F8 k) q5 50 v5 es) := ⟨M8.out.1.later HS.out.1 hb, M8.out.2.later hb⟩
      clear hb M8
      unfold ov Tq.mk
      simp only []
      go_wp2_with fail
      obtain ⟨xa, ta, hxa⟩ : ∃ x t5, Tq.doo t8 (Tq.mk Tq.pZZ 0) 1 6 = (x, t5) := ⟨_, _, rfl⟩
      have HXA : Hid (Tq.doo t8 (Tq.mk Tq.pZZ 0) 1 6 = (xa, ta) ∧ Fine11 ta) := by
        have h1 := Tq.fine_doo (o := Tq.mk Tq.pZZ 0) (s := 1) (z := 6) HX8.out.2.1 (HX8.out.2.2.more (by have := HE.out.2.2.2; omega))
        rw [hxa] at h1
        exact ⟨hxa, h1⟩
      clear hxa
      refine (M9.out.1.two.doo HS.out.1 HS.out.2.1 (Tq.mk Tq.pZZ 0) 1 6 (fit_mk (by unfold maxLen; decide) (by decide)) xa ta HXA.out.1 HXA.out.2).mono ?_
      rintro e wa ⟨Fa, va, rfl, hsq, hof, hM, hmv⟩
      have MA : Hid (Two12 LT W wa q t F7 q6 ta Fa ∧ Ro11 W wa (fun k => F7 k ∨ Fa k) q5 50 v5 es) := ⟨M9.out.1.right HS.out.1 hM hmv, M9.out.2.moved (hmv.join_right F7)⟩
      clear hsq hof hM hmv M9
      unfold rv
      go_wp2_with fail
      refine (MA.out.1.one.own11 HS.out.1 HS.out.2.2 50).mono ?_
      rintro e wb ⟨qb, vb, es2, rfl, hRb, hes2, hbb⟩
      have MB : Hid (Two12 LT W wb q t F7 q6 ta Fa ∧ Ro11 W wb (fun k => F7 k ∨ Fa k) q5 50 v5 es ∧ Ro11 W wb F7 qb 50 vb es2 ∧ es2.map (·.1) = t.l) := ⟨MA.out.1.later HS.out.1 hbb, MA.out.2.later hbb, hRb, hes2⟩
      clear hRb hes2 hbb MA
      unfold dptr
      go_wp2_with fail
      refine (MB.out.2.2.1.alike11 MB.out.2.1 MB.out.2.2.2 HE.out.1 HE.out.2.1).mono ?_
      rintro e wc ⟨rfl, hbc⟩
      have MC : Hid (Two12 LT W wc q t F7 q6 ta Fa ∧ Ro11 W wc (fun k => F7 k ∨ Fa k) q5 50 v5 es) := ⟨MB.out.1.later HS.out.1 hbc, MB.out.2.1.later hbc⟩
      clear hbc MB
      obtain ⟨c0, c1, c2, c3, c4⟩ := HCO.out wc MC.out.1.one.below
      go_wp2_with fail
      clear c0 c1 c2 c3 c4
      refine (MC.out.1.one.doo HS.out.1 HS.out.2.1 o 1 5 HO.out x8 t8 HX8.out.1 HX8.out.2.1).mono ?_
      rintro e wd ⟨Fd, vd, rfl, hsq, hof, hM, hmv⟩
      obtain ⟨da, dk, dc, rfl, hj1, hj2⟩ := hsq
      obtain ⟨qd, hqd⟩ : ∃ z, z = wd.heap.size := ⟨_, rfl⟩
      have MD : Hid (Two12 LT W (wd.alloc (.cells #[.int .i64 x8.err, .string x8.path, .string x8.data, .slice da dk dc, .int .i64 x8.made, .int .i64 x8.changed, .int .i64 x8.ver, .int .i64 x8.kids, .int .i64 x8.owner, .int .i64 x8.len, .int .i64 x8.cnt] 31)) q t8 Fd q6 ta Fa ∧ Ro11 W (wd.alloc (.cells #[.int .i64 x8.err, .string x8.path, .string x8.data, .slice da dk dc, .int .i64 x8.made, .int .i64 x8.changed, .int .i64 x8.ver, .int .i64 x8.kids, .int .i64 x8.owner, .int .i64 x8.len, .int .i64 x8.cnt] 31)) (fun k => Fd k ∨ Fa k) q5 50 v5 es ∧ Cb (wd.alloc (.cells #[.int .i64 x8.err, .string x8.path, .string x8.data, .slice da dk dc, .int .i64 x8.made, .int .i64 x8.changed, .int .i64 x8.ver, .int .i64 x8.kids, .int .i64 x8.owner, .int .i64 x8.len, .int .i64 x8.cnt] 31)) qd (xc x8 (.slice da dk dc)) 31) := by
        have hba := (Below.refl _ wd).alloc (Nat.le_refl _) (.cells #[.int .i64 x8.err, .string x8.path, .string x8.data, .slice da dk dc, .int .i64 x8.made, .int .i64 x8.changed, .int .i64 x8.ver, .int .i64 x8.kids, .int .i64 x8.owner, .int .i64 x8.len, .int .i64 x8.cnt] 31)
        exact ⟨(MC.out.1.left HS.out.1 hM hmv).later HS.out.1 hba, (MC.out.2.moved (hmv.join_left Fa)).later hba, by rw [hqd]; exact Cb.made wd (xc x8 (.slice da dk dc)) _⟩
      clear hof hM hmv hj1 hj2 MC
      unfold rv
      go_upto_region 20 with fail
      rw [← hqd]
      clear hqd
      generalize (wd.alloc (.cells #[.int .i64 x8.err, .string x8.path, .string x8.data, .slice da dk dc, .int .i64 x8.made, .int .i64 x8.changed, .int .i64 x8.ver, .int .i64 x8.kids, .int .i64 x8.owner, .int .i64 x8.len, .int .i64 x8.cnt] 31)) = we at *
      have e0 : we.cell? ⟨qd, 0, none⟩ = some (.int .i64 x8.err) := (MD.out.2.2.cell 0).trans rfl
      obtain ⟨c0, c1, c2, c3, c4⟩ := HCO.out we MD.out.1.one.below
      by_cases hz : x8.err = 0 ∧ o.kind < 4
      · have hz1 : (x8.err == 0) = true := by simp [hz.1]
        have hz2 : o.kind < 4 := hz.2
        clear hz
        go_wp2
        go_ret
        exact ⟨rfl, HVW.out _ MD.out.1.one.below⟩
      have HTT : Hid (t8 = t) := by
        have h : t8 = t := by
          rcases Tq.doo_ok HX8.out.1 with h | ⟨h1, _, _, h | h | h | h⟩
          · exact h.2
          · exact absurd ⟨h1, by have := h.1; omega⟩ hz
          · exact absurd ⟨h1, by have := h.1; omega⟩ hz
          · exact absurd ⟨h1, by have := h.1; omega⟩ hz
          · exact h.2
        exact h
      by_cases hz1 : x8.err = 0
      · have hz1' : (x8.err == 0) = true := by simp [hz1]
        have hz2 : ¬ o.kind < 4 := fun h => hz ⟨hz1, h⟩
        clear hz hz1
        go_wp2_with fail
        refine (MD.out.1.one.own11 HS.out.1 HS.out.2.2 50).mono ?_
        rintro e wf ⟨qf, vf, es3, rfl, hRf, hes3, hbf⟩
        have MF : Hid (Below W.heap.size W wf ∧ Ro11 W wf (fun k => Fd k ∨ Fa k) q5 50 v5 es ∧ Ro11 W wf Fd qf 50 vf es3 ∧ es3.map (·.1) = t.l) := ⟨MD.out.1.one.below.trans (hbf.mono MD.out.1.one.below.size), MD.out.2.1.later hbf, hRf, by rw [hes3, HTT.out]⟩
        clear hRf hes3 hbf MD e0 c0 c1 c2 c3 c4
        unfold dptr
        go_wp2_with fail
        refine (MF.out.2.2.1.alike11 MF.out.2.1 MF.out.2.2.2 HE.out.1 HE.out.2.1).mono ?_
        rintro e wz ⟨rfl, hbz⟩
        have HZ : Hid (Below W.heap.size W wz) := MF.out.1.trans (hbz.mono MF.out.1.size)
        clear hbz
        go_wp2
        go_ret
        exact ⟨rfl, HVW.out _ HZ.out⟩
      · have hz1' : (x8.err == 0) = false := by simp [hz1]
        clear hz hz1
        go_wp2_with fail
        refine (MD.out.1.one.own11 HS.out.1 HS.out.2.2 50).mono ?_
        rintro e wf ⟨qf, vf, es3, rfl, hRf, hes3, hbf⟩
        have MF : Hid (Below W.heap.size W wf ∧ Ro11 W wf (fun k => Fd k ∨ Fa k) q5 50 v5 es ∧ Ro11 W wf Fd qf 50 vf es3 ∧ es3.map (·.1) = t.l) := ⟨MD.out.1.one.below.trans (hbf.mono MD.out.1.one.below.size), MD.out.2.1.later hbf, hRf, by rw [hes3, HTT.out]⟩
        clear hRf hes3 hbf MD e0 c0 c1 c2 c3 c4
        unfold dptr
        go_wp2_with fail
        refine (MF.out.2.2.1.alike11 MF.out.2.1 MF.out.2.2.2 HE.out.1 HE.out.2.1).mono ?_
        rintro e wz ⟨rfl, hbz⟩
        have HZ : Hid (Below W.heap.size W wz) := MF.out.1.trans (hbz.mono MF.out.1.size)
        clear hbz
        go_wp2
        go_ret
        exact ⟨rfl, HVW.out _ HZ.out⟩
end Go.Proofs.YtfcbdjjbchcpjaaGreatDoor
