/- TreeSound: its walk. -/
import Derived.Test.YtfcbdjjbchcpjaaGreatDoorHbx
import Derived.Test.YtfcbdjjbchcpjaaGreatDoorBas
import Derived.Deep.DeepCutAuto
namespace Go.Proofs.YtfcbdjjbchcpjaaGreatDoor
open Go.RowKit

set_option maxRecDepth 20000 in
set_option maxHeartbeats 8000000 in
theorem sound_any11 {LT : Rep11} (S : Specs11 LT) (S10 : Eph11) (room : Int) (vl : Value) (acs : List Ac11) (W : World) (hS : Pa.Std W) (hl : Acl11 W vl acs) (hll : acs.length ≤ maxLen) (hok : ∀ x ∈ acs, AcOk11 x) :
    Calls Tryz.prog 5 #[.int .i64 room, vl] W fun e w' => e = .returned (.bool true) ∧ Below W.heap.size W w' := by
  have HS : Hid (Specs11 LT ∧ Pa.Std W ∧ Eph11) := ⟨S, hS, S10⟩
  obtain ⟨av, N, c, rfl, hN, hc⟩ := hl
  have HC : Hid ((∀ (j : Nat) x, acs[j]? = some x → ∃ g o nv, av = some ⟨g, o, none⟩ ∧ Ss W nv x.n.names ∧ ∀ (i : Nat) u, (a18 x nv)[i]? = some u → W.cell? ⟨g, o + j * 18 + i, none⟩ = some u) ∧ N = acs.length ∧ ∀ x ∈ acs, AcOk11 x) := ⟨hc, hN, hok⟩
  have hN1 : N ≤ 9223372036854775807 := by unfold maxLen at hll; omega
  clear S S10 hS hc hN hok hll
  go_enter Tryz.func5, Tryz.ntmps5
  go_wp2_with fail
  refine (awake_any11 HS.out.1 W HS.out.2.1).mono ?_
  rintro e w0 ⟨rfl, hb⟩
  have B0 : Hid (Below W.heap.size W w0) := hb
  clear hb
  by_cases h1 : room < 1
  · go_wp2
    go_ret
    exact ⟨rfl, B0.out⟩
  by_cases h40 : 40 < room
  · go_wp2
    go_ret
    exact ⟨rfl, B0.out⟩
  by_cases h60 : 60 < N
  · have h60' : (60 : Int) < (N : Int) := by omega
    go_wp2
    go_ret
    exact ⟨rfl, B0.out⟩
  have h60' : ¬ (60 : Int) < (N : Int) := by omega
  go_wp2_with fail
  refine (Mine11.made HS.out.1 room (by omega) B0.out).mono ?_
  rintro e w1 ⟨q, F1, rfl, hM, hb⟩
  have M1 : Hid (Mine11 LT W w1 q ⟨room, []⟩ F1) := hM
  clear hM hb B0
  go_wp2
  go_loopw [7] (fun i wr => ∃ (k : Nat) (t : Tq.Tr) (F : Nat → Prop), k ≤ N ∧ i = .int .i64 (k : Int) ∧ Mine11 LT W wr q t F ∧ Tq.Few t k ∧ Tq.Snd t ∧ t.room = room) (fun i _ => N - (intOf i).toNat)
  case atStart => exact ⟨0, ⟨room, []⟩, F1, Nat.zero_le _, rfl, M1.out, Tq.few_new room, Tq.snd_new room, rfl⟩
  case round =>
    obtain ⟨k, t, F, hk, rfl, hM, hF, hSd, hrm⟩ := hrel
    have HR : Hid (Mine11 LT W wr q t F ∧ Tq.Few t k ∧ Tq.Snd t ∧ t.room = room) := ⟨hM, hF, hSd, hrm⟩
    clear hM hF hSd hrm M1
    by_cases hlt : k < N
    · as_aux_lemma =>
        have hlt' : (k : Int) < (N : Int) := by omega
        have hk0 : (0 : Int) ≤ (k : Int) := by omega
        have hwk : IntKind.wrap .i64 ((k : Int) + 1) = (k : Int) + 1 := by rw [IntKind.wrap_i64]; omega
        obtain ⟨x, hx⟩ : ∃ x, acs[k]? = some x := ⟨_, List.getElem?_eq_getElem (by have := HC.out.2.1; omega)⟩
        have HX : Hid (AcOk11 x) := HC.out.2.2 x (List.mem_of_getElem? hx)
        obtain ⟨g, o2, nv, hav, hnv, hcell⟩ := HC.out.1 k x hx
        subst hav
        obtain ⟨na, nL, nc, rfl, hj1, hj2⟩ := hnv
        have HNV : Hid (Ss W (.slice na nL nc) x.n.names) := ⟨_, _, _, rfl, hj1, hj2⟩
        clear hj1 hj2
        have HCL : Hid (∀ w', Below W.heap.size W w' → w'.cell? ⟨g, o2 + k * 18, none⟩ = some (.int .i64 x.op) ∧ w'.cell? ⟨g, o2 + k * 18 + 1, none⟩ = some (.int .i64 x.o.kind) ∧ w'.cell? ⟨g, o2 + k * 18 + 2, none⟩ = some (.string x.o.path) ∧ w'.cell? ⟨g, o2 + k * 18 + 3, none⟩ = some (.string x.o.data) ∧ w'.cell? ⟨g, o2 + k * 18 + 4, none⟩ = some (.int .i64 x.o.ver) ∧ w'.cell? ⟨g, o2 + k * 18 + 5, none⟩ = some (.int .i64 x.o.flags) ∧ w'.cell? ⟨g, o2 + k * 18 + 6, none⟩ = some (.int .i64 x.sess) ∧ w'.cell? ⟨g, o2 + k * 18 + 7, none⟩ = some (.int .i64 x.zxid) ∧ w'.cell? ⟨g, o2 + k * 18 + 8, none⟩ = some (.int .i64 x.n.made) ∧ w'.cell? ⟨g, o2 + k * 18 + 9, none⟩ = some (.int .i64 x.n.changed) ∧ w'.cell? ⟨g, o2 + k * 18 + 10, none⟩ = some (.int .i64 x.n.ver) ∧ w'.cell? ⟨g, o2 + k * 18 + 11, none⟩ = some (.int .i64 x.n.kids) ∧ w'.cell? ⟨g, o2 + k * 18 + 12, none⟩ = some (.int .i64 x.n.owner) ∧ w'.cell? ⟨g, o2 + k * 18 + 13, none⟩ = some (.int .i64 x.n.len) ∧ w'.cell? ⟨g, o2 + k * 18 + 14, none⟩ = some (.int .i64 x.n.cnt) ∧ w'.cell? ⟨g, o2 + k * 18 + 15, none⟩ = some (.string x.n.data) ∧ w'.cell? ⟨g, o2 + k * 18 + 16, none⟩ = some (.int .i64 x.n.next) ∧ w'.cell? ⟨g, o2 + k * 18 + 17, none⟩ = some (.slice na nL nc)) := fun w' hb => ⟨Below.kept hb (hcell 0 _ rfl), Below.kept hb (hcell 1 _ rfl), Below.kept hb (hcell 2 _ rfl), Below.kept hb (hcell 3 _ rfl), Below.kept hb (hcell 4 _ rfl), Below.kept hb (hcell 5 _ rfl), Below.kept hb (hcell 6 _ rfl), Below.kept hb (hcell 7 _ rfl), Below.kept hb (hcell 8 _ rfl), Below.kept hb (hcell 9 _ rfl), Below.kept hb (hcell 10 _ rfl), Below.kept hb (hcell 11 _ rfl), Below.kept hb (hcell 12 _ rfl), Below.kept hb (hcell 13 _ rfl), Below.kept hb (hcell 14 _ rfl), Below.kept hb (hcell 15 _ rfl), Below.kept hb (hcell 16 _ rfl), Below.kept hb (hcell 17 _ rfl)⟩
        clear hx hcell
        obtain ⟨y0, y1, y2, y3, y4, y5, y6, y7, y8, y9, y10, y11, y12, y13, y14, y15, y16, y17⟩ := HCL.out wr HR.out.1.below
        go_wp2_with fail
        clear y0 y1 y2 y3 y4 y5 y6 y7 y8 y9 y10 y11 y12 y13 y14 y15 y16 y17
        refine (heavy_any11 x na nL nc wr (HNV.out.below HR.out.1.below) HX.out).mono ?_
        rintro e w2 ⟨b2, rfl, hb2, hb⟩
        have M2 : Hid (Mine11 LT W w2 q t F) := HR.out.1.later HS.out.1 hb
        clear hb hb2
        cases b2 with
        | true =>
          go_wp2
          go_ret
          exact ⟨rfl, M2.out.below⟩
        | false =>
          go_wp2_with fail
          refine wp_region_held_drew (S := fun w' => Below W.heap.size W w') (by kernel_rfl) M2.out.below.drew (fun _ => ?_)
          have M3 : Hid (Mine11 LT W w2.drew q t F) := M2.out.later HS.out.1 (Below.refl _ _).drew
          clear M2
          generalize w2.drew = w3 at *
          refine' take_at (i := 0) (d := 48) (v := _) rfl rfl (by kernel_rfl) (by kernel_rfl) (by kernel_rfl) (fun _ _ _ h => h) (Or.inl ⟨by rfl, ?h0⟩) (M3.out.below) ?_
          case h0 =>
            intro w hSw
            go_simp
            with_reducible rfl
          simp only [List.setIfInBounds_toArray, List.set_cons_zero, List.set_cons_succ]
          refine' take_at (i := 1) (d := 49) (v := _) rfl rfl (by kernel_rfl) (by kernel_rfl) (by kernel_rfl) (fun _ _ _ h => h) (Or.inl ⟨by rfl, ?h1⟩) (M3.out.below) ?_
          case h1 =>
            intro w hSw
            go_simp
            with_reducible rfl
          simp only [List.setIfInBounds_toArray, List.set_cons_zero, List.set_cons_succ]
          refine' take_at (i := 2) (d := 50) (v := _) rfl rfl (by kernel_rfl) (by kernel_rfl) (by kernel_rfl) (fun _ _ _ h => h) (Or.inl ⟨by rfl, ?h2⟩) (M3.out.below) ?_
          case h2 =>
            intro w hSw
            go_simp
            with_reducible rfl
          simp only [List.setIfInBounds_toArray, List.set_cons_zero, List.set_cons_succ]
          refine' take_at (i := 3) (d := 51) (v := _) rfl rfl (by kernel_rfl) (by kernel_rfl) (by kernel_rfl) (fun _ _ _ h => h) (Or.inl ⟨by rfl, ?h3⟩) (M3.out.below) ?_
          case h3 =>
            intro w hSw
            go_simp
            with_reducible rfl
          simp only [List.setIfInBounds_toArray, List.set_cons_zero, List.set_cons_succ]
          refine' take_at (i := 4) (d := 52) (v := _) rfl rfl (by kernel_rfl) (by kernel_rfl) (by kernel_rfl) (fun _ _ _ h => h) (Or.inl ⟨by rfl, ?h4⟩) (M3.out.below) ?_
          case h4 =>
            intro w hSw
            go_simp
            with_reducible rfl
          simp only [List.setIfInBounds_toArray, List.set_cons_zero, List.set_cons_succ]
          refine' take_at (i := 5) (d := 53) (v := _) rfl rfl (by kernel_rfl) (by kernel_rfl) (by kernel_rfl) (fun _ _ _ h => h) (Or.inl ⟨by rfl, ?h5⟩) (M3.out.below) ?_
          case h5 =>
            intro w hSw
            obtain ⟨y0, y1, y2, y3, y4, y5, y6, y7, y8, y9, y10, y11, y12, y13, y14, y15, y16, y17⟩ := HCL.out w hSw
            go_simp
            with_reducible rfl
          simp only [List.setIfInBounds_toArray, List.set_cons_zero, List.set_cons_succ]
          refine' take_at (i := 6) (d := 54) (v := _) rfl rfl (by kernel_rfl) (by kernel_rfl) (by kernel_rfl) (fun _ _ _ h => h) (Or.inl ⟨by rfl, ?h6⟩) (M3.out.below) ?_
          case h6 =>
            intro w hSw
            go_simp
            with_reducible rfl
          simp only [List.setIfInBounds_toArray, List.set_cons_zero, List.set_cons_succ]
          refine' take_at (i := 7) (d := 55) (v := _) rfl rfl (by kernel_rfl) (by kernel_rfl) (by kernel_rfl) (fun _ _ _ h => h) (Or.inl ⟨by rfl, ?h7⟩) (M3.out.below) ?_
          case h7 =>
            intro w hSw
            go_simp
            with_reducible rfl
          simp only [List.setIfInBounds_toArray, List.set_cons_zero, List.set_cons_succ]
          refine' take_at (i := 8) (d := 56) (v := _) rfl rfl (by kernel_rfl) (by kernel_rfl) (by kernel_rfl) (fun _ _ _ h => h) (Or.inl ⟨by rfl, ?h8⟩) (M3.out.below) ?_
          case h8 =>
            intro w hSw
            go_simp
            with_reducible rfl
          simp only [List.setIfInBounds_toArray, List.set_cons_zero, List.set_cons_succ]
          refine' take_at (i := 9) (d := 57) (v := _) rfl rfl (by kernel_rfl) (by kernel_rfl) (by kernel_rfl) (fun _ _ _ h => h) (Or.inl ⟨by rfl, ?h9⟩) (M3.out.below) ?_
          case h9 =>
            intro w hSw
            go_simp
            with_reducible rfl
          simp only [List.setIfInBounds_toArray, List.set_cons_zero, List.set_cons_succ]
          refine' take_at (i := 10) (d := 58) (v := _) rfl rfl (by kernel_rfl) (by kernel_rfl) (by kernel_rfl) (fun _ _ _ h => h) (Or.inl ⟨by rfl, ?h10⟩) (M3.out.below) ?_
          case h10 =>
            intro w hSw
            obtain ⟨y0, y1, y2, y3, y4, y5, y6, y7, y8, y9, y10, y11, y12, y13, y14, y15, y16, y17⟩ := HCL.out w hSw
            go_simp
            with_reducible rfl
          simp only [List.setIfInBounds_toArray, List.set_cons_zero, List.set_cons_succ]
          refine' take_at (i := 11) (d := 59) (v := _) rfl rfl (by kernel_rfl) (by kernel_rfl) (by kernel_rfl) (fun _ _ _ h => h) (Or.inl ⟨by rfl, ?h11⟩) (M3.out.below) ?_
          case h11 =>
            intro w hSw
            go_simp
            with_reducible rfl
          simp only [List.setIfInBounds_toArray, List.set_cons_zero, List.set_cons_succ]
          refine' take_at (i := 12) (d := 60) (v := _) rfl rfl (by kernel_rfl) (by kernel_rfl) (by kernel_rfl) (fun _ _ _ h => h) (Or.inl ⟨by rfl, ?h12⟩) (M3.out.below) ?_
          case h12 =>
            intro w hSw
            go_simp
            with_reducible rfl
          simp only [List.setIfInBounds_toArray, List.set_cons_zero, List.set_cons_succ]
          refine' take_at (i := 13) (d := 61) (v := _) rfl rfl (by kernel_rfl) (by kernel_rfl) (by kernel_rfl) (fun _ _ _ h => h) (Or.inl ⟨by rfl, ?h13⟩) (M3.out.below) ?_
          case h13 =>
            intro w hSw
            go_simp
            with_reducible rfl
          simp only [List.setIfInBounds_toArray, List.set_cons_zero, List.set_cons_succ]
          refine' take_at (i := 14) (d := 62) (v := _) rfl rfl (by kernel_rfl) (by kernel_rfl) (by kernel_rfl) (fun _ _ _ h => h) (Or.inl ⟨by rfl, ?h14⟩) (M3.out.below) ?_
          case h14 =>
            intro w hSw
            go_simp
            with_reducible rfl
          simp only [List.setIfInBounds_toArray, List.set_cons_zero, List.set_cons_succ]
          refine' take_at (i := 15) (d := 63) (v := _) rfl rfl (by kernel_rfl) (by kernel_rfl) (by kernel_rfl) (fun _ _ _ h => h) (Or.inl ⟨by rfl, ?h15⟩) (M3.out.below) ?_
          case h15 =>
            intro w hSw
            obtain ⟨y0, y1, y2, y3, y4, y5, y6, y7, y8, y9, y10, y11, y12, y13, y14, y15, y16, y17⟩ := HCL.out w hSw
            go_simp
            with_reducible rfl
          simp only [List.setIfInBounds_toArray, List.set_cons_zero, List.set_cons_succ]
          refine wpAnyH_ready (rs := [16]) (by kernel_rfl) (by simp) ?_
          refine AllReadyH.cons (o := _) rfl (fun KQ hKQ => ?_) AllReadyH.nil
          go_simp
          obtain ⟨x4, t4, he4⟩ : ∃ x4 t4, Tq.doo t x.o x.sess x.zxid = (x4, t4) := ⟨_, _, rfl⟩
          have hfin := Tq.fine_doo (o := x.o) (s := x.sess) (z := x.zxid) M3.out.fine (HR.out.2.1.more (by omega))
          have hfew := Tq.few_doo (o := x.o) (s := x.sess) (z := x.zxid) HR.out.2.1
          have hsnd := Tq.snd_doo (o := x.o) (s := x.sess) (z := x.zxid) M3.out.fine HR.out.2.2.1
          have hroom := Tq.room_doo t x.o x.sess x.zxid
          rw [he4] at hfin hfew hsnd hroom
          refine (M3.out.doo HS.out.1 HS.out.2.1 x.o x.sess x.zxid HX.out.o x4 t4 he4 hfin).mono ?_
          rintro e w4 ⟨F4, v4, rfl, hsq, hof, hM, hmv⟩
          have M4 : Hid (Mine11 LT W w4 q t4 F4 ∧ Tq.Few t4 (k + 1) ∧ Tq.Snd t4 ∧ t4.room = room) := ⟨hM, hfew, hsnd, hroom.trans HR.out.2.2.2⟩
          clear hof hM hmv he4 hfin hfew hsnd hroom hsq
          simp only []
          refine hKQ.out _ _ M4.out.1.below (fun _ => ?_)
          clear hKQ
          refine wpAnyH_done (by kernel_rfl) ?_ _
          go_wp2
          go_roundw
          case rel => exact ⟨k + 1, t4, F4, by omega, by go_num, M4.out.1, M4.out.2.1, M4.out.2.2.1, M4.out.2.2.2⟩
          case measure => simp [intOf]; omega
    · have hlt' : ¬ (k : Int) < (N : Int) := by omega
      have hkN : k ≤ 60 := by omega
      go_wp2_with fail
      refine (HS.out.1.paths q t F wr HR.out.1.ld HR.out.1.fine).mono ?_
      rintro e w5 ⟨F5, v5, rfl, hsq, hof, hL, hmv⟩
      have H5 : Hid (Sd11 LT W w5 q t F5 v5) := ⟨HR.out.1.step hL HR.out.1.fine hmv, ⟨hsq.ss, fun _ => hof⟩⟩
      have HT : Hid (Tq.Few t k ∧ Tq.Snd t ∧ t.room = room) := HR.out.2
      clear hof hL hmv HR
      obtain ⟨pa, pL, pc, rfl, hpL, hj2⟩ := hsq
      have HPL : Hid (pL = t.l.length) := by
        have e : pL = t.l.length := by rw [hpL]; unfold Tq.keys; simp
        exact e
      have hpL5 : pL ≤ 500 := by have h1 := HPL.out; have h2 := H5.out.mine.fine.len; have h3 := H5.out.mine.fine.room; omega
      clear hpL hj2 hlt hlt' hkN hk
      go_wp2
      go_loopw [9] (fun i wr => ∃ (j : Nat) (F : Nat → Prop), j ≤ pL ∧ i = .int .i64 (j : Int) ∧ Sd11 LT W wr q t F (.slice pa pL pc)) (fun i _ => pL - (intOf i).toNat)
      case atStart => exact ⟨0, F5, Nat.zero_le _, rfl, H5.out⟩
      case round =>
        obtain ⟨j, F6, hj, rfl, hM⟩ := hrel
        have H6 : Hid (Sd11 LT W wr q t F6 (.slice pa pL pc)) := hM
        clear hM H5
        by_cases hjl : j < pL
        · have hjl' : (j : Int) < (pL : Int) := by omega
          have hj0 : (0 : Int) ≤ (j : Int) := by omega
          have hwj : IntKind.wrap .i64 ((j : Int) + 1) = (j : Int) + 1 := by rw [IntKind.wrap_i64]; omega
          obtain ⟨p, n, hp1, hp2, hp3, hp4⟩ := Tq.key_at H6.out.mine.fine (j := j) (by have := HPL.out; omega)
          have HP : Hid ((Tq.keys t.l)[j]? = some p ∧ Tq.find t.l p = some n ∧ Pl.goodB p.data.toList = true ∧ Node11 n) := ⟨hp1, hp2, hp3, hp4⟩
          clear hp1 hp2 hp3 hp4
          obtain ⟨g, o2, hpa, lx⟩ := H6.out.ks.cell HP.out.1
          subst hpa
          go_wp2_with fail
          clear lx
          refine (H6.out.node HS.out.1 p HP.out.2.1).mono ?_
          rintro e w7 ⟨F7, na, nL, nc, rfl, hM, hu, hnL, hmv⟩
          obtain ⟨qn, hqn⟩ : ∃ z, z = w7.heap.size := ⟨_, rfl⟩
          have H8 : Hid (Sd11 LT W (w7.alloc (.cells #[.int .i64 n.made, .int .i64 n.changed, .int .i64 n.ver, .int .i64 n.kids, .int .i64 n.owner, .int .i64 n.len, .int .i64 n.cnt, .string n.data, .int .i64 n.next, .slice na nL nc] 38)) q t F7 (.slice (some ⟨g, o2, none⟩) pL pc) ∧ Bx11 (w7.alloc (.cells #[.int .i64 n.made, .int .i64 n.changed, .int .i64 n.ver, .int .i64 n.kids, .int .i64 n.owner, .int .i64 n.len, .int .i64 n.cnt, .string n.data, .int .i64 n.next, .slice na nL nc] 38)) F7 qn n (.slice na nL nc)) := by
            refine ⟨hM.later HS.out.1 ((Below.refl _ w7).alloc (Nat.le_refl _) _), ?_⟩
            rw [hqn]
            exact Bx11.made HS.out.1 hM.mine hu
          have HL : Hid (nL = n.names.length ∧ n.cnt = (n.names.length : Int) ∧ (n.owner ≠ 0 → n.names = [])) := ⟨hnL, HT.out.2.1.cnt p n HP.out.2.1, HT.out.2.1.eph p n HP.out.2.1⟩
          clear hM hu hnL hmv H6
          unfold kv
          go_upto_region 17 with fail
          rw [← hqn]
          clear hqn
          generalize w7.alloc (.cells #[.int .i64 n.made, .int .i64 n.changed, .int .i64 n.ver, .int .i64 n.kids, .int .i64 n.owner, .int .i64 n.len, .int .i64 n.cnt, .string n.data, .int .i64 n.next, .slice na nL nc] 38) = w8 at *
          go_cut [101] (fun b wx => b = .bool false ∧ Sd11 LT W wx q t F7 (.slice (some ⟨g, o2, none⟩) pL pc) ∧ Bx11 wx F7 qn n (.slice na nL nc))
          case first =>
            go_wp2_with fail
            refine (HS.out.2.2.eph qn n (.slice na nL nc) w8 H8.out.2.blk).mono ?_
            rintro e w9 ⟨rfl, hb⟩
            have H9 : Hid (Sd11 LT W w9 q t F7 (.slice (some ⟨g, o2, none⟩) pL pc) ∧ Bx11 w9 F7 qn n (.slice na nL nc)) := ⟨H8.out.1.later HS.out.1 hb, H8.out.2.later hb⟩
            clear hb H8
            have hcn : n.cnt = (nL : Int) := by rw [HL.out.2.1, HL.out.1]
            have hq0 : decide (n.owner ≠ 0) = true → nL = 0 := fun h => by rw [HL.out.1, HL.out.2.2 (of_decide_eq_true h)]; rfl
            have c6 : w9.cell? ⟨qn, 6, none⟩ = some (.int .i64 (nL : Int)) := by rw [H9.out.2.blk.cell 6, ← hcn]; rfl
            have c9 : w9.cell? ⟨qn, 9, none⟩ = some (.slice na nL nc) := by rw [H9.out.2.blk.cell 9]; rfl
            obtain ⟨b9, hb9⟩ : ∃ b, b = decide (n.owner ≠ 0) := ⟨_, rfl⟩
            rw [← hb9] at hq0 ⊢
            clear hb9 hcn
            cases b9 with
            | false =>
              clear hq0
              go_wp2
              go_meet
              exact ⟨by go_num, H9.out.1, H9.out.2⟩
            | true =>
              have h0 := hq0 rfl
              clear hq0
              have h0' : (nL : Int) = 0 := by omega
              go_wp2
              go_meet
              exact ⟨by go_num, H9.out.1, H9.out.2⟩
          case rest =>
            obtain ⟨rfl, h1, h2⟩ := hcut
            have HC9 : Hid (Sd11 LT W wc q t F7 (.slice (some ⟨g, o2, none⟩) pL pc) ∧ Bx11 wc F7 qn n (.slice na nL nc)) := ⟨h1, h2⟩
            clear h1 h2 H8
            have hnL5 : nL ≤ 1000 := by have h1 := HL.out.1; have h2 := HP.out.2.2.2.many; omega
            go_wp2
            go_loopw [12] (fun i wr => ∃ (i2 : Nat) (F : Nat → Prop), i2 ≤ nL ∧ i = .int .i64 (i2 : Int) ∧ Sd11 LT W wr q t F (.slice (some ⟨g, o2, none⟩) pL pc) ∧ Bx11 wr F qn n (.slice na nL nc)) (fun i _ => nL - (intOf i).toNat)
            case atStart => exact ⟨0, F7, Nat.zero_le _, rfl, HC9.out.1, HC9.out.2⟩
            case round =>
              obtain ⟨i2, Fa, hi2, rfl, h1, h2⟩ := hrel
              have HA : Hid (Sd11 LT W wr q t Fa (.slice (some ⟨g, o2, none⟩) pL pc) ∧ Bx11 wr Fa qn n (.slice na nL nc)) := ⟨h1, h2⟩
              clear h1 h2 HC9
              have c9 : wr.cell? ⟨qn, 9, none⟩ = some (.slice na nL nc) := by rw [HA.out.2.blk.cell 9]; rfl
              by_cases hil : i2 < nL
              · have hil' : (i2 : Int) < (nL : Int) := by omega
                have hi0 : (0 : Int) ≤ (i2 : Int) := by omega
                have hwi : IntKind.wrap .i64 ((i2 : Int) + 1) = (i2 : Int) + 1 := by rw [IntKind.wrap_i64]; omega
                obtain ⟨s, hs⟩ : ∃ s, n.names[i2]? = some s := ⟨_, List.getElem?_eq_getElem (by have := HL.out.1; omega)⟩
                obtain ⟨m, hm⟩ := HT.out.2.1.kid p n s HP.out.2.1 (List.mem_of_getElem? hs)
                have HM : Hid (n.names[i2]? = some s ∧ Tq.find t.l (Tq.sub p s) = some m) := ⟨hs, hm⟩
                clear hs hm
                have hz1 : p.size ≤ 1000 := by
                  have h1 := (Pl.good_parts HP.out.2.2.1).2.2
                  rw [Array.length_toList] at h1
                  have h3 : p.size = p.data.size := rfl
                  omega
                have hz2 : s.size ≤ 1000 := by
                  have h1 : s.data.toList.length ≤ 40 := by
                    have h := HP.out.2.2.2.long s (List.mem_of_getElem? HM.out.1)
                    unfold Pl.nameB at h
                    simp only [Bool.and_eq_true, decide_eq_true_eq] at h
                    exact h.1.1.1.2
                  rw [Array.length_toList] at h1
                  have h3 : s.size = s.data.size := rfl
                  omega
                have hz3 : ¬ 9223372036854775807 < p.size + 1 := by omega
                have hz4 : ¬ 9223372036854775807 < p.size + 1 + s.size := by omega
                have hz5 : (p ++ ⟨#[47]⟩).size = p.size + 1 := by rw [ByteArray.size_append]; rfl
                clear hz1 hz2
                go_wp2_with fail
                refine wp_region_held_drew (S := fun w' => ∃ F', Moved wr w' Fa F') (by kernel_rfl) ⟨Fa, Moved.of_below Fa (Below.refl _ _).drew⟩ (fun _ => ?_)
                have HD : Hid (Sd11 LT W wr.drew q t Fa (.slice (some ⟨g, o2, none⟩) pL pc) ∧ Bx11 wr.drew Fa qn n (.slice na nL nc) ∧ Moved wr wr.drew Fa Fa) := ⟨HA.out.1.later HS.out.1 (Below.refl _ _).drew, HA.out.2.later (Below.refl _ _).drew, Moved.of_below Fa (Below.refl _ _).drew⟩
                generalize wr.drew = wd at *
                clear c9
                refine' take_at (i := 0) (d := 110) (v := _) rfl rfl (by kernel_rfl) (by kernel_rfl) (by kernel_rfl) (fun _ _ _ h => h) (Or.inl ⟨by rfl, ?h0⟩) (⟨Fa, HD.out.2.2⟩) ?_
                case h0 =>
                  intro w hSw
                  go_simp
                  with_reducible rfl
                simp only [List.setIfInBounds_toArray, List.set_cons_zero, List.set_cons_succ]
                refine' take_at (i := 1) (d := 111) (v := _) rfl rfl (by kernel_rfl) (by kernel_rfl) (by kernel_rfl) (fun _ _ _ h => h) (Or.inl ⟨by rfl, ?h1⟩) (⟨Fa, HD.out.2.2⟩) ?_
                case h1 =>
                  intro w hSw
                  go_simp
                  with_reducible rfl
                simp only [List.setIfInBounds_toArray, List.set_cons_zero, List.set_cons_succ]
                refine' take_at (i := 2) (d := 112) (v := _) rfl rfl (by kernel_rfl) (by kernel_rfl) (by kernel_rfl) (fun _ _ _ h => h) (Or.inl ⟨by rfl, ?h2⟩) (⟨Fa, HD.out.2.2⟩) ?_
                case h2 =>
                  intro w hSw
                  go_simp
                  with_reducible rfl
                simp only [List.setIfInBounds_toArray, List.set_cons_zero, List.set_cons_succ]
                refine' take_at (i := 3) (d := 113) (v := _) rfl rfl (by kernel_rfl) (by kernel_rfl) (by kernel_rfl) (fun _ _ _ h => h) (Or.inl ⟨by rfl, ?h3⟩) (⟨Fa, HD.out.2.2⟩) ?_
                case h3 =>
                  intro w hSw
                  go_simp
                  with_reducible rfl
                simp only [List.setIfInBounds_toArray, List.set_cons_zero, List.set_cons_succ]
                refine' take_at (i := 4) (d := 114) (v := _) rfl rfl (by kernel_rfl) (by kernel_rfl) (by kernel_rfl) (fun _ _ _ h => h) (Or.inl ⟨by rfl, ?h4⟩) (⟨Fa, HD.out.2.2⟩) ?_
                case h4 =>
                  intro w hSw
                  obtain ⟨Fx, hmx⟩ := hSw
                  obtain ⟨g', o', e', lx⟩ := (HA.out.1.ks.moved hmx).cell HP.out.1
                  cases e'
                  go_simp
                  with_reducible rfl
                simp only [List.setIfInBounds_toArray, List.set_cons_zero, List.set_cons_succ]
                refine' take_at (i := 5) (d := 115) (v := _) rfl rfl (by kernel_rfl) (by kernel_rfl) (by kernel_rfl) (fun _ _ _ h => h) (Or.inl ⟨by rfl, ?h5⟩) (⟨Fa, HD.out.2.2⟩) ?_
                case h5 =>
                  intro w hSw
                  go_simp
                  with_reducible rfl
                simp only [List.setIfInBounds_toArray, List.set_cons_zero, List.set_cons_succ]
                refine' take_at (i := 6) (d := 116) (v := _) rfl rfl (by kernel_rfl) (by kernel_rfl) (by kernel_rfl) (fun _ _ _ h => h) (Or.inl ⟨by rfl, ?h6⟩) (⟨Fa, HD.out.2.2⟩) ?_
                case h6 =>
                  intro w hSw
                  go_simp
                  with_reducible rfl
                simp only [List.setIfInBounds_toArray, List.set_cons_zero, List.set_cons_succ]
                refine' take_at (i := 7) (d := 117) (v := _) rfl rfl (by kernel_rfl) (by kernel_rfl) (by kernel_rfl) (fun _ _ _ h => h) (Or.inl ⟨by rfl, ?h7⟩) (⟨Fa, HD.out.2.2⟩) ?_
                case h7 =>
                  intro w hSw
                  obtain ⟨Fx, hmx⟩ := hSw
                  have c9 : w.cell? ⟨qn, 9, none⟩ = some (.slice na nL nc) := by rw [(HA.out.2.moved hmx).blk.cell 9]; rfl
                  go_simp
                  with_reducible rfl
                simp only [List.setIfInBounds_toArray, List.set_cons_zero, List.set_cons_succ]
                obtain ⟨g3, o3, hna, lx3⟩ := HA.out.2.nm.cell HM.out.1
                subst hna
                clear lx3
                refine' take_at (i := 8) (d := 118) (v := _) rfl rfl (by kernel_rfl) (by kernel_rfl) (by kernel_rfl) (fun _ _ _ h => h) (Or.inl ⟨by rfl, ?h8⟩) (⟨Fa, HD.out.2.2⟩) ?_
                case h8 =>
                  intro w hSw
                  go_simp
                  with_reducible rfl
                simp only [List.setIfInBounds_toArray, List.set_cons_zero, List.set_cons_succ]
                refine' take_at (i := 9) (d := 119) (v := _) rfl rfl (by kernel_rfl) (by kernel_rfl) (by kernel_rfl) (fun _ _ _ h => h) (Or.inl ⟨by rfl, ?h9⟩) (⟨Fa, HD.out.2.2⟩) ?_
                case h9 =>
                  intro w hSw
                  go_simp
                  with_reducible rfl
                simp only [List.setIfInBounds_toArray, List.set_cons_zero, List.set_cons_succ]
                refine' take_at (i := 10) (d := 120) (v := _) rfl rfl (by kernel_rfl) (by kernel_rfl) (by kernel_rfl) (fun _ _ _ h => h) (Or.inl ⟨by rfl, ?h10⟩) (⟨Fa, HD.out.2.2⟩) ?_
                case h10 =>
                  intro w hSw
                  obtain ⟨Fx, hmx⟩ := hSw
                  obtain ⟨g', o', e', lx⟩ := (HA.out.2.moved hmx).nm.cell HM.out.1
                  cases e'
                  go_simp
                  with_reducible rfl
                simp only [List.setIfInBounds_toArray, List.set_cons_zero, List.set_cons_succ]
                refine' take_at (i := 11) (d := 121) (v := _) rfl rfl (by kernel_rfl) (by kernel_rfl) (by kernel_rfl) (fun _ _ _ h => h) (Or.inl ⟨by rfl, ?h11⟩) (⟨Fa, HD.out.2.2⟩) ?_
                case h11 =>
                  intro w hSw
                  go_simp
                  with_reducible rfl
                simp only [List.setIfInBounds_toArray, List.set_cons_zero, List.set_cons_succ]
                refine wpAnyH_ready (rs := [12, 16]) (by kernel_rfl) (by simp) ?_
                refine AllReadyH.cons (o := _) rfl (fun KQ hKQ => ?_) (AllReadyH.cons (o := _) rfl (fun KQ hKQ => ?_) AllReadyH.nil)
                · as_aux_lemma =>
                    go_simp
                    rw [Tq.sub_app p s]
                    refine (HD.out.1.node HS.out.1 (Tq.sub p s) HM.out.2).mono ?_
                    rintro e we ⟨Fe, ma, mL, mc, rfl, hSd, hSm, hmL, hmv⟩
                    have HE : Hid (Sd11 LT W we q t Fe (.slice (some ⟨g, o2, none⟩) pL pc) ∧ Moved wr we Fa Fe) := ⟨hSd, HD.out.2.2.trans hmv⟩
                    clear hSd hSm hmL hmv
                    unfold kv
                    simp only []
                    refine hKQ.out _ _ ⟨Fe, HE.out.2⟩ (fun _ => ?_)
                    clear hKQ KQ
                    refine' take_at (i := 13) (d := 109) (v := _) rfl rfl (by kernel_rfl) (by kernel_rfl) (by kernel_rfl) (fun _ _ _ h => h) (Or.inl ⟨by rfl, ?h13⟩) (⟨Fe, HE.out.2⟩) ?_
                    case h13 =>
                      intro w hSw
                      go_simp
                      with_reducible rfl
                    simp only [List.setIfInBounds_toArray, List.set_cons_zero, List.set_cons_succ]
                    refine' take_at (i := 14) (d := 123) (v := _) rfl rfl (by kernel_rfl) (by kernel_rfl) (by kernel_rfl) (fun _ _ _ h => h) (Or.inl ⟨by rfl, ?h14⟩) (⟨Fe, HE.out.2⟩) ?_
                    case h14 =>
                      intro w hSw
                      go_simp
                      with_reducible rfl
                    simp only [List.setIfInBounds_toArray, List.set_cons_zero, List.set_cons_succ]
                    refine' take_at (i := 15) (d := 124) (v := _) rfl rfl (by kernel_rfl) (by kernel_rfl) (by kernel_rfl) (fun _ _ _ h => h) (Or.inl ⟨by rfl, ?h15⟩) (⟨Fe, HE.out.2⟩) ?_
                    case h15 =>
                      intro w hSw
                      go_simp
                      with_reducible rfl
                    simp only [List.setIfInBounds_toArray, List.set_cons_zero, List.set_cons_succ]
                    refine wpAnyH_ready (rs := [16]) (by kernel_rfl) (by simp) ?_
                    refine AllReadyH.cons (o := _) rfl (fun KQ hKQ => ?_) AllReadyH.nil
                    go_simp
                    obtain ⟨qb, hqb⟩ : ∃ z, z = we.heap.size := ⟨_, rfl⟩
                    rw [← hqb]
                    have HF : Hid (Cb (we.alloc (.cells #[.int .i64 0, .int .i64 0, .int .i64 0, .int .i64 0, .int .i64 0, .int .i64 0, .int .i64 0, .string ⟨#[]⟩, .int .i64 0, .slice none 0 0] 38)) qb (k10 Kq.zero (.slice none 0 0)) 38 ∧ Mine11 LT W (we.alloc (.cells #[.int .i64 0, .int .i64 0, .int .i64 0, .int .i64 0, .int .i64 0, .int .i64 0, .int .i64 0, .string ⟨#[]⟩, .int .i64 0, .slice none 0 0] 38)) q t Fe ∧ Moved wr (we.alloc (.cells #[.int .i64 0, .int .i64 0, .int .i64 0, .int .i64 0, .int .i64 0, .int .i64 0, .int .i64 0, .string ⟨#[]⟩, .int .i64 0, .slice none 0 0] 38)) Fa Fe ∧ wr.heap.size ≤ qb ∧ ¬ Fe qb) := by
                      have hb := (Below.refl _ we).alloc (Nat.le_refl _) (.cells #[.int .i64 0, .int .i64 0, .int .i64 0, .int .i64 0, .int .i64 0, .int .i64 0, .int .i64 0, .string ⟨#[]⟩, .int .i64 0, .slice none 0 0] 38)
                      refine ⟨?_, HE.out.1.mine.later HS.out.1 hb, HE.out.2.trans (Moved.of_below Fe hb), by rw [hqb]; exact HE.out.2.size, fun h => ?_⟩
                      · rw [hqb]
                        exact Cb.made we (k10 Kq.zero (.slice none 0 0)) _
                      · have := HS.out.1.lt HE.out.1.mine.ld h
                        omega
                    clear hqb
                    generalize we.alloc (.cells #[.int .i64 0, .int .i64 0, .int .i64 0, .int .i64 0, .int .i64 0, .int .i64 0, .int .i64 0, .string ⟨#[]⟩, .int .i64 0, .slice none 0 0] 38) = wf at *
                    refine hKQ.out _ _ ⟨Fe, HF.out.2.2.1⟩ (fun _ => ?_)
                    clear hKQ KQ
                    refine wpAnyH_ready (rs := [17]) (by kernel_rfl) (by simp) ?_
                    refine AllReadyH.cons (o := _) rfl (fun KQ hKQ => ?_) AllReadyH.nil
                    refine wp_store_row 38 _ _ rfl qb #[.int .i64 m.made, .int .i64 m.changed, .int .i64 m.ver, .int .i64 m.kids, .int .i64 m.owner, .int .i64 m.len, .int .i64 m.cnt, .string m.data, .int .i64 m.next, .slice ma mL mc] rfl rfl 38 (k10 Kq.zero (.slice none 0 0)).toArray HF.out.1 (by kernel_rfl) rfl (by kernel_rfl) ?_
                    go_simp
                    have HW : Hid (Sd11 LT W (wf.setRow qb #[.int .i64 m.made, .int .i64 m.changed, .int .i64 m.ver, .int .i64 m.kids, .int .i64 m.owner, .int .i64 m.len, .int .i64 m.cnt, .string m.data, .int .i64 m.next, .slice ma mL mc]) q t Fe (.slice (some ⟨g, o2, none⟩) pL pc) ∧ Bx11 (wf.setRow qb #[.int .i64 m.made, .int .i64 m.changed, .int .i64 m.ver, .int .i64 m.kids, .int .i64 m.owner, .int .i64 m.len, .int .i64 m.cnt, .string m.data, .int .i64 m.next, .slice ma mL mc]) Fe qn n (.slice (some ⟨g3, o3, none⟩) nL nc) ∧ Moved wr (wf.setRow qb #[.int .i64 m.made, .int .i64 m.changed, .int .i64 m.ver, .int .i64 m.kids, .int .i64 m.owner, .int .i64 m.len, .int .i64 m.cnt, .string m.data, .int .i64 m.next, .slice ma mL mc]) Fa Fe) := Sd11.stored HS.out.1 HA.out.1 HA.out.2 HF.out.2.2.1 HF.out.2.1 HF.out.2.2.2.1 HF.out.2.2.2.2 (grown_setRow _ _ _)
                    generalize wf.setRow qb #[.int .i64 m.made, .int .i64 m.changed, .int .i64 m.ver, .int .i64 m.kids, .int .i64 m.owner, .int .i64 m.len, .int .i64 m.cnt, .string m.data, .int .i64 m.next, .slice ma mL mc] = wg at *
                    refine hKQ.out _ _ ⟨Fe, HW.out.2.2⟩ (fun _ => ?_)
                    clear hKQ KQ
                    refine' take_at (i := 18) (d := 14) (v := _) rfl rfl (by kernel_rfl) (by kernel_rfl) (by kernel_rfl) (fun _ _ _ h => h) (Or.inl ⟨by rfl, ?h18⟩) (⟨Fe, HW.out.2.2⟩) ?_
                    case h18 =>
                      intro w hSw
                      go_simp
                      with_reducible rfl
                    simp only [List.setIfInBounds_toArray, List.set_cons_zero, List.set_cons_succ]
                    refine wpAnyH_done (by kernel_rfl) ?_ _
                    go_wp2
                    go_roundw
                    case rel => exact ⟨i2 + 1, Fe, by omega, by go_num, HW.out.1, HW.out.2.1⟩
                    case measure => simp [intOf]; omega
                · as_aux_lemma =>
                    go_simp
                    obtain ⟨qb, hqb⟩ : ∃ z, z = wd.heap.size := ⟨_, rfl⟩
                    rw [← hqb]
                    have HF : Hid (Cb (wd.alloc (.cells #[.int .i64 0, .int .i64 0, .int .i64 0, .int .i64 0, .int .i64 0, .int .i64 0, .int .i64 0, .string ⟨#[]⟩, .int .i64 0, .slice none 0 0] 38)) qb (k10 Kq.zero (.slice none 0 0)) 38 ∧ Sd11 LT W (wd.alloc (.cells #[.int .i64 0, .int .i64 0, .int .i64 0, .int .i64 0, .int .i64 0, .int .i64 0, .int .i64 0, .string ⟨#[]⟩, .int .i64 0, .slice none 0 0] 38)) q t Fa (.slice (some ⟨g, o2, none⟩) pL pc) ∧ Moved wr (wd.alloc (.cells #[.int .i64 0, .int .i64 0, .int .i64 0, .int .i64 0, .int .i64 0, .int .i64 0, .int .i64 0, .string ⟨#[]⟩, .int .i64 0, .slice none 0 0] 38)) Fa Fa ∧ wr.heap.size ≤ qb ∧ ¬ Fa qb) := by
                      have hb := (Below.refl _ wd).alloc (Nat.le_refl _) (.cells #[.int .i64 0, .int .i64 0, .int .i64 0, .int .i64 0, .int .i64 0, .int .i64 0, .int .i64 0, .string ⟨#[]⟩, .int .i64 0, .slice none 0 0] 38)
                      refine ⟨?_, HD.out.1.later HS.out.1 hb, HD.out.2.2.trans (Moved.of_below Fa hb), by rw [hqb]; exact HD.out.2.2.size, fun h => ?_⟩
                      · rw [hqb]
                        exact Cb.made wd (k10 Kq.zero (.slice none 0 0)) _
                      · have := HS.out.1.lt HD.out.1.mine.ld h
                        omega
                    clear hqb
                    generalize wd.alloc (.cells #[.int .i64 0, .int .i64 0, .int .i64 0, .int .i64 0, .int .i64 0, .int .i64 0, .int .i64 0, .string ⟨#[]⟩, .int .i64 0, .slice none 0 0] 38) = we at *
                    refine hKQ.out _ _ ⟨Fa, HF.out.2.2.1⟩ (fun _ => ?_)
                    clear hKQ KQ
                    refine wpAnyH_ready (rs := [12]) (by kernel_rfl) (by simp) ?_
                    refine AllReadyH.cons (o := _) rfl (fun KQ hKQ => ?_) AllReadyH.nil
                    go_simp
                    rw [Tq.sub_app p s]
                    refine (HF.out.2.1.node HS.out.1 (Tq.sub p s) HM.out.2).mono ?_
                    rintro e wf ⟨Fe, ma, mL, mc, rfl, hSd, hSm, hmL, hmv⟩
                    have HG : Hid (Cb wf qb (k10 Kq.zero (.slice none 0 0)) 38 ∧ Mine11 LT W wf q t Fe ∧ Moved wr wf Fa Fe ∧ wr.heap.size ≤ qb ∧ ¬ Fe qb) := by
                      refine ⟨HF.out.1.keep (hmv.block qb HF.out.1.lt HF.out.2.2.2.2), hSd.mine, HF.out.2.2.1.trans hmv, HF.out.2.2.2.1, fun h => ?_⟩
                      rcases hmv.sub qb h with h2 | h2
                      · exact HF.out.2.2.2.2 h2
                      · have := HF.out.1.lt
                        omega
                    clear hSd hSm hmL hmv HF
                    unfold kv
                    simp only []
                    refine hKQ.out _ _ ⟨Fe, HG.out.2.2.1⟩ (fun _ => ?_)
                    clear hKQ KQ
                    refine' take_at (i := 13) (d := 109) (v := _) rfl rfl (by kernel_rfl) (by kernel_rfl) (by kernel_rfl) (fun _ _ _ h => h) (Or.inl ⟨by rfl, ?h13⟩) (⟨Fe, HG.out.2.2.1⟩) ?_
                    case h13 =>
                      intro w hSw
                      go_simp
                      with_reducible rfl
                    simp only [List.setIfInBounds_toArray, List.set_cons_zero, List.set_cons_succ]
                    refine' take_at (i := 14) (d := 123) (v := _) rfl rfl (by kernel_rfl) (by kernel_rfl) (by kernel_rfl) (fun _ _ _ h => h) (Or.inl ⟨by rfl, ?h14⟩) (⟨Fe, HG.out.2.2.1⟩) ?_
                    case h14 =>
                      intro w hSw
                      go_simp
                      with_reducible rfl
                    simp only [List.setIfInBounds_toArray, List.set_cons_zero, List.set_cons_succ]
                    refine' take_at (i := 15) (d := 124) (v := _) rfl rfl (by kernel_rfl) (by kernel_rfl) (by kernel_rfl) (fun _ _ _ h => h) (Or.inl ⟨by rfl, ?h15⟩) (⟨Fe, HG.out.2.2.1⟩) ?_
                    case h15 =>
                      intro w hSw
                      go_simp
                      with_reducible rfl
                    simp only [List.setIfInBounds_toArray, List.set_cons_zero, List.set_cons_succ]
                    refine wpAnyH_ready (rs := [17]) (by kernel_rfl) (by simp) ?_
                    refine AllReadyH.cons (o := _) rfl (fun KQ hKQ => ?_) AllReadyH.nil
                    refine wp_store_row 38 _ _ rfl qb #[.int .i64 m.made, .int .i64 m.changed, .int .i64 m.ver, .int .i64 m.kids, .int .i64 m.owner, .int .i64 m.len, .int .i64 m.cnt, .string m.data, .int .i64 m.next, .slice ma mL mc] rfl rfl 38 (k10 Kq.zero (.slice none 0 0)).toArray HG.out.1 (by kernel_rfl) rfl (by kernel_rfl) ?_
                    go_simp
                    have HW : Hid (Sd11 LT W (wf.setRow qb #[.int .i64 m.made, .int .i64 m.changed, .int .i64 m.ver, .int .i64 m.kids, .int .i64 m.owner, .int .i64 m.len, .int .i64 m.cnt, .string m.data, .int .i64 m.next, .slice ma mL mc]) q t Fe (.slice (some ⟨g, o2, none⟩) pL pc) ∧ Bx11 (wf.setRow qb #[.int .i64 m.made, .int .i64 m.changed, .int .i64 m.ver, .int .i64 m.kids, .int .i64 m.owner, .int .i64 m.len, .int .i64 m.cnt, .string m.data, .int .i64 m.next, .slice ma mL mc]) Fe qn n (.slice (some ⟨g3, o3, none⟩) nL nc) ∧ Moved wr (wf.setRow qb #[.int .i64 m.made, .int .i64 m.changed, .int .i64 m.ver, .int .i64 m.kids, .int .i64 m.owner, .int .i64 m.len, .int .i64 m.cnt, .string m.data, .int .i64 m.next, .slice ma mL mc]) Fa Fe) := Sd11.stored HS.out.1 HA.out.1 HA.out.2 HG.out.2.2.1 HG.out.2.1 HG.out.2.2.2.1 HG.out.2.2.2.2 (grown_setRow _ _ _)
                    generalize wf.setRow qb #[.int .i64 m.made, .int .i64 m.changed, .int .i64 m.ver, .int .i64 m.kids, .int .i64 m.owner, .int .i64 m.len, .int .i64 m.cnt, .string m.data, .int .i64 m.next, .slice ma mL mc] = wg at *
                    refine hKQ.out _ _ ⟨Fe, HW.out.2.2⟩ (fun _ => ?_)
                    clear hKQ KQ
                    refine' take_at (i := 18) (d := 14) (v := _) rfl rfl (by kernel_rfl) (by kernel_rfl) (by kernel_rfl) (fun _ _ _ h => h) (Or.inl ⟨by rfl, ?h18⟩) (⟨Fe, HW.out.2.2⟩) ?_
                    case h18 =>
                      intro w hSw
                      go_simp
                      with_reducible rfl
                    simp only [List.setIfInBounds_toArray, List.set_cons_zero, List.set_cons_succ]
                    refine wpAnyH_done (by kernel_rfl) ?_ _
                    go_wp2
                    go_roundw
                    case rel => exact ⟨i2 + 1, Fe, by omega, by go_num, HW.out.1, HW.out.2.1⟩
                    case measure => simp [intOf]; omega
              · as_aux_lemma =>
                  have hil' : ¬ (i2 : Int) < (nL : Int) := by omega
                  obtain ⟨g', o', e', lx⟩ := HA.out.1.ks.cell HP.out.1
                  cases e'
                  go_wp2_with fail
                  clear lx c9
                  refine (refUp11 p wr HP.out.2.2.1).mono ?_
                  rintro e wb ⟨hb, hs, hn⟩
                  have HB : Hid (Sd11 LT W wb q t Fa (.slice (some ⟨g, o2, none⟩) pL pc)) := HA.out.1.later HS.out.1 hb
                  clear HA hb
                  cases hup : Tq.up p with
                  | none =>
                    have he := hn hup
                    subst he
                    clear hs hn hup
                    go_wp2
                    go_roundw
                    case rel => exact ⟨j + 1, Fa, by omega, by go_num, HB.out⟩
                    case measure => simp [intOf]; omega
                  | some u =>
                    have he := hs u hup
                    subst he
                    obtain ⟨m, hm1, hm2, hm3⟩ := HT.out.2.1.par p n u HP.out.2.1 hup
                    have HM : Hid (Tq.find t.l u = some m ∧ m.owner = 0 ∧ Tq.nm p ∈ m.names) := ⟨hm1, hm2, hm3⟩
                    clear hs hn hup hm1 hm2 hm3
                    go_wp2_with fail
                    refine (HB.out.node HS.out.1 u HM.out.1).mono ?_
                    rintro e wq ⟨Fb, ma, mL, mc, rfl, hM, hu, hmL, hmv⟩
                    obtain ⟨qm, hqm⟩ : ∃ z, z = wq.heap.size := ⟨_, rfl⟩
                    have HE : Hid (Sd11 LT W (wq.alloc (.cells #[.int .i64 m.made, .int .i64 m.changed, .int .i64 m.ver, .int .i64 m.kids, .int .i64 m.owner, .int .i64 m.len, .int .i64 m.cnt, .string m.data, .int .i64 m.next, .slice ma mL mc] 38)) q t Fb (.slice (some ⟨g, o2, none⟩) pL pc) ∧ Bx11 (wq.alloc (.cells #[.int .i64 m.made, .int .i64 m.changed, .int .i64 m.ver, .int .i64 m.kids, .int .i64 m.owner, .int .i64 m.len, .int .i64 m.cnt, .string m.data, .int .i64 m.next, .slice ma mL mc] 38)) Fb qm m (.slice ma mL mc)) := by
                      refine ⟨hM.later HS.out.1 ((Below.refl _ wq).alloc (Nat.le_refl _) _), ?_⟩
                      rw [hqm]
                      exact Bx11.made HS.out.1 hM.mine hu
                    have HN : Hid (mL = m.names.length ∧ m.names.length ≤ 900) := ⟨hmL, (Tq.find_node hM.mine.fine HM.out.1).many⟩
                    clear hM hu hmL hmv HB
                    unfold kv
                    go_upto_region 28 with fail
                    rw [← hqm]
                    clear hqm
                    generalize wq.alloc (.cells #[.int .i64 m.made, .int .i64 m.changed, .int .i64 m.ver, .int .i64 m.kids, .int .i64 m.owner, .int .i64 m.len, .int .i64 m.cnt, .string m.data, .int .i64 m.next, .slice ma mL mc] 38) = we at *
                    refine wp_region_held_drew (S := fun w' => Below we.heap.size we w') (by kernel_rfl) (Below.refl _ _).drew (fun _ => ?_)
                    have HD : Hid (Below we.heap.size we we.drew) := (Below.refl _ _).drew
                    generalize we.drew = wd at *
                    refine' take_at (i := 0) (d := 142) (v := _) rfl rfl (by kernel_rfl) (by kernel_rfl) (by kernel_rfl) (fun _ _ _ h => h) (Or.inl ⟨by rfl, ?h0⟩) (HD.out) ?_
                    case h0 =>
                      intro w hSw
                      go_simp
                      with_reducible rfl
                    simp only [List.setIfInBounds_toArray, List.set_cons_zero, List.set_cons_succ]
                    refine' take_at (i := 1) (d := 143) (v := _) rfl rfl (by kernel_rfl) (by kernel_rfl) (by kernel_rfl) (fun _ _ _ h => h) (Or.inl ⟨by rfl, ?h1⟩) (HD.out) ?_
                    case h1 =>
                      intro w hSw
                      go_simp
                      with_reducible rfl
                    simp only [List.setIfInBounds_toArray, List.set_cons_zero, List.set_cons_succ]
                    refine' take_at (i := 2) (d := 144) (v := _) rfl rfl (by kernel_rfl) (by kernel_rfl) (by kernel_rfl) (fun _ _ _ h => h) (Or.inl ⟨by rfl, ?h2⟩) (HD.out) ?_
                    case h2 =>
                      intro w hSw
                      go_simp
                      with_reducible rfl
                    simp only [List.setIfInBounds_toArray, List.set_cons_zero, List.set_cons_succ]
                    refine wpAnyH_ready (rs := [3]) (by kernel_rfl) (by simp) ?_
                    refine AllReadyH.cons (o := _) rfl (fun KQ hKQ => ?_) AllReadyH.nil
                    go_simp
                    refine (HS.out.2.2.eph qm m (.slice ma mL mc) wd (HE.out.2.blk.below HD.out)).mono ?_
                    rintro e wf ⟨rfl, hb⟩
                    have HF : Hid (Below we.heap.size we wf) := HD.out.trans (hb.mono HD.out.size)
                    clear hb HD
                    have he0 : decide (m.owner ≠ 0) = false := by simp [HM.out.2.1]
                    rw [he0]
                    clear he0
                    simp only []
                    refine hKQ.out _ _ HF.out (fun _ => ?_)
                    clear hKQ KQ
                    refine' take_at (i := 4) (d := 146) (v := _) rfl rfl (by kernel_rfl) (by kernel_rfl) (by kernel_rfl) (fun _ _ _ h => h) (Or.inl ⟨by rfl, ?h4⟩) (HF.out) ?_
                    case h4 =>
                      intro w hSw
                      go_simp
                      with_reducible rfl
                    simp only [List.setIfInBounds_toArray, List.set_cons_zero, List.set_cons_succ]
                    refine' take_at (i := 5) (d := 147) (v := _) rfl rfl (by kernel_rfl) (by kernel_rfl) (by kernel_rfl) (fun _ _ _ h => h) (Or.inl ⟨by rfl, ?h5⟩) (HF.out) ?_
                    case h5 =>
                      intro w hSw
                      go_simp
                      with_reducible rfl
                    simp only [List.setIfInBounds_toArray, List.set_cons_zero, List.set_cons_succ]
                    refine' take_at (i := 6) (d := 148) (v := _) rfl rfl (by kernel_rfl) (by kernel_rfl) (by kernel_rfl) (fun _ _ _ h => h) (Or.inl ⟨by rfl, ?h6⟩) (HF.out) ?_
                    case h6 =>
                      intro w hSw
                      go_simp
                      with_reducible rfl
                    simp only [List.setIfInBounds_toArray, List.set_cons_zero, List.set_cons_succ]
                    refine' take_at (i := 7) (d := 149) (v := _) rfl rfl (by kernel_rfl) (by kernel_rfl) (by kernel_rfl) (fun _ _ _ h => h) (Or.inl ⟨by rfl, ?h7⟩) (HF.out) ?_
                    case h7 =>
                      intro w hSw
                      have c9 : w.cell? ⟨qm, 9, none⟩ = some (.slice ma mL mc) := by rw [(HE.out.2.blk.below hSw).cell 9]; rfl
                      go_simp
                      with_reducible rfl
                    simp only [List.setIfInBounds_toArray, List.set_cons_zero, List.set_cons_succ]
                    refine' take_at (i := 8) (d := 150) (v := _) rfl rfl (by kernel_rfl) (by kernel_rfl) (by kernel_rfl) (fun _ _ _ h => h) (Or.inl ⟨by rfl, ?h8⟩) (HF.out) ?_
                    case h8 =>
                      intro w hSw
                      go_simp
                      with_reducible rfl
                    simp only [List.setIfInBounds_toArray, List.set_cons_zero, List.set_cons_succ]
                    refine' take_at (i := 9) (d := 151) (v := _) rfl rfl (by kernel_rfl) (by kernel_rfl) (by kernel_rfl) (fun _ _ _ h => h) (Or.inl ⟨by rfl, ?h9⟩) (HF.out) ?_
                    case h9 =>
                      intro w hSw
                      go_simp
                      with_reducible rfl
                    simp only [List.setIfInBounds_toArray, List.set_cons_zero, List.set_cons_succ]
                    refine' take_at (i := 10) (d := 152) (v := _) rfl rfl (by kernel_rfl) (by kernel_rfl) (by kernel_rfl) (fun _ _ _ h => h) (Or.inl ⟨by rfl, ?h10⟩) (HF.out) ?_
                    case h10 =>
                      intro w hSw
                      go_simp
                      with_reducible rfl
                    simp only [List.setIfInBounds_toArray, List.set_cons_zero, List.set_cons_succ]
                    refine' take_at (i := 11) (d := 153) (v := _) rfl rfl (by kernel_rfl) (by kernel_rfl) (by kernel_rfl) (fun _ _ _ h => h) (Or.inl ⟨by rfl, ?h11⟩) (HF.out) ?_
                    case h11 =>
                      intro w hSw
                      obtain ⟨g', o', e', lx⟩ := (HE.out.1.ks.later hSw).cell HP.out.1
                      cases e'
                      go_simp
                      with_reducible rfl
                    simp only [List.setIfInBounds_toArray, List.set_cons_zero, List.set_cons_succ]
                    refine wpAnyH_ready (rs := [12]) (by kernel_rfl) (by simp) ?_
                    refine AllReadyH.cons (o := _) rfl (fun KQ hKQ => ?_) AllReadyH.nil
                    go_simp
                    refine (refNm11 p wf HP.out.2.2.1).mono ?_
                    rintro e wg ⟨rfl, hb⟩
                    have HG : Hid (Below we.heap.size we wg) := HF.out.trans (hb.mono HF.out.size)
                    clear hb HF
                    simp only []
                    refine hKQ.out _ _ HG.out (fun _ => ?_)
                    clear hKQ KQ
                    refine wpAnyH_ready (rs := [13]) (by kernel_rfl) (by simp) ?_
                    refine AllReadyH.cons (o := _) rfl (fun KQ hKQ => ?_) AllReadyH.nil
                    go_simp
                    refine (has_any11 (.slice ma mL mc) m.names (Tq.nm p) wg (HE.out.2.nm.later HG.out).ss (by have := HN.out.2; omega)).mono ?_
                    rintro e wh ⟨b, rfl, hbt, hb⟩
                    have hbt : b = true := hbt.2 HM.out.2.2
                    subst hbt
                    have HH : Hid (Below we.heap.size we wh) := HG.out.trans (hb.mono HG.out.size)
                    clear hb HG
                    simp only []
                    refine hKQ.out _ _ HH.out (fun _ => ?_)
                    clear hKQ KQ
                    refine' take_at (i := 14) (d := 156) (v := _) rfl rfl (by kernel_rfl) (by kernel_rfl) (by kernel_rfl) (fun _ _ _ h => h) (Or.inl ⟨by rfl, ?h14⟩) (HH.out) ?_
                    case h14 =>
                      intro w hSw
                      go_simp
                      with_reducible rfl
                    simp only [List.setIfInBounds_toArray, List.set_cons_zero, List.set_cons_succ]
                    refine' take_at (i := 15) (d := 157) (v := _) rfl rfl (by kernel_rfl) (by kernel_rfl) (by kernel_rfl) (fun _ _ _ h => h) (Or.inl ⟨by rfl, ?h15⟩) (HH.out) ?_
                    case h15 =>
                      intro w hSw
                      go_simp
                      with_reducible rfl
                    simp only [List.setIfInBounds_toArray, List.set_cons_zero, List.set_cons_succ]
                    refine wpAnyH_done (by kernel_rfl) ?_ _
                    go_wp2
                    go_roundw
                    case rel => exact ⟨j + 1, Fb, by omega, by go_num, HE.out.1.later HS.out.1 HH.out⟩
                    case measure => simp [intOf]; omega
        · as_aux_lemma =>
            have hjl' : ¬ (j : Int) < (pL : Int) := by omega
            go_wp2_with fail
            refine (H6.out.mine.len HS.out.1).mono ?_
            rintro e wx ⟨Fx, rfl, hM, hmv⟩
            have HX : Hid (Mine11 LT W wx q t Fx) := hM
            have hle : (t.l.length : Int) ≤ room := by
              have h := HX.out.fine.len
              rw [HT.out.2.2] at h
              exact h
            have hpe : (t.l.length : Int) = (pL : Int) := by rw [HPL.out]
            rw [hpe] at hle ⊢
            clear hM hmv hpe
            go_wp2_with fail
            refine (HX.out.len HS.out.1).mono ?_
            rintro e wy ⟨Fy, rfl, hM, hmv⟩
            have HY : Hid (Mine11 LT W wy q t Fy) := hM
            have hpe : (t.l.length : Int) = (pL : Int) := by rw [HPL.out]
            rw [hpe]
            clear hM hmv hpe
            go_wp2
            go_ret
            exact ⟨by first | rfl | (simp; done) | (simp; omega), HY.out.below⟩
end Go.Proofs.YtfcbdjjbchcpjaaGreatDoor
