/- TreeLoads' walk. -/
import Derived.Test.YtfcbdjjbchcpjaaGreatDoorLoad11
namespace Go.Proofs.YtfcbdjjbchcpjaaGreatDoor
open Go.RowKit

set_option maxRecDepth 20000 in
set_option maxHeartbeats 8000000 in
theorem loads_any11 {LT : Rep11} (S : Specs11 LT) (R : SpecR11 LT) (vl : Value) (acs : List Ac11) (turn : Int) (W : World) (hS : Pa.Std W) (hl : Acl11 W vl acs) (hll : acs.length ≤ maxLen) (hok : ∀ x ∈ acs, AcOk11 x) :
    Calls Tryz.prog 7 #[vl, .int .i64 turn] W fun e w' => e = .returned (.bool true) ∧ Below W.heap.size W w' := by
  have HS : Hid (Specs11 LT ∧ Pa.Std W ∧ SpecR11 LT) := ⟨S, hS, R⟩
  obtain ⟨av, N, c, rfl, hN, hc⟩ := hl
  have HC : Hid ((∀ (j : Nat) x, acs[j]? = some x → ∃ g o nv, av = some ⟨g, o, none⟩ ∧ Ss W nv x.n.names ∧ ∀ (i : Nat) u, (a18 x nv)[i]? = some u → W.cell? ⟨g, o + j * 18 + i, none⟩ = some u) ∧ N = acs.length ∧ ∀ x ∈ acs, AcOk11 x) := ⟨hc, hN, hok⟩
  have hN1 : N ≤ 9223372036854775807 := by unfold maxLen at hll; omega
  clear S R hS hc hN hok hll
  go_enter Tryz.func7, Tryz.ntmps7
  go_wp2_with fail
  refine (awake_any11 HS.out.1 W HS.out.2.1).mono ?_
  rintro e w0 ⟨rfl, hb⟩
  have B0 : Hid (Below W.heap.size W w0) := hb
  clear hb
  by_cases h30 : 30 < N
  · have h30' : (30 : Int) < (N : Int) := by omega
    go_wp2
    go_ret
    exact ⟨rfl, B0.out⟩
  have h30' : ¬ (30 : Int) < (N : Int) := by omega
  by_cases ht0 : turn < 0
  · go_wp2
    go_ret
    exact ⟨rfl, B0.out⟩
  by_cases ht1 : 100 < turn
  · go_wp2
    go_ret
    exact ⟨rfl, B0.out⟩
  go_wp2_with fail
  obtain ⟨T, hT⟩ : ∃ T : Nat, (T : Int) = turn := ⟨turn.toNat, by omega⟩
  have hT1 : T ≤ 100 := by omega
  subst hT
  clear ht0 ht1
  refine (Mine11.made HS.out.1 60 (by decide) B0.out).mono ?_
  rintro e w1 ⟨q, F1, rfl, hM, hb⟩
  have M1 : Hid (Mine11 LT W w1 q ⟨60, []⟩ F1) := hM
  clear hM hb B0
  unfold dptr
  go_wp2
  go_loopw [7] (fun i wr => ∃ (k : Nat) (t : Tq.Tr) (F : Nat → Prop), k ≤ N ∧ i = .int .i64 (k : Int) ∧ Mine11 LT W wr q t F ∧ Tq.Few t k ∧ t.room = 60 ∧ Tq.Snd t ∧ Tq.Ln t) (fun i _ => N - (intOf i).toNat)
  case atStart => exact ⟨0, ⟨60, []⟩, F1, Nat.zero_le _, rfl, M1.out, Tq.few_new 60, rfl, Tq.snd_new 60, Tq.ln_new 60⟩
  case round =>
    obtain ⟨k, t, F, hk, rfl, hM, hF, hrm, hsd, hln⟩ := hrel
    have HR : Hid (Mine11 LT W wr q t F ∧ Tq.Few t k ∧ t.room = 60 ∧ Tq.Snd t ∧ Tq.Ln t) := ⟨hM, hF, hrm, hsd, hln⟩
    clear hM hF hrm hsd hln M1
    by_cases hlt : k < N
    · as_aux_lemma =>
        have hlt' : (k : Int) < (N : Int) := by omega
        have hk0 : (0 : Int) ≤ (k : Int) := by omega
        have hwk : IntKind.wrap .i64 ((k : Int) + 1) = (k : Int) + 1 := by rw [IntKind.wrap_i64]; omega
        obtain ⟨x, hx⟩ : ∃ x, acs[k]? = some x := ⟨_, List.getElem?_eq_getElem (by have := HC.out.2.1; omega)⟩
        have HX : Hid (AcOk11 x ∧ x ∈ acs) := ⟨HC.out.2.2 x (List.mem_of_getElem? hx), List.mem_of_getElem? hx⟩
        obtain ⟨g, o2, nv, hav, hnv, hcell⟩ := HC.out.1 k x hx
        subst hav
        obtain ⟨na, nL, nc, rfl, hj1, hj2⟩ := hnv
        have HNV : Hid (Ss W (.slice na nL nc) x.n.names) := ⟨_, _, _, rfl, hj1, hj2⟩
        clear hj1 hj2
        have HCL : Hid (∀ w', Below W.heap.size W w' → w'.cell? ⟨g, o2 + k * 18, none⟩ = some (.int .i64 x.op) ∧ w'.cell? ⟨g, o2 + k * 18 + 1, none⟩ = some (.int .i64 x.o.kind) ∧ w'.cell? ⟨g, o2 + k * 18 + 2, none⟩ = some (.string x.o.path) ∧ w'.cell? ⟨g, o2 + k * 18 + 3, none⟩ = some (.string x.o.data) ∧ w'.cell? ⟨g, o2 + k * 18 + 4, none⟩ = some (.int .i64 x.o.ver) ∧ w'.cell? ⟨g, o2 + k * 18 + 5, none⟩ = some (.int .i64 x.o.flags) ∧ w'.cell? ⟨g, o2 + k * 18 + 6, none⟩ = some (.int .i64 x.sess) ∧ w'.cell? ⟨g, o2 + k * 18 + 7, none⟩ = some (.int .i64 x.zxid) ∧ w'.cell? ⟨g, o2 + k * 18 + 8, none⟩ = some (.int .i64 x.n.made) ∧ w'.cell? ⟨g, o2 + k * 18 + 9, none⟩ = some (.int .i64 x.n.changed) ∧ w'.cell? ⟨g, o2 + k * 18 + 10, none⟩ = some (.int .i64 x.n.ver) ∧ w'.cell? ⟨g, o2 + k * 18 + 11, none⟩ = some (.int .i64 x.n.kids) ∧ w'.cell? ⟨g, o2 + k * 18 + 12, none⟩ = some (.int .i64 x.n.owner) ∧ w'.cell? ⟨g, o2 + k * 18 + 13, none⟩ = some (.int .i64 x.n.len) ∧ w'.cell? ⟨g, o2 + k * 18 + 14, none⟩ = some (.int .i64 x.n.cnt) ∧ w'.cell? ⟨g, o2 + k * 18 + 15, none⟩ = some (.string x.n.data) ∧ w'.cell? ⟨g, o2 + k * 18 + 16, none⟩ = some (.int .i64 x.n.next) ∧ w'.cell? ⟨g, o2 + k * 18 + 17, none⟩ = some (.slice na nL nc)) := fun w' hb => ⟨Below.kept hb (hcell 0 _ rfl), Below.kept hb (hcell 1 _ rfl), Below.kept hb (hcell 2 _ rfl), Below.kept hb (hcell 3 _ rfl), Below.kept hb (hcell 4 _ rfl), Below.kept hb (hcell 5 _ rfl), Below.kept hb (hcell 6 _ rfl), Below.kept hb (hcell 7 _ rfl), Below.kept hb (hcell 8 _ rfl), Below.kept hb (hcell 9 _ rfl), Below.kept hb (hcell 10 _ rfl), Below.kept hb (hcell 11 _ rfl), Below.kept hb (hcell 12 _ rfl), Below.kept hb (hcell 13 _ rfl), Below.kept hb (hcell 14 _ rfl), Below.kept hb (hcell 15 _ rfl), Below.kept hb (hcell 16 _ rfl), Below.kept hb (hcell 17 _ rfl)⟩
        clear hx hcell
        obtain ⟨y0, y1, y2, y3, y4, y5, y6, y7, y8, y9, y10, y11, y12, y13, y14, y15, y16, y17⟩ := HCL.out wr HR.out.1.below
        go_wp2_with fail
        clear y0 y1 y2 y3 y4 y5 y6 y7 y8 y9 y10 y11 y12 y13 y14 y15 y16 y17
        refine (heavy_any11 x na nL nc wr (HNV.out.below HR.out.1.below) HX.out.1).mono ?_
        rintro e w2 ⟨b2, rfl, hb2, hb⟩
        have M2 : Hid (Mine11 LT W w2 q t F) := HR.out.1.later HS.out.1 hb
        clear hb hb2
        cases b2 with
        | true =>
          go_wp2
          go_ret
          exact ⟨rfl, M2.out.below⟩
        | false =>
          go_wp2_with fail
          refine wp_region_held_drew (S := fun w' => Below W.heap.size W w') (by kernel_rfl) M2.out.below.drew (fun _ => ?_)
          have M3 : Hid (Mine11 LT W w2.drew q t F) := M2.out.later HS.out.1 (Below.refl _ _).drew
          clear M2
          generalize w2.drew = w3 at *
          refine' take_at (i := 0) (d := 43) (v := _) rfl rfl (by kernel_rfl) (by kernel_rfl) (by kernel_rfl) (fun _ _ _ h => h) (Or.inl ⟨by rfl, ?h0⟩) (M3.out.below) ?_
          case h0 =>
            intro w hSw
            go_simp
            with_reducible rfl
          simp only [List.setIfInBounds_toArray, List.set_cons_zero, List.set_cons_succ]
          refine' take_at (i := 1) (d := 44) (v := _) rfl rfl (by kernel_rfl) (by kernel_rfl) (by kernel_rfl) (fun _ _ _ h => h) (Or.inl ⟨by rfl, ?h1⟩) (M3.out.below) ?_
          case h1 =>
            intro w hSw
            go_simp
            with_reducible rfl
          simp only [List.setIfInBounds_toArray, List.set_cons_zero, List.set_cons_succ]
          refine' take_at (i := 2) (d := 45) (v := _) rfl rfl (by kernel_rfl) (by kernel_rfl) (by kernel_rfl) (fun _ _ _ h => h) (Or.inl ⟨by rfl, ?h2⟩) (M3.out.below) ?_
          case h2 =>
            intro w hSw
            go_simp
            with_reducible rfl
          simp only [List.setIfInBounds_toArray, List.set_cons_zero, List.set_cons_succ]
          refine' take_at (i := 3) (d := 46) (v := _) rfl rfl (by kernel_rfl) (by kernel_rfl) (by kernel_rfl) (fun _ _ _ h => h) (Or.inl ⟨by rfl, ?h3⟩) (M3.out.below) ?_
          case h3 =>
            intro w hSw
            go_simp
            with_reducible rfl
          simp only [List.setIfInBounds_toArray, List.set_cons_zero, List.set_cons_succ]
          refine' take_at (i := 4) (d := 47) (v := _) rfl rfl (by kernel_rfl) (by kernel_rfl) (by kernel_rfl) (fun _ _ _ h => h) (Or.inl ⟨by rfl, ?h4⟩) (M3.out.below) ?_
          case h4 =>
            intro w hSw
            go_simp
            with_reducible rfl
          simp only [List.setIfInBounds_toArray, List.set_cons_zero, List.set_cons_succ]
          refine' take_at (i := 5) (d := 48) (v := _) rfl rfl (by kernel_rfl) (by kernel_rfl) (by kernel_rfl) (fun _ _ _ h => h) (Or.inl ⟨by rfl, ?h5⟩) (M3.out.below) ?_
          case h5 =>
            intro w hSw
            obtain ⟨y0, y1, y2, y3, y4, y5, y6, y7, y8, y9, y10, y11, y12, y13, y14, y15, y16, y17⟩ := HCL.out w hSw
            go_simp
            with_reducible rfl
          simp only [List.setIfInBounds_toArray, List.set_cons_zero, List.set_cons_succ]
          refine' take_at (i := 6) (d := 49) (v := _) rfl rfl (by kernel_rfl) (by kernel_rfl) (by kernel_rfl) (fun _ _ _ h => h) (Or.inl ⟨by rfl, ?h6⟩) (M3.out.below) ?_
          case h6 =>
            intro w hSw
            go_simp
            with_reducible rfl
          simp only [List.setIfInBounds_toArray, List.set_cons_zero, List.set_cons_succ]
          refine' take_at (i := 7) (d := 50) (v := _) rfl rfl (by kernel_rfl) (by kernel_rfl) (by kernel_rfl) (fun _ _ _ h => h) (Or.inl ⟨by rfl, ?h7⟩) (M3.out.below) ?_
          case h7 =>
            intro w hSw
            go_simp
            with_reducible rfl
          simp only [List.setIfInBounds_toArray, List.set_cons_zero, List.set_cons_succ]
          refine' take_at (i := 8) (d := 51) (v := _) rfl rfl (by kernel_rfl) (by kernel_rfl) (by kernel_rfl) (fun _ _ _ h => h) (Or.inl ⟨by rfl, ?h8⟩) (M3.out.below) ?_
          case h8 =>
            intro w hSw
            go_simp
            with_reducible rfl
          simp only [List.setIfInBounds_toArray, List.set_cons_zero, List.set_cons_succ]
          refine' take_at (i := 9) (d := 52) (v := _) rfl rfl (by kernel_rfl) (by kernel_rfl) (by kernel_rfl) (fun _ _ _ h => h) (Or.inl ⟨by rfl, ?h9⟩) (M3.out.below) ?_
          case h9 =>
            intro w hSw
            go_simp
            with_reducible rfl
          simp only [List.setIfInBounds_toArray, List.set_cons_zero, List.set_cons_succ]
          refine' take_at (i := 10) (d := 53) (v := _) rfl rfl (by kernel_rfl) (by kernel_rfl) (by kernel_rfl) (fun _ _ _ h => h) (Or.inl ⟨by rfl, ?h10⟩) (M3.out.below) ?_
          case h10 =>
            intro w hSw
            obtain ⟨y0, y1, y2, y3, y4, y5, y6, y7, y8, y9, y10, y11, y12, y13, y14, y15, y16, y17⟩ := HCL.out w hSw
            go_simp
            with_reducible rfl
          simp only [List.setIfInBounds_toArray, List.set_cons_zero, List.set_cons_succ]
          refine' take_at (i := 11) (d := 54) (v := _) rfl rfl (by kernel_rfl) (by kernel_rfl) (by kernel_rfl) (fun _ _ _ h => h) (Or.inl ⟨by rfl, ?h11⟩) (M3.out.below) ?_
          case h11 =>
            intro w hSw
            go_simp
            with_reducible rfl
          simp only [List.setIfInBounds_toArray, List.set_cons_zero, List.set_cons_succ]
          refine' take_at (i := 12) (d := 55) (v := _) rfl rfl (by kernel_rfl) (by kernel_rfl) (by kernel_rfl) (fun _ _ _ h => h) (Or.inl ⟨by rfl, ?h12⟩) (M3.out.below) ?_
          case h12 =>
            intro w hSw
            go_simp
            with_reducible rfl
          simp only [List.setIfInBounds_toArray, List.set_cons_zero, List.set_cons_succ]
          refine' take_at (i := 13) (d := 56) (v := _) rfl rfl (by kernel_rfl) (by kernel_rfl) (by kernel_rfl) (fun _ _ _ h => h) (Or.inl ⟨by rfl, ?h13⟩) (M3.out.below) ?_
          case h13 =>
            intro w hSw
            go_simp
            with_reducible rfl
          simp only [List.setIfInBounds_toArray, List.set_cons_zero, List.set_cons_succ]
          refine' take_at (i := 14) (d := 57) (v := _) rfl rfl (by kernel_rfl) (by kernel_rfl) (by kernel_rfl) (fun _ _ _ h => h) (Or.inl ⟨by rfl, ?h14⟩) (M3.out.below) ?_
          case h14 =>
            intro w hSw
            go_simp
            with_reducible rfl
          simp only [List.setIfInBounds_toArray, List.set_cons_zero, List.set_cons_succ]
          refine' take_at (i := 15) (d := 58) (v := _) rfl rfl (by kernel_rfl) (by kernel_rfl) (by kernel_rfl) (fun _ _ _ h => h) (Or.inl ⟨by rfl, ?h15⟩) (M3.out.below) ?_
          case h15 =>
            intro w hSw
            obtain ⟨y0, y1, y2, y3, y4, y5, y6, y7, y8, y9, y10, y11, y12, y13, y14, y15, y16, y17⟩ := HCL.out w hSw
            go_simp
            with_reducible rfl
          simp only [List.setIfInBounds_toArray, List.set_cons_zero, List.set_cons_succ]
          refine wpAnyH_ready (rs := [16]) (by kernel_rfl) (by simp) ?_
          refine AllReadyH.cons (o := _) rfl (fun KQ hKQ => ?_) AllReadyH.nil
          go_simp
          obtain ⟨x4, t4, he4⟩ : ∃ x4 t4, Tq.doo t x.o x.sess x.zxid = (x4, t4) := ⟨_, _, rfl⟩
          have hfin := Tq.fine_doo (o := x.o) (s := x.sess) (z := x.zxid) M3.out.fine (HR.out.2.1.more (by omega))
          have hfew := Tq.few_doo (o := x.o) (s := x.sess) (z := x.zxid) HR.out.2.1
          have hroom := Tq.room_doo t x.o x.sess x.zxid
          have hsnd := Tq.snd_doo (o := x.o) (s := x.sess) (z := x.zxid) M3.out.fine HR.out.2.2.2.1
          have hlnn := Tq.ln_doo (o := x.o) (s := x.sess) (z := x.zxid) HR.out.2.2.2.2
          rw [he4] at hfin hfew hroom hsnd hlnn
          refine (M3.out.doo HS.out.1 HS.out.2.1 x.o x.sess x.zxid HX.out.1.o x4 t4 he4 hfin).mono ?_
          rintro e w4 ⟨F4, v4, rfl, hsq, hof, hM, hmv⟩
          have M4 : Hid (Mine11 LT W w4 q t4 F4 ∧ Tq.Few t4 (k + 1) ∧ t4.room = 60 ∧ Tq.Snd t4 ∧ Tq.Ln t4) := ⟨hM, hfew, hroom.trans HR.out.2.2.1, hsnd, hlnn⟩
          clear hof hM hmv he4 hfin hfew hroom hsq
          simp only []
          refine hKQ.out _ _ M4.out.1.below (fun _ => ?_)
          clear hKQ
          refine wpAnyH_done (by kernel_rfl) ?_ _
          go_wp2
          go_roundw
          case rel => exact ⟨k + 1, t4, F4, by omega, by go_num, M4.out⟩
          case measure => simp [intOf]; omega
    · have hlt' : ¬ (k : Int) < (N : Int) := by omega
      go_wp2_with fail
      refine (HR.out.1.second HS.out.1 60 (by decide)).mono ?_
      rintro e w5 ⟨q2, F2, rfl, hT5, hb5⟩
      have M5 : Hid (Two12 LT W w5 q t F q2 ⟨60, []⟩ F2) := hT5
      clear hT5 hb5
      unfold dptr
      go_wp2_with fail
      refine (HS.out.2.2.paths q t F w5 M5.out.one.ld M5.out.one.fine).mono ?_
      rintro e w6 ⟨v6, rfl, hsq, hof, hb6⟩
      have HE : Hid (Fine11 t ∧ Tq.Few t k ∧ k ≤ 30 ∧ t.room = 60 ∧ Tq.Snd t ∧ Tq.Ln t) := ⟨HR.out.1.fine, HR.out.2.1, by omega, HR.out.2.2⟩
      have M6 : Hid (Two12 LT W w6 q t F q2 ⟨60, []⟩ F2 ∧ Sm w6 F2 v6 (Tq.keys t.l)) := ⟨M5.out.later HS.out.1 hb6, ⟨hsq.ss, fun _ k hk e => hof k hk (HS.out.1.lt M5.out.two.ld e)⟩⟩
      obtain ⟨pa, L, pc, rfl, hL, hjj⟩ := hsq
      have HL : Hid (L = t.l.length) := by
        have e : L = t.l.length := by rw [hL]; unfold Tq.keys; simp
        exact e
      have hL5 : L ≤ 60 := by have h1 := HL.out; have h2 := HE.out.1.len; have h3 := HE.out.2.2.2.1; omega
      clear hof hb6 hjj hL M5 HR hlt hlt' hk
      go_wp2
      go_loopw [11] (fun i wr => ∃ (j : Nat) (u : Tq.Tr) (F2 : Nat → Prop), j ≤ L ∧ i = .int .i64 (j : Int) ∧ Two12 LT W wr q t F q2 u F2 ∧ Sm wr F2 (.slice pa L pc) (Tq.keys t.l) ∧ Tq.Ld t T j u) (fun i _ => L - (intOf i).toNat)
      case atStart => exact ⟨0, _, F2, Nat.zero_le _, rfl, M6.out.1, M6.out.2, Tq.ld_new t T⟩
      case round =>
      obtain ⟨j, u, F7, hj, rfl, hT7, hS7, hLd⟩ := hrel
      have M7 : Hid (Two12 LT W wr q t F q2 u F7 ∧ Sm wr F7 (.slice pa L pc) (Tq.keys t.l) ∧ Tq.Ld t T j u) := ⟨hT7, hS7, hLd⟩
      clear hT7 hS7 hLd M6
      by_cases hjl : j < L
      · have hlt' : (j : Int) < (L : Int) := by omega
        have hwk : IntKind.wrap .i64 ((j : Int) + 1) = (j : Int) + 1 := by rw [IntKind.wrap_i64]; omega
        obtain ⟨K, hK⟩ : ∃ K, K = (j + T) % L := ⟨_, rfl⟩
        have hKL : K < L := by rw [hK]; exact Nat.mod_lt _ (by omega)
        have hL0 : ¬ (L : Int) = 0 := by omega
        have hm0 : (0 : Int) ≤ ((j : Int) + (T : Int)) % (L : Int) := Int.emod_nonneg _ hL0
        have hm1 : ((j : Int) + (T : Int)) % (L : Int) < (L : Int) := Int.emod_lt_of_pos _ (by omega)
        obtain ⟨⟨p, m⟩, hpm⟩ : ∃ e, t.l[K]? = some e := ⟨_, List.getElem?_eq_getElem (by have := HL.out; omega)⟩
        have HP : Hid (t.l[(j + T) % t.l.length]? = some (p, m) ∧ Tq.find t.l p = some m ∧ p.size ≤ maxLen ∧ Node11 m ∧ (Tq.keys t.l)[K]? = some p) := by
          have hm := List.mem_of_getElem? hpm
          refine ⟨by rw [← HL.out, ← hK]; exact hpm, Tq.find_of HE.out.1.rise hm, good_max (HE.out.1.nodes _ hm).1, (HE.out.1.nodes _ hm).2, Tq.at_key hpm⟩
        clear hpm
        have HK : Hid (K = (j + T) % L) := hK
        clear hK
        obtain ⟨pg, po, hpa, lx⟩ := M7.out.2.1.cell HP.out.2.2.2.2
        subst hpa
        rw [HK.out] at lx
        clear hKL
        go_wp2_with fail
        clear lx hL0 hm0 hm1
        refine (HS.out.2.2.node q t F p wr M7.out.1.one.ld M7.out.1.one.fine HP.out.2.2.1).mono ?_
        rintro e w8 ⟨hN, hb8⟩
        obtain ⟨v8, rfl, hsq, hof⟩ := hN.1 m HP.out.2.1
        have hsq2 := hsq
        obtain ⟨ma, mL, mc, rfl, hj1, hj2⟩ := hsq
        obtain ⟨qn, hqn⟩ : ∃ z, z = w8.heap.size := ⟨_, rfl⟩
        have M9 : Hid (Two12 LT W (w8.alloc (.cells #[.int .i64 m.made, .int .i64 m.changed, .int .i64 m.ver, .int .i64 m.kids, .int .i64 m.owner, .int .i64 m.len, .int .i64 m.cnt, .string m.data, .int .i64 m.next, .slice ma mL mc] 38)) q t F q2 u F7 ∧ Sm (w8.alloc (.cells #[.int .i64 m.made, .int .i64 m.changed, .int .i64 m.ver, .int .i64 m.kids, .int .i64 m.owner, .int .i64 m.len, .int .i64 m.cnt, .string m.data, .int .i64 m.next, .slice ma mL mc] 38)) F7 (.slice (some ⟨pg, po, none⟩) L pc) (Tq.keys t.l) ∧ Kept11 (w8.alloc (.cells #[.int .i64 m.made, .int .i64 m.changed, .int .i64 m.ver, .int .i64 m.kids, .int .i64 m.owner, .int .i64 m.len, .int .i64 m.cnt, .string m.data, .int .i64 m.next, .slice ma mL mc] 38)) F7 qn (k10 m (.slice ma mL mc)) 38 ∧ Sm (w8.alloc (.cells #[.int .i64 m.made, .int .i64 m.changed, .int .i64 m.ver, .int .i64 m.kids, .int .i64 m.owner, .int .i64 m.len, .int .i64 m.cnt, .string m.data, .int .i64 m.next, .slice ma mL mc] 38)) F7 (.slice ma mL mc) m.names) := by
          have hba := (Below.refl _ w8).alloc (Nat.le_refl _) (.cells #[.int .i64 m.made, .int .i64 m.changed, .int .i64 m.ver, .int .i64 m.kids, .int .i64 m.owner, .int .i64 m.len, .int .i64 m.cnt, .string m.data, .int .i64 m.next, .slice ma mL mc] 38)
          have hT8 := M7.out.1.later HS.out.1 hb8
          refine ⟨hT8.later HS.out.1 hba, (M7.out.2.1.later hb8).later hba, by rw [hqn]; exact Kept11.made w8 F7 (hT8.two.flt HS.out.1) (k10 m (.slice ma mL mc)) _, ⟨(hsq2.below hba).ss, fun hne k hk e => hof hne k hk (HS.out.1.lt M7.out.1.two.ld e)⟩⟩
        have HLd : Hid (Tq.Ld t T j u) := M7.out.2.2
        clear hN hb8 hof hsq2 hj1 hj2 M7
        unfold kv
        go_upto_region 19 with fail
        rw [← hqn]
        clear hqn
        generalize (w8.alloc (.cells #[.int .i64 m.made, .int .i64 m.changed, .int .i64 m.ver, .int .i64 m.kids, .int .i64 m.owner, .int .i64 m.len, .int .i64 m.cnt, .string m.data, .int .i64 m.next, .slice ma mL mc] 38)) = w9 at *
        have HST := Tq.Ld.step HE.out.1 HE.out.2.2.2.2.1 HE.out.2.2.2.2.2 HE.out.2.1 (by have := HE.out.2.2.1; omega) HE.out.2.2.2.1 HLd.out (by have := HL.out; omega) HP.out.1
        obtain ⟨u2, hu2⟩ : ∃ u2, u2 = ({ u with l := Tq.ins u.l p m } : Tq.Tr) := ⟨_, rfl⟩
        rw [← hu2] at HST
        have HU : Hid (Tq.load u p m = (0, u2) ∧ Tq.Ld t T (j + 1) u2 ∧ Tq.load u2 p m = (5, u2)) := HST
        clear HST hu2
        obtain ⟨d0, d1, d2, d3, d4, d5, d6, d7, d8, d9⟩ := k10_all M9.out.2.2.1.cb
        go_wp2_with fail
        clear d0 d1 d2 d3 d4 d5 d6 d7 d8 d9
        refine (M9.out.1.two.loadd HS.out.1 HS.out.2.1 p m (.slice ma mL mc) M9.out.2.2.2.ss M9.out.2.2.2.off HP.out.2.2.2.1 HP.out.2.2.1 0 u2 HU.out.1 HU.out.2.1.fine).mono ?_
        rintro e wa ⟨Fa, rfl, hM, hmv⟩
        have MA : Hid (Two12 LT W wa q t F q2 u2 Fa ∧ Sm wa Fa (.slice (some ⟨pg, po, none⟩) L pc) (Tq.keys t.l) ∧ Kept11 wa Fa qn (k10 m (.slice ma mL mc)) 38 ∧ Sm wa Fa (.slice ma mL mc) m.names) := ⟨M9.out.1.right HS.out.1 hM hmv, M9.out.2.1.moved hmv, M9.out.2.2.1.moved hmv, M9.out.2.2.2.moved hmv⟩
        clear hM hmv M9
        obtain ⟨d0, d1, d2, d3, d4, d5, d6, d7, d8, d9⟩ := k10_all MA.out.2.2.1.cb
        go_wp2_with fail
        clear d0 d1 d2 d3 d4 d5 d6 d7 d8 d9
        refine (MA.out.1.two.loadd HS.out.1 HS.out.2.1 p m (.slice ma mL mc) MA.out.2.2.2.ss MA.out.2.2.2.off HP.out.2.2.2.1 HP.out.2.2.1 5 u2 HU.out.2.2 HU.out.2.1.fine).mono ?_
        rintro e wb ⟨Fb, rfl, hM, hmv⟩
        have MB : Hid (Two12 LT W wb q t F q2 u2 Fb ∧ Sm wb Fb (.slice (some ⟨pg, po, none⟩) L pc) (Tq.keys t.l)) := ⟨MA.out.1.right HS.out.1 hM hmv, MA.out.2.1.moved hmv⟩
        clear hM hmv MA
        go_wp2
        go_roundw
        case rel => exact ⟨j + 1, u2, Fb, by omega, by go_num, MB.out.1, MB.out.2, HU.out.2.1⟩
        case measure => simp [intOf]; omega
      · have hlt' : ¬ (j : Int) < (L : Int) := by omega
        have HEQ : Hid (u.l = t.l) := by
          have e : u.l = t.l := Tq.Ld.all HE.out.1 (by have h := M7.out.2.2; rw [show j = t.l.length by have := HL.out; omega] at h; exact h)
          exact e
        go_wp2_with fail
        refine (M7.out.1.one.own11 HS.out.1 HS.out.2.2 60).mono ?_
        rintro e wa ⟨qa, va, es, rfl, hRa, hes, hba⟩
        have MA : Hid (Two12 LT W wa q t F q2 u F7 ∧ Ro11 W wa F qa 60 va es ∧ es.map (·.1) = t.l) := ⟨M7.out.1.later HS.out.1 hba, hRa, hes⟩
        clear hRa hes hba
        unfold dptr
        go_wp2_with fail
        refine (MA.out.1.two.own11 HS.out.1 HS.out.2.2 60).mono ?_
        rintro e wb ⟨qb, vb, es2, rfl, hRb, hes2, hbb⟩
        have MB : Hid (Below W.heap.size W wb ∧ Ro11 W wb F qa 60 va es ∧ es.map (·.1) = t.l ∧ Ro11 W wb F7 qb 60 vb es2 ∧ es2.map (·.1) = t.l) := ⟨MA.out.1.one.below.trans (hbb.mono MA.out.1.one.below.size), MA.out.2.1.later hbb, MA.out.2.2, hRb, by rw [hes2, HEQ.out]⟩
        clear hRb hes2 hbb MA
        unfold dptr
        go_wp2_with fail
        refine (MB.out.2.1.alike11 MB.out.2.2.2.1 MB.out.2.2.1 MB.out.2.2.2.2 HE.out.1).mono ?_
        rintro e wz ⟨rfl, hbz⟩
        have HZ : Hid (Below W.heap.size W wz) := MB.out.1.trans (hbz.mono MB.out.1.size)
        clear hbz
        go_wp2
        go_ret
        exact ⟨rfl, HZ.out⟩
end Go.Proofs.YtfcbdjjbchcpjaaGreatDoor
