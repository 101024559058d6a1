/- TreeOwners: its walk. -/
import Derived.Test.YtfcbdjjbchcpjaaGreatDoorHbx
import Derived.Test.YtfcbdjjbchcpjaaGreatDoorPln
import Derived.Test.YtfcbdjjbchcpjaaGreatDoorBas
import Derived.Test.YtfcbdjjbchcpjaaGreatDoorInts11
import Derived.BigQuiet
import Derived.Deep.DeepCutAuto
namespace Go.Proofs.YtfcbdjjbchcpjaaGreatDoor
open Go.RowKit

theorem Tq.key_at2 {t : Tq.Tr} (hf : Fine11 t) {j : Nat} (hj : j < t.l.length) : ∃ p n, t.l[j]? = some (p, n) ∧ (Tq.keys t.l)[j]? = some p ∧ Tq.find t.l p = some n ∧ Pl.goodB p.data.toList = true ∧ Node11 n := by
  obtain ⟨e, he⟩ : ∃ e, t.l[j]? = some e := ⟨_, List.getElem?_eq_getElem hj⟩
  have hm := List.mem_of_getElem? he
  refine ⟨e.1, e.2, he, ?_, Tq.find_of hf.rise hm, hf.nodes e hm⟩
  unfold Tq.keys
  rw [List.getElem?_map, he]
  rfl
/-- A tree, and numbers beside it. -/
structure Se11 (LT : Rep11) (W w : World) (q : Nat) (t : Tq.Tr) (F : Nat → Prop) (v : Value) (zs : List Int) : Prop where
  mine : Mine11 LT W w q t F
  row : w.ownsRow W.heap.size 2 1 v zs.length (ic11 zs)
  off : ∀ k, v.ownBlock = some k → ¬ F k
theorem Se11.later {LT : Rep11} (S : Specs11 LT) {W w w' : World} {q : Nat} {t : Tq.Tr} {F : Nat → Prop} {v : Value} {zs : List Int} (h : Se11 LT W w q t F v zs) (hb : Below w.heap.size w w') : Se11 LT W w' q t F v zs := ⟨h.mine.later S hb, row_stays h.row (fun k e => hb.block k (h.row.lt k e).2), h.off⟩
theorem Se11.moved {LT : Rep11} {W w w' : World} {q : Nat} {t : Tq.Tr} {F F' : Nat → Prop} {v : Value} {zs : List Int} (h : Se11 LT W w q t F v zs) (hL : LT w' q t F') (hm : Moved w w' F F') : Se11 LT W w' q t F' v zs :=
  ⟨h.mine.step hL h.mine.fine hm, row_stays h.row (fun k e => hm.block k (h.row.lt k e).2 (h.off k e)), fun k hk e => by
    rcases hm.sub k e with e | e
    · exact h.off k hk e
    · have := (h.row.lt k hk).2
      omega⟩
/-- One number more. -/
theorem Se11.more {LT : Rep11} (S : Specs11 LT) {W w w1 w2 : World} {q : Nat} {t : Tq.Tr} {F : Nat → Prop} {v v' : Value} {zs zs' : List Int} (h : Se11 LT W w q t F v zs) (hb : Below w.heap.size w w1) (hg : w1.grownBy w2 v.ownBlock) (hr : w2.ownsRow W.heap.size 2 1 v' zs'.length (ic11 zs')) (hv : v'.ownBlock = v.ownBlock ∨ v'.ownBlock = some w1.heap.size) : Se11 LT W w2 q t F v' zs' := by
  have hs := hb.size
  have hk : ∀ k, F k → w2.heap[k]? = w.heap[k]? := fun k hk => by
    have h1 := S.lt h.mine.ld hk
    exact (hg.block k (by omega) (fun e => h.off k e.symm hk)).trans (hb.block k h1)
  refine ⟨⟨S.keep h.mine.ld hk, h.mine.fine, h.mine.hi, ?_⟩, hr, fun k hk2 e => ?_⟩
  · have h1 := h.mine.below
    exact (h1.trans (hb.mono h1.size)).grown hg (by have := h1.size; omega) (fun k hk2 => (h.row.lt k hk2).1)
  · rcases hv with hv | hv
    · rw [hv] at hk2
      exact h.off k hk2 e
    · rw [hv] at hk2
      have := S.lt h.mine.ld e
      simp only [Option.some.injEq] at hk2
      omega
theorem int_at {w : World} {B : Nat} {a : Option Addr} {c : Nat} {zs : List Int} (h : w.ownsRow B 2 1 (.slice a zs.length c) zs.length (ic11 zs)) {j : Nat} {z : Int} (hz : zs[j]? = some z) : ∃ g, a = some ⟨g, 0, none⟩ ∧ w.cell? ⟨g, j, none⟩ = some (.int .i64 z) := by
  have hj := (List.getElem?_eq_some_iff.1 hz).1
  rcases h.2 with ⟨e, h0⟩ | ⟨g, cap, cur, e, _⟩
  · omega
  · simp only [Value.slice.injEq] at e
    obtain ⟨rfl, _, rfl⟩ := e
    refine ⟨g, rfl, ?_⟩
    have hc := h.cellAt j (by omega)
    rw [List.getElem?_map, hz] at hc
    exact hc
set_option maxRecDepth 20000 in
set_option maxHeartbeats 8000000 in
theorem owners_any11 {LT : Rep11} (S : Specs11 LT) (S10 : Eph11) (vl : Value) (acs : List Ac11) (W : World) (hS : Pa.Std W) (hl : Acl11 W vl acs) (hll : acs.length ≤ maxLen) (hok : ∀ x ∈ acs, AcOk11 x) :
    Calls Tryz.prog 8 #[vl] W fun e w' => e = .returned (.bool true) ∧ Below W.heap.size W w' := by
  have HS : Hid (Specs11 LT ∧ Pa.Std W ∧ Eph11) := ⟨S, hS, S10⟩
  obtain ⟨av, N, c, rfl, hN, hc⟩ := hl
  have HC : Hid ((∀ (j : Nat) x, acs[j]? = some x → ∃ g o nv, av = some ⟨g, o, none⟩ ∧ Ss W nv x.n.names ∧ ∀ (i : Nat) u, (a18 x nv)[i]? = some u → W.cell? ⟨g, o + j * 18 + i, none⟩ = some u) ∧ N = acs.length ∧ ∀ x ∈ acs, AcOk11 x) := ⟨hc, hN, hok⟩
  have hN1 : N ≤ 9223372036854775807 := by unfold maxLen at hll; omega
  clear S S10 hS hc hN hok hll
  go_enter Tryz.func8, Tryz.ntmps8
  go_wp2_with fail
  refine (awake_any11 HS.out.1 W HS.out.2.1).mono ?_
  rintro e w0 ⟨rfl, hb⟩
  have B0 : Hid (Below W.heap.size W w0) := hb
  clear hb
  by_cases h60 : 40 < N
  · have h60' : (40 : Int) < (N : Int) := by omega
    go_wp2
    go_ret
    exact ⟨rfl, B0.out⟩
  have h60' : ¬ (40 : Int) < (N : Int) := by omega
  go_wp2_with fail
  refine (Mine11.made HS.out.1 60 (by decide) B0.out).mono ?_
  rintro e w1 ⟨q, F1, rfl, hM, hb⟩
  have M1 : Hid (Mine11 LT W w1 q ⟨60, []⟩ F1) := hM
  clear hM hb B0
  go_wp2
  go_loopw [5] (fun i wr => ∃ (k : Nat) (t : Tq.Tr) (F : Nat → Prop) (ss : List Int), k ≤ N ∧ i = .int .i64 (k : Int) ∧ Mine11 LT W wr q t F ∧ Tq.Few t k ∧ Tq.Ow t ss ∧ t.room = 60 ∧ ∀ s ∈ ss, ∃ x ∈ acs, x.sess = s) (fun i _ => N - (intOf i).toNat)
  case atStart => exact ⟨0, ⟨60, []⟩, F1, [], Nat.zero_le _, rfl, M1.out, Tq.few_new 60, Tq.ow_new 60, rfl, fun s hs => by cases hs⟩
  case round =>
    obtain ⟨k, t, F, ss, hk, rfl, hM, hF, hSd, hrm, hss⟩ := hrel
    have HR : Hid (Mine11 LT W wr q t F ∧ Tq.Few t k ∧ Tq.Ow t ss ∧ t.room = 60 ∧ ∀ s ∈ ss, ∃ x ∈ acs, x.sess = s) := ⟨hM, hF, hSd, hrm, hss⟩
    clear hM hF hSd hrm hss M1
    by_cases hlt : k < N
    · as_aux_lemma =>
        have hlt' : (k : Int) < (N : Int) := by omega
        have hk0 : (0 : Int) ≤ (k : Int) := by omega
        have hwk : IntKind.wrap .i64 ((k : Int) + 1) = (k : Int) + 1 := by rw [IntKind.wrap_i64]; omega
        obtain ⟨x, hx⟩ : ∃ x, acs[k]? = some x := ⟨_, List.getElem?_eq_getElem (by have := HC.out.2.1; omega)⟩
        have HX : Hid (AcOk11 x ∧ x ∈ acs) := ⟨HC.out.2.2 x (List.mem_of_getElem? hx), List.mem_of_getElem? hx⟩
        obtain ⟨g, o2, nv, hav, hnv, hcell⟩ := HC.out.1 k x hx
        subst hav
        obtain ⟨na, nL, nc, rfl, hj1, hj2⟩ := hnv
        have HNV : Hid (Ss W (.slice na nL nc) x.n.names) := ⟨_, _, _, rfl, hj1, hj2⟩
        clear hj1 hj2
        have HCL : Hid (∀ w', Below W.heap.size W w' → w'.cell? ⟨g, o2 + k * 18, none⟩ = some (.int .i64 x.op) ∧ w'.cell? ⟨g, o2 + k * 18 + 1, none⟩ = some (.int .i64 x.o.kind) ∧ w'.cell? ⟨g, o2 + k * 18 + 2, none⟩ = some (.string x.o.path) ∧ w'.cell? ⟨g, o2 + k * 18 + 3, none⟩ = some (.string x.o.data) ∧ w'.cell? ⟨g, o2 + k * 18 + 4, none⟩ = some (.int .i64 x.o.ver) ∧ w'.cell? ⟨g, o2 + k * 18 + 5, none⟩ = some (.int .i64 x.o.flags) ∧ w'.cell? ⟨g, o2 + k * 18 + 6, none⟩ = some (.int .i64 x.sess) ∧ w'.cell? ⟨g, o2 + k * 18 + 7, none⟩ = some (.int .i64 x.zxid) ∧ w'.cell? ⟨g, o2 + k * 18 + 8, none⟩ = some (.int .i64 x.n.made) ∧ w'.cell? ⟨g, o2 + k * 18 + 9, none⟩ = some (.int .i64 x.n.changed) ∧ w'.cell? ⟨g, o2 + k * 18 + 10, none⟩ = some (.int .i64 x.n.ver) ∧ w'.cell? ⟨g, o2 + k * 18 + 11, none⟩ = some (.int .i64 x.n.kids) ∧ w'.cell? ⟨g, o2 + k * 18 + 12, none⟩ = some (.int .i64 x.n.owner) ∧ w'.cell? ⟨g, o2 + k * 18 + 13, none⟩ = some (.int .i64 x.n.len) ∧ w'.cell? ⟨g, o2 + k * 18 + 14, none⟩ = some (.int .i64 x.n.cnt) ∧ w'.cell? ⟨g, o2 + k * 18 + 15, none⟩ = some (.string x.n.data) ∧ w'.cell? ⟨g, o2 + k * 18 + 16, none⟩ = some (.int .i64 x.n.next) ∧ w'.cell? ⟨g, o2 + k * 18 + 17, none⟩ = some (.slice na nL nc)) := fun w' hb => ⟨Below.kept hb (hcell 0 _ rfl), Below.kept hb (hcell 1 _ rfl), Below.kept hb (hcell 2 _ rfl), Below.kept hb (hcell 3 _ rfl), Below.kept hb (hcell 4 _ rfl), Below.kept hb (hcell 5 _ rfl), Below.kept hb (hcell 6 _ rfl), Below.kept hb (hcell 7 _ rfl), Below.kept hb (hcell 8 _ rfl), Below.kept hb (hcell 9 _ rfl), Below.kept hb (hcell 10 _ rfl), Below.kept hb (hcell 11 _ rfl), Below.kept hb (hcell 12 _ rfl), Below.kept hb (hcell 13 _ rfl), Below.kept hb (hcell 14 _ rfl), Below.kept hb (hcell 15 _ rfl), Below.kept hb (hcell 16 _ rfl), Below.kept hb (hcell 17 _ rfl)⟩
        clear hx hcell
        obtain ⟨y0, y1, y2, y3, y4, y5, y6, y7, y8, y9, y10, y11, y12, y13, y14, y15, y16, y17⟩ := HCL.out wr HR.out.1.below
        go_wp2_with fail
        clear y0 y1 y2 y3 y4 y5 y6 y7 y8 y9 y10 y11 y12 y13 y14 y15 y16 y17
        refine (heavy_any11 x na nL nc wr (HNV.out.below HR.out.1.below) HX.out.1).mono ?_
        rintro e w2 ⟨b2, rfl, hb2, hb⟩
        have M2 : Hid (Mine11 LT W w2 q t F) := HR.out.1.later HS.out.1 hb
        clear hb hb2
        cases b2 with
        | true =>
          go_wp2
          go_ret
          exact ⟨rfl, M2.out.below⟩
        | false =>
          go_wp2_with fail
          refine wp_region_held_drew (S := fun w' => Below W.heap.size W w') (by kernel_rfl) M2.out.below.drew (fun _ => ?_)
          have M3 : Hid (Mine11 LT W w2.drew q t F) := M2.out.later HS.out.1 (Below.refl _ _).drew
          clear M2
          generalize w2.drew = w3 at *
          refine' take_at (i := 0) (d := 36) (v := _) rfl rfl (by kernel_rfl) (by kernel_rfl) (by kernel_rfl) (fun _ _ _ h => h) (Or.inl ⟨by rfl, ?h0⟩) (M3.out.below) ?_
          case h0 =>
            intro w hSw
            go_simp
            with_reducible rfl
          simp only [List.setIfInBounds_toArray, List.set_cons_zero, List.set_cons_succ]
          refine' take_at (i := 1) (d := 37) (v := _) rfl rfl (by kernel_rfl) (by kernel_rfl) (by kernel_rfl) (fun _ _ _ h => h) (Or.inl ⟨by rfl, ?h1⟩) (M3.out.below) ?_
          case h1 =>
            intro w hSw
            go_simp
            with_reducible rfl
          simp only [List.setIfInBounds_toArray, List.set_cons_zero, List.set_cons_succ]
          refine' take_at (i := 2) (d := 38) (v := _) rfl rfl (by kernel_rfl) (by kernel_rfl) (by kernel_rfl) (fun _ _ _ h => h) (Or.inl ⟨by rfl, ?h2⟩) (M3.out.below) ?_
          case h2 =>
            intro w hSw
            go_simp
            with_reducible rfl
          simp only [List.setIfInBounds_toArray, List.set_cons_zero, List.set_cons_succ]
          refine' take_at (i := 3) (d := 39) (v := _) rfl rfl (by kernel_rfl) (by kernel_rfl) (by kernel_rfl) (fun _ _ _ h => h) (Or.inl ⟨by rfl, ?h3⟩) (M3.out.below) ?_
          case h3 =>
            intro w hSw
            go_simp
            with_reducible rfl
          simp only [List.setIfInBounds_toArray, List.set_cons_zero, List.set_cons_succ]
          refine' take_at (i := 4) (d := 40) (v := _) rfl rfl (by kernel_rfl) (by kernel_rfl) (by kernel_rfl) (fun _ _ _ h => h) (Or.inl ⟨by rfl, ?h4⟩) (M3.out.below) ?_
          case h4 =>
            intro w hSw
            go_simp
            with_reducible rfl
          simp only [List.setIfInBounds_toArray, List.set_cons_zero, List.set_cons_succ]
          refine' take_at (i := 5) (d := 41) (v := _) rfl rfl (by kernel_rfl) (by kernel_rfl) (by kernel_rfl) (fun _ _ _ h => h) (Or.inl ⟨by rfl, ?h5⟩) (M3.out.below) ?_
          case h5 =>
            intro w hSw
            obtain ⟨y0, y1, y2, y3, y4, y5, y6, y7, y8, y9, y10, y11, y12, y13, y14, y15, y16, y17⟩ := HCL.out w hSw
            go_simp
            with_reducible rfl
          simp only [List.setIfInBounds_toArray, List.set_cons_zero, List.set_cons_succ]
          refine' take_at (i := 6) (d := 42) (v := _) rfl rfl (by kernel_rfl) (by kernel_rfl) (by kernel_rfl) (fun _ _ _ h => h) (Or.inl ⟨by rfl, ?h6⟩) (M3.out.below) ?_
          case h6 =>
            intro w hSw
            go_simp
            with_reducible rfl
          simp only [List.setIfInBounds_toArray, List.set_cons_zero, List.set_cons_succ]
          refine' take_at (i := 7) (d := 43) (v := _) rfl rfl (by kernel_rfl) (by kernel_rfl) (by kernel_rfl) (fun _ _ _ h => h) (Or.inl ⟨by rfl, ?h7⟩) (M3.out.below) ?_
          case h7 =>
            intro w hSw
            go_simp
            with_reducible rfl
          simp only [List.setIfInBounds_toArray, List.set_cons_zero, List.set_cons_succ]
          refine' take_at (i := 8) (d := 44) (v := _) rfl rfl (by kernel_rfl) (by kernel_rfl) (by kernel_rfl) (fun _ _ _ h => h) (Or.inl ⟨by rfl, ?h8⟩) (M3.out.below) ?_
          case h8 =>
            intro w hSw
            go_simp
            with_reducible rfl
          simp only [List.setIfInBounds_toArray, List.set_cons_zero, List.set_cons_succ]
          refine' take_at (i := 9) (d := 45) (v := _) rfl rfl (by kernel_rfl) (by kernel_rfl) (by kernel_rfl) (fun _ _ _ h => h) (Or.inl ⟨by rfl, ?h9⟩) (M3.out.below) ?_
          case h9 =>
            intro w hSw
            go_simp
            with_reducible rfl
          simp only [List.setIfInBounds_toArray, List.set_cons_zero, List.set_cons_succ]
          refine' take_at (i := 10) (d := 46) (v := _) rfl rfl (by kernel_rfl) (by kernel_rfl) (by kernel_rfl) (fun _ _ _ h => h) (Or.inl ⟨by rfl, ?h10⟩) (M3.out.below) ?_
          case h10 =>
            intro w hSw
            obtain ⟨y0, y1, y2, y3, y4, y5, y6, y7, y8, y9, y10, y11, y12, y13, y14, y15, y16, y17⟩ := HCL.out w hSw
            go_simp
            with_reducible rfl
          simp only [List.setIfInBounds_toArray, List.set_cons_zero, List.set_cons_succ]
          refine' take_at (i := 11) (d := 47) (v := _) rfl rfl (by kernel_rfl) (by kernel_rfl) (by kernel_rfl) (fun _ _ _ h => h) (Or.inl ⟨by rfl, ?h11⟩) (M3.out.below) ?_
          case h11 =>
            intro w hSw
            go_simp
            with_reducible rfl
          simp only [List.setIfInBounds_toArray, List.set_cons_zero, List.set_cons_succ]
          refine' take_at (i := 12) (d := 48) (v := _) rfl rfl (by kernel_rfl) (by kernel_rfl) (by kernel_rfl) (fun _ _ _ h => h) (Or.inl ⟨by rfl, ?h12⟩) (M3.out.below) ?_
          case h12 =>
            intro w hSw
            go_simp
            with_reducible rfl
          simp only [List.setIfInBounds_toArray, List.set_cons_zero, List.set_cons_succ]
          refine' take_at (i := 13) (d := 49) (v := _) rfl rfl (by kernel_rfl) (by kernel_rfl) (by kernel_rfl) (fun _ _ _ h => h) (Or.inl ⟨by rfl, ?h13⟩) (M3.out.below) ?_
          case h13 =>
            intro w hSw
            go_simp
            with_reducible rfl
          simp only [List.setIfInBounds_toArray, List.set_cons_zero, List.set_cons_succ]
          refine' take_at (i := 14) (d := 50) (v := _) rfl rfl (by kernel_rfl) (by kernel_rfl) (by kernel_rfl) (fun _ _ _ h => h) (Or.inl ⟨by rfl, ?h14⟩) (M3.out.below) ?_
          case h14 =>
            intro w hSw
            go_simp
            with_reducible rfl
          simp only [List.setIfInBounds_toArray, List.set_cons_zero, List.set_cons_succ]
          refine' take_at (i := 15) (d := 51) (v := _) rfl rfl (by kernel_rfl) (by kernel_rfl) (by kernel_rfl) (fun _ _ _ h => h) (Or.inl ⟨by rfl, ?h15⟩) (M3.out.below) ?_
          case h15 =>
            intro w hSw
            obtain ⟨y0, y1, y2, y3, y4, y5, y6, y7, y8, y9, y10, y11, y12, y13, y14, y15, y16, y17⟩ := HCL.out w hSw
            go_simp
            with_reducible rfl
          simp only [List.setIfInBounds_toArray, List.set_cons_zero, List.set_cons_succ]
          refine wpAnyH_ready (rs := [16]) (by kernel_rfl) (by simp) ?_
          refine AllReadyH.cons (o := _) rfl (fun KQ hKQ => ?_) AllReadyH.nil
          go_simp
          obtain ⟨x4, t4, he4⟩ : ∃ x4 t4, Tq.doo t x.o x.sess x.zxid = (x4, t4) := ⟨_, _, rfl⟩
          have hfin := Tq.fine_doo (o := x.o) (s := x.sess) (z := x.zxid) M3.out.fine (HR.out.2.1.more (by omega))
          have hfew := Tq.few_doo (o := x.o) (s := x.sess) (z := x.zxid) HR.out.2.1
          have hsnd := Tq.ow_doo (o := x.o) (s := x.sess) (z := x.zxid) HR.out.2.2.1
          have hroom := Tq.room_doo t x.o x.sess x.zxid
          rw [he4] at hfin hfew hsnd hroom
          refine (M3.out.doo HS.out.1 HS.out.2.1 x.o x.sess x.zxid HX.out.1.o x4 t4 he4 hfin).mono ?_
          rintro e w4 ⟨F4, v4, rfl, hsq, hof, hM, hmv⟩
          have M4 : Hid (Mine11 LT W w4 q t4 F4 ∧ Tq.Few t4 (k + 1) ∧ Tq.Ow t4 (x.sess :: ss) ∧ t4.room = 60 ∧ ∀ s ∈ x.sess :: ss, ∃ x ∈ acs, x.sess = s) := ⟨hM, hfew, hsnd, hroom.trans HR.out.2.2.2.1, fun s hs => by
            rcases List.mem_cons.1 hs with rfl | hs
            · exact ⟨x, HX.out.2, rfl⟩
            · exact HR.out.2.2.2.2 s hs⟩
          clear hof hM hmv he4 hfin hfew hsnd hroom hsq
          simp only []
          refine hKQ.out _ _ M4.out.1.below (fun _ => ?_)
          clear hKQ
          refine wpAnyH_done (by kernel_rfl) ?_ _
          go_wp2
          go_roundw
          case rel => exact ⟨k + 1, t4, F4, x.sess :: ss, by omega, by go_num, M4.out.1, M4.out.2.1, M4.out.2.2.1, M4.out.2.2.2.1, M4.out.2.2.2.2⟩
          case measure => simp [intOf]; omega
    · have hlt' : ¬ (k : Int) < (N : Int) := by omega
      go_wp2_with fail
      refine (HS.out.1.paths q t F wr HR.out.1.ld HR.out.1.fine).mono ?_
      rintro e w5 ⟨F5, v5, rfl, hsq, hof, hL, hmv⟩
      have H5 : Hid (Sd11 LT W w5 q t F5 v5) := ⟨HR.out.1.step hL HR.out.1.fine hmv, ⟨hsq.ss, fun _ => hof⟩⟩
      have HT : Hid (Tq.Ow t ss ∧ ∀ s ∈ ss, ∃ x ∈ acs, x.sess = s) := ⟨HR.out.2.2.1, HR.out.2.2.2.2⟩
      clear hof hL hmv HR
      obtain ⟨pa, pL, pc, rfl, hpL, hj2⟩ := hsq
      have HPL : Hid (pL = t.l.length) := by
        have e : pL = t.l.length := by rw [hpL]; unfold Tq.keys; simp
        exact e
      have hpL5 : pL ≤ 500 := by have h1 := HPL.out; have h2 := H5.out.mine.fine.len; have h3 := H5.out.mine.fine.room; omega
      clear hpL hj2 hlt hlt' hk
      go_wp2
      go_loopw [7, 9] (fun mm i wr => ∃ (j : Nat) (F : Nat → Prop), j ≤ pL ∧ i = .int .i64 (j : Int) ∧ mm = .int .i64 ((((t.l.take j).filter fun e => decide (e.2.owner ≠ 0)).length : Nat) : Int) ∧ Sd11 LT W wr q t F (.slice pa pL pc)) (fun _ i _ => pL - (intOf i).toNat)
      case atStart => exact ⟨0, F5, Nat.zero_le _, rfl, rfl, H5.out⟩
      case round =>
        obtain ⟨j, F6, hj, rfl, rfl, hM⟩ := hrel
        have H6 : Hid (Sd11 LT W wr q t F6 (.slice pa pL pc)) := hM
        clear hM H5
        obtain ⟨mm, hmm⟩ : ∃ z, z = ((t.l.take j).filter fun e => decide (e.2.owner ≠ 0)).length := ⟨_, rfl⟩
        rw [← hmm]
        have HMM : Hid (mm = ((t.l.take j).filter fun e => decide (e.2.owner ≠ 0)).length) := hmm
        have hmj : mm ≤ j := by
          rw [hmm]
          exact Nat.le_trans (List.length_filter_le _ _) (by rw [List.length_take]; omega)
        clear hmm
        by_cases hjl : j < pL
        · have hjl' : (j : Int) < (pL : Int) := by omega
          have hj0 : (0 : Int) ≤ (j : Int) := by omega
          have hwj : IntKind.wrap .i64 ((j : Int) + 1) = (j : Int) + 1 := by rw [IntKind.wrap_i64]; omega
          have hwm : IntKind.wrap .i64 ((mm : Int) + 1) = (mm : Int) + 1 := by rw [IntKind.wrap_i64]; omega
          obtain ⟨p, n, hp0, hp1, hp2, hp3, hp4⟩ := Tq.key_at2 H6.out.mine.fine (j := j) (by have := HPL.out; omega)
          have HP : Hid ((Tq.keys t.l)[j]? = some p ∧ Tq.find t.l p = some n ∧ Pl.goodB p.data.toList = true ∧ Node11 n ∧ t.l[j]? = some (p, n)) := ⟨hp1, hp2, hp3, hp4, hp0⟩
          clear hp0 hp1 hp2 hp3 hp4
          obtain ⟨g, o2, hpa, lx⟩ := H6.out.ks.cell HP.out.1
          subst hpa
          go_wp2_with fail
          clear lx
          refine (H6.out.node HS.out.1 p HP.out.2.1).mono ?_
          rintro e w7 ⟨F7, na, nL, nc, rfl, hM, hu, hnL, hmv⟩
          obtain ⟨qn, hqn⟩ : ∃ z, z = w7.heap.size := ⟨_, rfl⟩
          have H8 : Hid (Sd11 LT W (w7.alloc (.cells #[.int .i64 n.made, .int .i64 n.changed, .int .i64 n.ver, .int .i64 n.kids, .int .i64 n.owner, .int .i64 n.len, .int .i64 n.cnt, .string n.data, .int .i64 n.next, .slice na nL nc] 38)) q t F7 (.slice (some ⟨g, o2, none⟩) pL pc) ∧ Bx11 (w7.alloc (.cells #[.int .i64 n.made, .int .i64 n.changed, .int .i64 n.ver, .int .i64 n.kids, .int .i64 n.owner, .int .i64 n.len, .int .i64 n.cnt, .string n.data, .int .i64 n.next, .slice na nL nc] 38)) F7 qn n (.slice na nL nc)) := by
            refine ⟨hM.later HS.out.1 ((Below.refl _ w7).alloc (Nat.le_refl _) _), ?_⟩
            rw [hqn]
            exact Bx11.made HS.out.1 hM.mine hu
          clear hM hu hnL hmv H6
          unfold kv
          go_wp2_with fail
          rw [← hqn]
          clear hqn
          generalize w7.alloc (.cells #[.int .i64 n.made, .int .i64 n.changed, .int .i64 n.ver, .int .i64 n.kids, .int .i64 n.owner, .int .i64 n.len, .int .i64 n.cnt, .string n.data, .int .i64 n.next, .slice na nL nc] 38) = w8 at *
          refine (HS.out.2.2.eph qn n (.slice na nL nc) w8 H8.out.2.blk).mono ?_
          rintro e w9 ⟨rfl, hb⟩
          have H9 : Hid (Sd11 LT W w9 q t F7 (.slice (some ⟨g, o2, none⟩) pL pc) ∧ Bx11 w9 F7 qn n (.slice na nL nc)) := ⟨H8.out.1.later HS.out.1 hb, H8.out.2.later hb⟩
          clear hb H8
          have hnx : ((t.l.take (j + 1)).filter fun e => decide (e.2.owner ≠ 0)).length = mm + if n.owner ≠ 0 then 1 else 0 := by
            rw [List.take_add_one, HP.out.2.2.2.2, HMM.out, List.filter_append, List.length_append]
            by_cases h : n.owner = 0 <;> simp [h]
          by_cases ho : n.owner = 0
          · have he0 : decide (n.owner ≠ 0) = false := by simp [ho]
            have HX : Hid (((t.l.take (j + 1)).filter fun e => decide (e.2.owner ≠ 0)).length = mm) := by
              have h : ((t.l.take (j + 1)).filter fun e => decide (e.2.owner ≠ 0)).length = mm := by rw [hnx, if_neg (by simp [ho])]; rfl
              exact h
            rw [he0]
            clear hnx he0 ho
            go_wp2
            go_roundw
            case rel => exact ⟨j + 1, F7, by omega, by go_num, by rw [HX.out], H9.out.1⟩
            case measure => simp [intOf]; omega
          · have he0 : decide (n.owner ≠ 0) = true := by simp [ho]
            have HX : Hid (((t.l.take (j + 1)).filter fun e => decide (e.2.owner ≠ 0)).length = mm + 1 ∧ 0 < n.owner ∧ p ∈ Tq.ofs t n.owner) := by
              have h1 := (HT.out.1 _ (Tq.find_some HP.out.2.1) ho).1
              exact ⟨by rw [hnx, if_pos ho], h1, Tq.mem_ofs HP.out.2.1 h1⟩
            rw [he0]
            clear hnx he0 ho
            go_wp2_with fail
            refine wp_region_held_drew (S := fun w' => ∃ F', Moved w9 w' F7 F') (by kernel_rfl) ⟨F7, Moved.of_below F7 (Below.refl _ _).drew⟩ (fun _ => ?_)
            have HD : Hid (Sd11 LT W w9.drew q t F7 (.slice (some ⟨g, o2, none⟩) pL pc) ∧ Moved w9 w9.drew F7 F7) := ⟨H9.out.1.later HS.out.1 (Below.refl _ _).drew, Moved.of_below F7 (Below.refl _ _).drew⟩
            generalize w9.drew = wd at *
            refine' take_at (i := 0) (d := 73) (v := _) rfl rfl (by kernel_rfl) (by kernel_rfl) (by kernel_rfl) (fun _ _ _ h => h) (Or.inl ⟨by rfl, ?h0⟩) (⟨F7, HD.out.2⟩) ?_
            case h0 =>
              intro w hSw
              go_simp
              with_reducible rfl
            simp only [List.setIfInBounds_toArray, List.set_cons_zero, List.set_cons_succ]
            refine' take_at (i := 1) (d := 74) (v := _) rfl rfl (by kernel_rfl) (by kernel_rfl) (by kernel_rfl) (fun _ _ _ h => h) (Or.inl ⟨by rfl, ?h1⟩) (⟨F7, HD.out.2⟩) ?_
            case h1 =>
              intro w hSw
              go_simp
              with_reducible rfl
            simp only [List.setIfInBounds_toArray, List.set_cons_zero, List.set_cons_succ]
            refine' take_at (i := 2) (d := 75) (v := _) rfl rfl (by kernel_rfl) (by kernel_rfl) (by kernel_rfl) (fun _ _ _ h => h) (Or.inl ⟨by rfl, ?h2⟩) (⟨F7, HD.out.2⟩) ?_
            case h2 =>
              intro w hSw
              go_simp
              with_reducible rfl
            simp only [List.setIfInBounds_toArray, List.set_cons_zero, List.set_cons_succ]
            refine' take_at (i := 3) (d := 76) (v := _) rfl rfl (by kernel_rfl) (by kernel_rfl) (by kernel_rfl) (fun _ _ _ h => h) (Or.inl ⟨by rfl, ?h3⟩) (⟨F7, HD.out.2⟩) ?_
            case h3 =>
              intro w hSw
              obtain ⟨Fx, hmx⟩ := hSw
              have c4 : w.cell? ⟨qn, 4, none⟩ = some (.int .i64 n.owner) := by rw [(H9.out.2.moved hmx).blk.cell 4]; rfl
              go_simp
              with_reducible rfl
            simp only [List.setIfInBounds_toArray, List.set_cons_zero, List.set_cons_succ]
            refine' take_at (i := 5) (d := 78) (v := _) rfl rfl (by kernel_rfl) (by kernel_rfl) (by kernel_rfl) (fun _ _ _ h => h) (Or.inl ⟨by rfl, ?h5⟩) (⟨F7, HD.out.2⟩) ?_
            case h5 =>
              intro w hSw
              go_simp
              with_reducible rfl
            simp only [List.setIfInBounds_toArray, List.set_cons_zero, List.set_cons_succ]
            refine' take_at (i := 6) (d := 79) (v := _) rfl rfl (by kernel_rfl) (by kernel_rfl) (by kernel_rfl) (fun _ _ _ h => h) (Or.inl ⟨by rfl, ?h6⟩) (⟨F7, HD.out.2⟩) ?_
            case h6 =>
              intro w hSw
              go_simp
              with_reducible rfl
            simp only [List.setIfInBounds_toArray, List.set_cons_zero, List.set_cons_succ]
            refine' take_at (i := 7) (d := 80) (v := _) rfl rfl (by kernel_rfl) (by kernel_rfl) (by kernel_rfl) (fun _ _ _ h => h) (Or.inl ⟨by rfl, ?h7⟩) (⟨F7, HD.out.2⟩) ?_
            case h7 =>
              intro w hSw
              go_simp
              with_reducible rfl
            simp only [List.setIfInBounds_toArray, List.set_cons_zero, List.set_cons_succ]
            refine' take_at (i := 8) (d := 81) (v := _) rfl rfl (by kernel_rfl) (by kernel_rfl) (by kernel_rfl) (fun _ _ _ h => h) (Or.inl ⟨by rfl, ?h8⟩) (⟨F7, HD.out.2⟩) ?_
            case h8 =>
              intro w hSw
              obtain ⟨Fx, hmx⟩ := hSw
              obtain ⟨g', o', e', lx⟩ := (H9.out.1.ks.moved hmx).cell HP.out.1
              cases e'
              go_simp
              with_reducible rfl
            simp only [List.setIfInBounds_toArray, List.set_cons_zero, List.set_cons_succ]
            refine wpAnyH_ready (rs := [4]) (by kernel_rfl) (by simp) ?_
            refine AllReadyH.cons (o := _) rfl (fun KQ hKQ => ?_) AllReadyH.nil
            go_simp
            refine (HS.out.1.ofs q t F7 n.owner wd HD.out.1.mine.ld HD.out.1.mine.fine).mono ?_
            rintro e we ⟨Fe, v, rfl, hsq, hof, hL, hmv⟩
            have hss2 := hsq.ss
            obtain ⟨oa, oL, oc, rfl, hj1, hj2⟩ := hsq
            have HE : Hid (Mine11 LT W we q t Fe ∧ Moved w9 we F7 Fe ∧ Ss we (.slice oa oL oc) (Tq.ofs t n.owner) ∧ (Tq.ofs t n.owner).length ≤ 100000) := by
              refine ⟨HD.out.1.mine.step hL HD.out.1.mine.fine hmv, HD.out.2.trans hmv, hss2, ?_⟩
              rw [Tq.len_ofs HX.out.2.1]
              have h1 := List.length_filter_le (fun e : Tq.En => decide (e.2.owner = n.owner)) t.l
              have h2 := HPL.out
              omega
            clear hj1 hj2 hss2 hof hL hmv
            simp only []
            refine hKQ.out _ _ ⟨Fe, HE.out.2.1⟩ (fun _ => ?_)
            clear hKQ KQ
            refine wpAnyH_ready (rs := [9]) (by kernel_rfl) (by simp) ?_
            refine AllReadyH.cons (o := _) rfl (fun KQ hKQ => ?_) AllReadyH.nil
            go_simp
            refine (has_any11 (.slice oa oL oc) (Tq.ofs t n.owner) p we HE.out.2.2.1 HE.out.2.2.2).mono ?_
            rintro e wf ⟨b, rfl, hbt, hb⟩
            have hbt : b = true := hbt.2 HX.out.2.2
            subst hbt
            have HF : Hid (Mine11 LT W wf q t Fe ∧ Moved w9 wf F7 Fe) := ⟨HE.out.1.later HS.out.1 hb, HE.out.2.1.trans (Moved.of_below Fe hb)⟩
            clear hb
            simp only []
            refine hKQ.out _ _ ⟨Fe, HF.out.2⟩ (fun _ => ?_)
            clear hKQ KQ
            refine' take_at (i := 10) (d := 83) (v := _) rfl rfl (by kernel_rfl) (by kernel_rfl) (by kernel_rfl) (fun _ _ _ h => h) (Or.inl ⟨by rfl, ?h10⟩) (⟨Fe, HF.out.2⟩) ?_
            case h10 =>
              intro w hSw
              go_simp
              with_reducible rfl
            simp only [List.setIfInBounds_toArray, List.set_cons_zero, List.set_cons_succ]
            refine wpAnyH_done (by kernel_rfl) ?_ _
            go_wp2
            go_roundw
            case rel => exact ⟨j + 1, Fe, by omega, by go_num, by rw [HX.out.1]; go_num, HF.out.1, H9.out.1.ks.moved HF.out.2⟩
            case measure => simp [intOf]; omega
        · have hjl' : ¬ (j : Int) < (pL : Int) := by omega
          have HEP : Hid (mm = Tq.ephs t) := by
            have e : mm = Tq.ephs t := by
              rw [HMM.out, List.take_of_length_le (by have := HPL.out; omega)]
              rfl
            exact e
          obtain ⟨sb, hsb⟩ : ∃ sb, sb = wr.heap.size := ⟨_, rfl⟩
          have H10 : Hid (Se11 LT W (wr.alloc (.cells #[] 2)) q t F6 (.slice (some ⟨sb, 0, none⟩) 0 0) []) := by
            have hba := (Below.refl _ wr).alloc (Nat.le_refl _) (.cells #[] 2)
            have hW := H6.out.mine.below.size
            refine ⟨H6.out.mine.later HS.out.1 hba, by rw [hsb]; exact (World.ownsRow_made wr #[] 0 (Nat.le_refl _) (by decide) rfl).mono hW, fun k hk e => ?_⟩
            have := HS.out.1.lt H6.out.mine.ld e
            simp only [Value.ownBlock, Option.some.injEq] at hk
            omega
          clear hmj
          go_upto_region 23 with fail
          rw [← hsb]
          clear hsb H6
          generalize wr.alloc (.cells #[] 2) = wq at *
          go_wp2
          go_loopw [6, 12, 13] (fun nn sv i wx => ∃ (k : Nat) (F : Nat → Prop) (zs : List Int), k ≤ N ∧ i = .int .i64 (k : Int) ∧ nn = .int .i64 ((Tq.mine t.l zs : Nat) : Int) ∧ Se11 LT W wx q t F sv zs ∧ zs.length ≤ k ∧ (∀ s ∈ zs, 0 < s) ∧ ∀ x ∈ acs.take k, x.sess < 1 ∨ x.sess ∈ zs) (fun _ _ i _ => N - (intOf i).toNat)
          case atStart => exact ⟨0, F6, [], Nat.zero_le _, rfl, by rw [Tq.mine_nil]; rfl, H10.out, Nat.le_refl _, fun s hs => by (cases hs), fun x hx => by simp at hx⟩
          case round =>
            obtain ⟨k, F8, zs, hk, rfl, rfl, hSe, hzl, hzp, hcov⟩ := hrel
            have H11 : Hid (Se11 LT W wr q t F8 u12 zs ∧ zs.length ≤ k ∧ (∀ s ∈ zs, 0 < s) ∧ ∀ x ∈ acs.take k, x.sess < 1 ∨ x.sess ∈ zs) := ⟨hSe, hzl, hzp, hcov⟩
            obtain ⟨sa, sc2, ev, _, hj2⟩ := row_form hSe.row
            clear hj2 hSe hzl hzp hcov H10
            subst ev
            obtain ⟨M, hM⟩ : ∃ M, M = Tq.mine t.l zs := ⟨_, rfl⟩
            rw [← hM]
            have HMZ : Hid (M = Tq.mine t.l zs) := hM
            have hM5 : M ≤ 500 := by
              rw [hM]
              have h1 := List.length_filter_le (fun e : Tq.En => decide (e.2.owner ∈ zs)) t.l
              have h2 := HPL.out
              unfold Tq.mine
              omega
            clear hM
            obtain ⟨L, hL⟩ : ∃ L, L = zs.length := ⟨_, rfl⟩
            rw [← hL] at H11
            rw [← hL]
            have HLZ : Hid (L = zs.length) := hL
            have hL4 : L ≤ 40 := by rw [hL]; have := H11.out.2.1; omega
            clear hL
            by_cases hlt : k < N
            · as_aux_lemma =>
                have hlt' : (k : Int) < (N : Int) := by omega
                have hk0 : (0 : Int) ≤ (k : Int) := by omega
                have hwk : IntKind.wrap .i64 ((k : Int) + 1) = (k : Int) + 1 := by rw [IntKind.wrap_i64]; omega
                obtain ⟨x, hx⟩ : ∃ x, acs[k]? = some x := ⟨_, List.getElem?_eq_getElem (by have := HC.out.2.1; omega)⟩
                have HX : Hid (acs.take (k + 1) = acs.take k ++ [x]) := by
                  have e : acs.take (k + 1) = acs.take k ++ [x] := by rw [List.take_add_one, hx]; rfl
                  exact e
                obtain ⟨g, o2, nv, hav, hnv, hcell⟩ := HC.out.1 k x hx
                subst hav
                have HCL : Hid (∀ w', Below W.heap.size W w' → w'.cell? ⟨g, o2 + k * 18 + 6, none⟩ = some (.int .i64 x.sess)) := fun w' hb => Below.kept hb (hcell 6 _ rfl)
                clear hx hcell hnv
                have y6 := HCL.out wr H11.out.1.mine.below
                go_upto_region 27 with fail
                clear y6
                go_wp2
                go_loopw [14, 15] (fun bv i wx => ∃ (j2 : Nat), j2 ≤ L ∧ i = .int .i64 (j2 : Int) ∧ bv = .bool (decide (x.sess < 1 ∨ x.sess ∈ zs.take j2)) ∧ Se11 LT W wx q t F8 (.slice sa L sc2) zs) (fun _ i _ => L - (intOf i).toNat)
                case atStart => exact ⟨0, Nat.zero_le _, rfl, by simp, H11.out.1⟩
                case round =>
                  obtain ⟨j2, hj2, rfl, rfl, hSe⟩ := hrel
                  have H12 : Hid (Se11 LT W wr q t F8 (.slice sa L sc2) zs ∧ zs.length ≤ k ∧ (∀ s ∈ zs, 0 < s) ∧ ∀ x ∈ acs.take k, x.sess < 1 ∨ x.sess ∈ zs) := by
                    have h2 := H11.out.2
                    rw [HLZ.out] at h2
                    exact ⟨hSe, h2⟩
                  clear hSe H11
                  obtain ⟨bb, hbb⟩ : ∃ b, b = decide (x.sess < 1 ∨ x.sess ∈ zs.take j2) := ⟨_, rfl⟩
                  rw [← hbb]
                  have HBB : Hid (bb = decide (x.sess < 1 ∨ x.sess ∈ zs.take j2)) := hbb
                  clear hbb
                  by_cases hjl2 : j2 < L
                  · have hjl2' : (j2 : Int) < (L : Int) := by omega
                    have hj20 : (0 : Int) ≤ (j2 : Int) := by omega
                    have hwj2 : IntKind.wrap .i64 ((j2 : Int) + 1) = (j2 : Int) + 1 := by rw [IntKind.wrap_i64]; omega
                    obtain ⟨z, hz⟩ : ∃ z, zs[j2]? = some z := ⟨_, List.getElem?_eq_getElem (by have := HLZ.out; omega)⟩
                    have hrow := H12.out.1.row
                    rw [HLZ.out] at hrow
                    obtain ⟨g2, hsa, lz⟩ := int_at hrow hz
                    subst hsa
                    have HNX : Hid (decide (x.sess < 1 ∨ x.sess ∈ zs.take (j2 + 1)) = (bb || (z == x.sess))) := by
                      have e : decide (x.sess < 1 ∨ x.sess ∈ zs.take (j2 + 1)) = (bb || (z == x.sess)) := by
                        rw [HBB.out, List.take_add_one, hz, Bool.eq_iff_iff]
                        simp only [decide_eq_true_eq, List.mem_append, Option.toList_some, List.mem_singleton, Bool.or_eq_true, beq_iff_eq]
                        constructor
                        · rintro (h | h | h)
                          · exact Or.inl (Or.inl h)
                          · exact Or.inl (Or.inr h)
                          · exact Or.inr h.symm
                        · rintro ((h | h) | h)
                          · exact Or.inl h
                          · exact Or.inr (Or.inl h)
                          · exact Or.inr (Or.inr h.symm)
                      exact e
                    have y6 := HCL.out wr H12.out.1.mine.below
                    clear hrow hz HBB
                    cases bb with
                    | true =>
                      go_wp2
                      go_quiet (fail)
                      go_wp2
                      go_roundw
                      case rel => exact ⟨j2 + 1, by omega, by go_num, by rw [HNX.out]; rfl, H12.out.1.later HS.out.1 (below_drewN (Below.refl _ _) _)⟩
                      case measure => simp [intOf]; omega
                    | false =>
                      go_wp2
                      go_quiet (fail)
                      go_wp2
                      go_roundw
                      case rel => exact ⟨j2 + 1, by omega, by go_num, by rw [HNX.out]; rfl, H12.out.1.later HS.out.1 (below_drewN (Below.refl _ _) _)⟩
                      case measure => simp [intOf]; omega
                  · have hjl2' : ¬ (j2 : Int) < (L : Int) := by omega
                    have HBX : Hid (bb = decide (x.sess < 1 ∨ x.sess ∈ zs)) := by
                      have e : bb = decide (x.sess < 1 ∨ x.sess ∈ zs) := by
                        rw [HBB.out, List.take_of_length_le (by have := HLZ.out; omega)]
                      exact e
                    clear HBB
                    cases bb with
                    | true =>
                      go_wp2
                      go_roundw
                      case rel =>
                        refine ⟨k + 1, F8, zs, by omega, by go_num, by rw [HMZ.out], H12.out.1, by have := H12.out.2.1; omega, H12.out.2.2.1, fun x2 hx2 => ?_⟩
                        rw [HX.out] at hx2
                        rcases List.mem_append.1 hx2 with h | h
                        · exact H12.out.2.2.2 x2 h
                        · obtain rfl := List.mem_singleton.1 h
                          exact of_decide_eq_true HBX.out.symm
                      case measure => simp [intOf]; omega
                    | false =>
                      have hno := of_decide_eq_false HBX.out.symm
                      have HNO : Hid (0 < x.sess ∧ x.sess ∉ zs) := ⟨by omega, fun h => hno (Or.inr h)⟩
                      clear hno
                      have y6 := HCL.out wr H12.out.1.mine.below
                      obtain ⟨qb, hqb⟩ : ∃ qb, qb = wr.heap.size := ⟨_, rfl⟩
                      have HW1 : Hid (Below wr.heap.size wr (wr.alloc (.cells #[.int .i64 x.sess] 2)) ∧ Bi (wr.alloc (.cells #[.int .i64 x.sess] 2)) (.slice (some ⟨qb, 0, none⟩) 1 1) [x.sess] ∧ W.heap.size ≤ (wr.alloc (.cells #[.int .i64 x.sess] 2)).heap.size) := by
                        have hba := (Below.refl _ wr).alloc (Nat.le_refl _) (.cells #[.int .i64 x.sess] 2)
                        refine ⟨hba, ⟨_, _, _, rfl, rfl, fun j z hz => ⟨_, _, rfl, ?_⟩⟩, Nat.le_trans H12.out.1.mine.below.size hba.size⟩
                        cases j with
                        | zero =>
                          simp only [List.getElem?_cons_zero, Option.some.injEq] at hz
                          subst hz
                          rw [hqb]
                          exact ((Cb.made wr [.int .i64 x.sess] 2).cell 0).trans rfl
                        | succ j => simp at hz
                      have hL1 : zs.length + [x.sess].length ≤ 1000000 := by have := HLZ.out; simp only [List.length_cons, List.length_nil]; omega
                      go_wp2_with (at_builtin; rw [← hqb]; refine append_ints11 rfl _ _ rfl W.heap.size (.slice sa L sc2) (.slice (some ⟨qb, 0, none⟩) 1 1) zs.length zs [x.sess] (wr.alloc (.cells #[.int .i64 x.sess] 2)) rfl rfl ((H12.out.1.later HS.out.1 HW1.out.1).row) HW1.out.2.2 HW1.out.2.1 (Or.inr ⟨_, _, _, rfl⟩) hL1 ?_)
                      intro v6 w6 hr hg hv
                      have hr2 : w6.ownsRow W.heap.size 2 1 v6 (zs ++ [x.sess]).length (ic11 (zs ++ [x.sess])) := by simpa [ic11] using hr
                      have H13 : Hid (Se11 LT W w6 q t F8 v6 (zs ++ [x.sess])) := H12.out.1.more HS.out.1 HW1.out.1 hg hr2 (by simpa using hv)
                      clear hr hr2 hg hv y6 hqb
                      have y6 := HCL.out w6 H13.out.mine.below
                      clear hL1 HW1
                      go_wp2_with fail
                      clear y6
                      refine (HS.out.1.ofs q t F8 x.sess w6 H13.out.mine.ld H13.out.mine.fine).mono ?_
                      rintro e w7 ⟨F7, v7, rfl, hsq, hof, hL7, hm7⟩
                      obtain ⟨oa, oL, oc, rfl, hoL, hjo⟩ := hsq
                      have HO : Hid (Tq.mine t.l (zs ++ [x.sess]) = M + oL ∧ Se11 LT W w7 q t F7 v6 (zs ++ [x.sess])) := by
                        refine ⟨?_, H13.out.moved hL7 hm7⟩
                        rw [Tq.mine_cons _ _ _ HNO.out.2, hoL, Tq.len_ofs HNO.out.1, HMZ.out]
                      have hoL5 : oL ≤ 500 := by
                        rw [hoL, Tq.len_ofs HNO.out.1]
                        have h1 := List.length_filter_le (fun e : Tq.En => decide (e.2.owner = x.sess)) t.l
                        have h2 := HPL.out
                        omega
                      have hwo : IntKind.wrap .i64 ((M : Int) + (oL : Int)) = (M : Int) + (oL : Int) := by rw [IntKind.wrap_i64]; omega
                      clear hof hL7 hm7 hoL hjo
                      go_wp2
                      go_roundw
                      case rel =>
                        refine ⟨k + 1, F7, zs ++ [x.sess], by omega, by go_num, by rw [HO.out.1]; go_num, HO.out.2, by have := H12.out.2.1; simp only [List.length_append, List.length_cons, List.length_nil]; omega, fun s hs => ?_, fun x2 hx2 => ?_⟩
                        · rcases List.mem_append.1 hs with h | h
                          · exact H12.out.2.2.1 s h
                          · obtain rfl := List.mem_singleton.1 h
                            exact HNO.out.1
                        · rw [HX.out] at hx2
                          rcases List.mem_append.1 hx2 with h | h
                          · rcases H12.out.2.2.2 x2 h with h | h
                            · exact Or.inl h
                            · exact Or.inr (List.mem_append_left _ h)
                          · obtain rfl := List.mem_singleton.1 h
                            exact Or.inr (List.mem_append_right _ (List.mem_singleton.2 rfl))
                      case measure => simp [intOf]; omega
            · have hlt' : ¬ (k : Int) < (N : Int) := by omega
              have HFI : Hid (M = mm) := by
                have e : M = mm := by
                  rw [HMZ.out, HEP.out]
                  refine Tq.mine_all HT.out.1 H11.out.2.2.1 (fun s hs => ?_)
                  obtain ⟨x, hx, rfl⟩ := HT.out.2 s hs
                  refine H11.out.2.2.2 x ?_
                  rw [List.take_of_length_le (by have := HC.out.2.1; omega)]
                  exact hx
                exact e
              have hMm : ((M : Int) == (mm : Int)) = true := by rw [HFI.out]; simp
              go_wp2_with fail
              refine (HS.out.1.ofs q t F8 0 wr H11.out.1.mine.ld H11.out.1.mine.fine).mono ?_
              rintro e wz ⟨Fz, vz, rfl, hsq, hof, hLz, hmz⟩
              rw [Tq.ofs_zero] at hsq
              obtain ⟨za, zk, zc, rfl, hzk, hjz⟩ := hsq
              have HZ : Hid (Below W.heap.size W wz) := (H11.out.1.mine.step hLz H11.out.1.mine.fine hmz).below
              obtain rfl : zk = 0 := hzk
              clear hof hLz hmz hjz
              go_wp2
              go_ret
              exact ⟨rfl, HZ.out⟩
end Go.Proofs.YtfcbdjjbchcpjaaGreatDoor
