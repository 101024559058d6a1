/- MultiPurges' walk. -/
import Derived.Test.YtfcbdjjbchcpjaaGreatDoorArgA12
import Derived.Test.YtfcbdjjbchcpjaaGreatDoorRtr
import Derived.Test.YtfcbdjjbchcpjaaGreatDoorActs12
import Derived.Test.YtfcbdjjbchcpjaaGreatDoorPlainP12
namespace Go.Proofs.YtfcbdjjbchcpjaaGreatDoor
open Go.RowKit Go.Sort

theorem Mine11.purge {LT : Rep11} (S : Specs11 LT) (P : SpecP12 LT) {W w : World} {q : Nat} {t : Tq.Tr} {F : Nat → Prop} (h : Mine11 LT W w q t F) (hS : Pa.Std W) (s : Int) :
    Calls Tryz.prog 44 #[dptr q, .int .i64 s] w fun e w' => ∃ F' v ts, e = .returned v ∧ List.Perm ts (Tq.ofs t s) ∧ (dl11 ts).Pairwise (fun x y => deepB y x = false) ∧ Mine11 LT W w' q (Tq.drops t ts) F' ∧ w'.ownsRow w.heap.size 9 1 v ts.length (sc ts) ∧ Off11 F' v ∧ Moved w w' F F' := by
  refine (purge_any12 S P q t F s w h.ld h.fine (h.six hS) (hS.below h.below)).mono ?_
  rintro e w' ⟨F', v, ts, rfl, h1, h2, h3⟩
  exact ⟨F', v, ts, rfl, h1, h2, h.step h3.ld (Tq.fine_drops h.fine) h3.mv, h3.row, h3.off, h3.mv⟩
/-- A row of texts of one's own is a slice of texts off a tree. -/
theorem sm_row {w : World} {B N : Nat} {F : Nat → Prop} {v : Value} {ts : List ByteArray} (h : w.ownsRow B 9 1 v N (sc ts)) (hn : N = ts.length) (ho : Off11 F v) : Sm w F v ts := by
  subst hn
  exact ⟨(sq_own h).ss, fun _ => ho⟩
theorem node_all {t : Tq.Tr} {p : ByteArray} {F : Nat → Prop} {e : Ending} {w : World} (h : NodeP t p F e w) : ∃ (n : Kq.Kn) (a : Option Addr) (L c : Nat), e = .returned (.tuple #[kv n (.slice a L c), .bool (Tq.find t.l p).isSome]) := by
  cases hf : Tq.find t.l p with
  | none =>
    obtain ⟨a, c, he⟩ := h.2 hf
    exact ⟨_, a, 0, c, he⟩
  | some n =>
    obtain ⟨v, he, ⟨a, L, c, rfl, _⟩, _⟩ := h.1 n hf
    exact ⟨n, a, L, c, he⟩

set_option maxRecDepth 20000 in
set_option maxHeartbeats 8000000 in
theorem purges_any12 {LT : Rep11} (S : Specs11 LT) (D : SpecD12 LT) (R : SpecR11 LT) (P : SpecP12 LT) (vl : Value) (acs : List Ac12) (s : Int) (W : World) (hS : Pa.Std W) (hl : Acl12 W vl acs) (hll : acs.length ≤ maxLen) (hok : ∀ x ∈ acs, AcOk12 x) :
    Calls Tryz.prog 13 #[vl, .int .i64 s] W fun e w' => e = .returned (.bool true) ∧ Below W.heap.size W w' := by
  have HS : Hid (Specs11 LT ∧ SpecD12 LT ∧ SpecR11 LT ∧ SpecP12 LT ∧ Pa.Std W) := ⟨S, D, R, P, hS⟩
  obtain ⟨av, N, c, rfl, hN, hc⟩ := hl
  have HC : Hid ((∀ (j : Nat) x, acs[j]? = some x → ∃ g o nv, av = some ⟨g, o, none⟩ ∧ Ol W nv x.ops ∧ ∀ (i : Nat) u, (a5 x nv)[i]? = some u → W.cell? ⟨g, o + j * 5 + i, none⟩ = some u) ∧ N = acs.length ∧ ∀ x ∈ acs, AcOk12 x) := ⟨hc, hN, hok⟩
  have hN1 : N ≤ 9223372036854775807 := by unfold maxLen at hll; omega
  clear S D R P hS hc hN hok hll
  go_enter Tryz.func13, Tryz.ntmps13
  go_wp2_with fail
  refine (awake_any12 HS.out.1 HS.out.2.1 W HS.out.2.2.2.2).mono ?_
  rintro e w0 ⟨rfl, hb⟩
  have B0 : Hid (Below W.heap.size W w0) := hb
  clear hb
  by_cases h20 : 20 < N
  · have h20' : (20 : Int) < (N : Int) := by omega
    go_wp2
    go_ret
    exact ⟨rfl, B0.out⟩
  have h20' : ¬ (20 : Int) < (N : Int) := by omega
  by_cases hs1 : s < 1
  · go_wp2
    go_ret
    exact ⟨rfl, B0.out⟩
  go_wp2_with fail
  have HS1 : Hid (0 < s) := by
    have h : 0 < s := by omega
    exact h
  clear hs1
  refine (Mine11.made HS.out.1 100 (by decide) B0.out).mono ?_
  rintro e w1 ⟨q, F1, rfl, hM, hb⟩
  have M1 : Hid (Mine11 LT W w1 q ⟨100, []⟩ F1) := hM
  clear hM hb B0
  unfold dptr
  go_wp2
  go_loopw [7] (fun i wr => ∃ (k : Nat) (t : Tq.Tr) (F : Nat → Prop), k ≤ N ∧ i = .int .i64 (k : Int) ∧ Mine11 LT W wr q t F ∧ Tq.Few t (k * 20)) (fun i _ => N - (intOf i).toNat)
  case atStart => exact ⟨0, ⟨100, []⟩, F1, Nat.zero_le _, rfl, M1.out, (Tq.few_new 100).more (by omega)⟩
  case round =>
  obtain ⟨k, t, F, hk, rfl, hM, hF⟩ := hrel
  have HR : Hid (Mine11 LT W wr q t F ∧ Tq.Few t (k * 20)) := ⟨hM, hF⟩
  clear hM hF M1
  by_cases hlt : k < N
  · as_aux_lemma =>
      have hlt' : (k : Int) < (N : Int) := by omega
      have hk0 : (0 : Int) ≤ (k : Int) := by omega
      have hwk : IntKind.wrap .i64 ((k : Int) + 1) = (k : Int) + 1 := by rw [IntKind.wrap_i64]; omega
      obtain ⟨x, hx⟩ : ∃ x, acs[k]? = some x := ⟨_, List.getElem?_eq_getElem (by have := HC.out.2.1; omega)⟩
      have HX : Hid (AcOk12 x) := HC.out.2.2 x (List.mem_of_getElem? hx)
      obtain ⟨g, o2, nv, hav, hnv, hcell⟩ := HC.out.1 k x hx
      subst hav
      obtain ⟨na, nL, nc, rfl, hj1, hj2⟩ := hnv
      have HNV : Hid (Ol W (.slice na nL nc) x.ops) := ⟨_, _, _, rfl, hj1, hj2⟩
      clear hj1 hj2
      have HCL : Hid (∀ w', Below W.heap.size W w' → w'.cell? ⟨g, o2 + k * 5, none⟩ = some (.int .i64 x.op) ∧ w'.cell? ⟨g, o2 + k * 5 + 1, none⟩ = some (.int .i64 x.sess) ∧ w'.cell? ⟨g, o2 + k * 5 + 2, none⟩ = some (.int .i64 x.zxid) ∧ w'.cell? ⟨g, o2 + k * 5 + 3, none⟩ = some (.int .i64 x.num) ∧ w'.cell? ⟨g, o2 + k * 5 + 4, none⟩ = some (.slice na nL nc)) := fun w' hb => ⟨Below.kept hb (hcell 0 _ rfl), Below.kept hb (hcell 1 _ rfl), Below.kept hb (hcell 2 _ rfl), Below.kept hb (hcell 3 _ rfl), Below.kept hb (hcell 4 _ rfl)⟩
      clear hx hcell
      obtain ⟨y0, y1, y2, y3, y4⟩ := HCL.out wr HR.out.1.below
      go_wp2_with fail
      clear y0 y1 y2 y3 y4
      refine (long_any12 (.slice na nL nc) x.ops wr (HNV.out.below HR.out.1.below) HX.out.len).mono ?_
      rintro e w2 ⟨rfl, hb⟩
      have M2 : Hid (Mine11 LT W w2 q t F) := HR.out.1.later HS.out.1 hb
      clear hb
      cases hg : greatB x.ops with
      | true =>
        clear hg
        go_wp2
        go_ret
        exact ⟨rfl, M2.out.below⟩
      | false =>
        have HG : Hid (x.ops.length ≤ 20) := (great_no hg).1
        clear hg
        go_wp2_with fail
        refine wp_region_held_drew (S := fun w' => Below W.heap.size W w') (by kernel_rfl) M2.out.below.drew (fun _ => ?_)
        have M3 : Hid (Mine11 LT W w2.drew q t F) := M2.out.later HS.out.1 (Below.refl _ _).drew
        clear M2
        generalize w2.drew = w3 at *
        refine' take_at (i := 0) (d := 41) (v := _) rfl rfl (by kernel_rfl) (by kernel_rfl) (by kernel_rfl) (fun _ _ _ h => h) (Or.inl ⟨by rfl, ?h0⟩) (M3.out.below) ?_
        case h0 =>
          intro w hSw
          obtain ⟨y0, y1, y2, y3, y4⟩ := HCL.out w hSw
          go_simp
          with_reducible rfl
        simp only [List.setIfInBounds_toArray, List.set_cons_zero, List.set_cons_succ]
        refine' take_at (i := 1) (d := 42) (v := _) rfl rfl (by kernel_rfl) (by kernel_rfl) (by kernel_rfl) (fun _ _ _ h => h) (Or.inl ⟨by rfl, ?h1⟩) (M3.out.below) ?_
        case h1 =>
          intro w hSw
          obtain ⟨y0, y1, y2, y3, y4⟩ := HCL.out w hSw
          go_simp
          with_reducible rfl
        simp only [List.setIfInBounds_toArray, List.set_cons_zero, List.set_cons_succ]
        refine' take_at (i := 2) (d := 43) (v := _) rfl rfl (by kernel_rfl) (by kernel_rfl) (by kernel_rfl) (fun _ _ _ h => h) (Or.inl ⟨by rfl, ?h2⟩) (M3.out.below) ?_
        case h2 =>
          intro w hSw
          obtain ⟨y0, y1, y2, y3, y4⟩ := HCL.out w hSw
          go_simp
          with_reducible rfl
        simp only [List.setIfInBounds_toArray, List.set_cons_zero, List.set_cons_succ]
        refine' take_at (i := 3) (d := 44) (v := _) rfl rfl (by kernel_rfl) (by kernel_rfl) (by kernel_rfl) (fun _ _ _ h => h) (Or.inl ⟨by rfl, ?h3⟩) (M3.out.below) ?_
        case h3 =>
          intro w hSw
          obtain ⟨y0, y1, y2, y3, y4⟩ := HCL.out w hSw
          go_simp
          with_reducible rfl
        simp only [List.setIfInBounds_toArray, List.set_cons_zero, List.set_cons_succ]
        refine' take_at (i := 4) (d := 45) (v := _) rfl rfl (by kernel_rfl) (by kernel_rfl) (by kernel_rfl) (fun _ _ _ h => h) (Or.inl ⟨by rfl, ?h4⟩) (M3.out.below) ?_
        case h4 =>
          intro w hSw
          obtain ⟨y0, y1, y2, y3, y4⟩ := HCL.out w hSw
          go_simp
          with_reducible rfl
        simp only [List.setIfInBounds_toArray, List.set_cons_zero, List.set_cons_succ]
        refine' take_at (i := 5) (d := 46) (v := _) rfl rfl (by kernel_rfl) (by kernel_rfl) (by kernel_rfl) (fun _ _ _ h => h) (Or.inl ⟨by rfl, ?h5⟩) (M3.out.below) ?_
        case h5 =>
          intro w hSw
          obtain ⟨y0, y1, y2, y3, y4⟩ := HCL.out w hSw
          go_simp
          with_reducible rfl
        simp only [List.setIfInBounds_toArray, List.set_cons_zero, List.set_cons_succ]
        refine' take_at (i := 6) (d := 47) (v := _) rfl rfl (by kernel_rfl) (by kernel_rfl) (by kernel_rfl) (fun _ _ _ h => h) (Or.inl ⟨by rfl, ?h6⟩) (M3.out.below) ?_
        case h6 =>
          intro w hSw
          obtain ⟨y0, y1, y2, y3, y4⟩ := HCL.out w hSw
          go_simp
          with_reducible rfl
        simp only [List.setIfInBounds_toArray, List.set_cons_zero, List.set_cons_succ]
        refine' take_at (i := 7) (d := 48) (v := _) rfl rfl (by kernel_rfl) (by kernel_rfl) (by kernel_rfl) (fun _ _ _ h => h) (Or.inl ⟨by rfl, ?h7⟩) (M3.out.below) ?_
        case h7 =>
          intro w hSw
          obtain ⟨y0, y1, y2, y3, y4⟩ := HCL.out w hSw
          go_simp
          with_reducible rfl
        simp only [List.setIfInBounds_toArray, List.set_cons_zero, List.set_cons_succ]
        refine' take_at (i := 8) (d := 49) (v := _) rfl rfl (by kernel_rfl) (by kernel_rfl) (by kernel_rfl) (fun _ _ _ h => h) (Or.inl ⟨by rfl, ?h8⟩) (M3.out.below) ?_
        case h8 =>
          intro w hSw
          obtain ⟨y0, y1, y2, y3, y4⟩ := HCL.out w hSw
          go_simp
          with_reducible rfl
        simp only [List.setIfInBounds_toArray, List.set_cons_zero, List.set_cons_succ]
        refine' take_at (i := 9) (d := 50) (v := _) rfl rfl (by kernel_rfl) (by kernel_rfl) (by kernel_rfl) (fun _ _ _ h => h) (Or.inl ⟨by rfl, ?h9⟩) (M3.out.below) ?_
        case h9 =>
          intro w hSw
          obtain ⟨y0, y1, y2, y3, y4⟩ := HCL.out w hSw
          go_simp
          with_reducible rfl
        simp only [List.setIfInBounds_toArray, List.set_cons_zero, List.set_cons_succ]
        refine' take_at (i := 10) (d := 51) (v := _) rfl rfl (by kernel_rfl) (by kernel_rfl) (by kernel_rfl) (fun _ _ _ h => h) (Or.inl ⟨by rfl, ?h10⟩) (M3.out.below) ?_
        case h10 =>
          intro w hSw
          obtain ⟨y0, y1, y2, y3, y4⟩ := HCL.out w hSw
          go_simp
          with_reducible rfl
        simp only [List.setIfInBounds_toArray, List.set_cons_zero, List.set_cons_succ]
        refine wpAnyH_ready (rs := [11]) (by kernel_rfl) (by simp) ?_
        refine AllReadyH.cons (o := _) rfl (fun KQ hKQ => ?_) AllReadyH.nil
        go_simp
        obtain ⟨r, B, t4, hrt⟩ : ∃ r B t4, Tq.many t x.sess 1 x.ops = ((r, B), t4) := ⟨_, _, _, rfl⟩
        have HR4 : Hid (Tq.many t x.sess 1 x.ops = ((r, B), t4) ∧ Tq.Few t4 ((k + 1) * 20)) := ⟨hrt, by
          have h := Tq.many_few (s := x.sess) (z := 1) (os := x.ops) HR.out.2
          rw [hrt] at h
          exact h.more (by have := HG.out; omega)⟩
        clear hrt
        refine (M3.out.many HS.out.1 HS.out.2.1 HS.out.2.2.2.2 x.sess 1 (.slice na nL nc) x.ops (k * 20) HR.out.2 (by omega) (Om12.arg HNV.out M3.out.below M3.out.hi) HX.out.ops (by have := HG.out; omega) r B t4 HR4.out.1).mono ?_
        rintro e w4 ⟨F4, u4, rfl, hRn, hM, hmv⟩
        have M4 : Hid (Mine11 LT W w4 q t4 F4) := hM
        clear hRn hM hmv
        simp only []
        refine hKQ.out _ _ M4.out.below (fun _ => ?_)
        clear hKQ KQ
        refine wpAnyH_done (by kernel_rfl) ?_ _
        go_wp2
        go_roundw
        case rel => exact ⟨k + 1, t4, F4, by omega, by go_num, M4.out, HR4.out.2⟩
        case measure => simp [intOf]; omega
  have hlt' : ¬ (k : Int) < (N : Int) := by omega
  go_wp2_with fail
  refine (HS.out.2.2.1.paths q t F wr HR.out.1.ld HR.out.1.fine).mono ?_
  rintro e w5 ⟨v5, rfl, hsq, hof, hb5⟩
  have M5 : Hid (Mine11 LT W w5 q t F ∧ Sm w5 F v5 (Tq.keys t.l)) := ⟨HR.out.1.later HS.out.1 hb5, ⟨hsq.ss, fun _ k hk e => hof k hk (HS.out.1.lt HR.out.1.ld e)⟩⟩
  obtain ⟨pa, L, pc, rfl, hL, hjj⟩ := hsq
  have HL : Hid (L = t.l.length ∧ Fine11 t) := ⟨by rw [hL]; unfold Tq.keys; simp, HR.out.1.fine⟩
  have hL5 : L ≤ 500 := by have h1 := HL.out.1; have h2 := HL.out.2.len; have h3 := HL.out.2.room; omega
  clear hof hb5 hjj hL HR hlt hlt' hk
  go_wp2_with fail
  refine (HS.out.2.2.2.1.ofo q t F s w5 M5.out.1.ld M5.out.1.fine).mono ?_
  rintro e w6 ⟨v6, rfl, hrow, hl6, hb6⟩
  have M6 : Hid (Mine11 LT W w6 q t F ∧ Sm w6 F (.slice pa L pc) (Tq.keys t.l)) := ⟨M5.out.1.later HS.out.1 hb6, M5.out.2.later hb6⟩
  obtain ⟨G, hG⟩ : ∃ G, G = (Tq.ofs t s).length := ⟨_, rfl⟩
  rw [← hG] at hrow
  have HG : Hid (G = (Tq.ofs t s).length) := hG
  obtain ⟨ga, gc, ev, hj1, hj2⟩ := row_form hrow
  subst ev
  have hG5 : G ≤ 500 := by rw [hG]; exact Tq.ofs_len HL.out.2 s
  clear hrow hl6 hb6 hG hj1 hj2 M5
  go_wp2_with fail
  refine (M6.out.1.purge HS.out.1 HS.out.2.2.2.1 HS.out.2.2.2.2 s).mono ?_
  rintro e w7 ⟨F7, v7, ts, rfl, hp, hpw, hM, hrow, hof, hmv⟩
  have hTL : ts.length = G := by rw [hp.length_eq]; exact HG.out.symm
  rw [hTL] at hrow
  obtain ⟨t7, ht7⟩ : ∃ t7, t7 = Tq.drops t ts := ⟨_, rfl⟩
  rw [← ht7] at hM
  have HT : Hid (t7.l.length + G = t.l.length ∧ Tq.ofs t7 s = [] ∧ (∀ p ∈ Tq.keys t.l, ((Tq.find t7.l p).isSome = true ↔ p ∉ ts)) ∧ ts.length = G) := by
    have h := Tq.purge_says HL.out.2 HS1.out hp
    rw [← ht7, ← HG.out] at h
    exact ⟨h.1, h.2.1, h.2.2, hTL⟩
  obtain ⟨va, vc, ev, hj1, hj2⟩ := row_form hrow
  subst ev
  have M7 : Hid (Mine11 LT W w7 q t7 F7 ∧ Sm w7 F7 (.slice pa L pc) (Tq.keys t.l) ∧ Sm w7 F7 (.slice va G vc) ts) := ⟨hM, M6.out.2.moved hmv, sm_row hrow hTL.symm hof⟩
  clear hp hpw hM hrow hof hmv ht7 hj1 hj2 hTL M6
  go_wp2_with fail
  refine (HS.out.2.2.2.1.ofo q t7 F7 s w7 M7.out.1.ld M7.out.1.fine).mono ?_
  rintro e w8 ⟨v8, rfl, hrow, hl8, hb8⟩
  have M8 : Hid (Mine11 LT W w8 q t7 F7 ∧ Sm w8 F7 (.slice pa L pc) (Tq.keys t.l) ∧ Sm w8 F7 (.slice va G vc) ts) := ⟨M7.out.1.later HS.out.1 hb8, M7.out.2.1.later hb8, M7.out.2.2.later hb8⟩
  rw [HT.out.2.1] at hrow
  obtain ⟨oa, oc8, ev, hj1, hj2⟩ := row_form hrow
  rw [List.length_nil] at ev
  subst ev
  clear hrow hl8 hb8 hj1 hj2 M7
  go_wp2_with fail
  refine (M8.out.1.len HS.out.1).mono ?_
  rintro e w9 ⟨F9, rfl, hM, hmv⟩
  have M9 : Hid (Mine11 LT W w9 q t7 F9 ∧ Sm w9 F9 (.slice pa L pc) (Tq.keys t.l) ∧ Sm w9 F9 (.slice va G vc) ts) := ⟨hM, M8.out.2.1.moved hmv, M8.out.2.2.moved hmv⟩
  have hl7 : (t7.l.length : Int) = (L : Int) - (G : Int) := by have := HT.out.1; have := HL.out.1; omega
  rw [hl7]
  have hwl : IntKind.wrap .i64 ((L : Int) - (G : Int)) = (L : Int) - (G : Int) := by rw [IntKind.wrap_i64]; omega
  clear hM hmv hl7 M8
  go_wp2
  clear hwl
  go_loopw [11] (fun i wr => ∃ (j : Nat), j ≤ L ∧ i = .int .i64 (j : Int) ∧ Mine11 LT W wr q t7 F9 ∧ Sm wr F9 (.slice pa L pc) (Tq.keys t.l) ∧ Sm wr F9 (.slice va G vc) ts) (fun i _ => L - (intOf i).toNat)
  case atStart => exact ⟨0, Nat.zero_le _, rfl, M9.out⟩
  case round =>
  obtain ⟨j, hj, rfl, hM⟩ := hrel
  have MA : Hid (Mine11 LT W wr q t7 F9 ∧ Sm wr F9 (.slice pa L pc) (Tq.keys t.l) ∧ Sm wr F9 (.slice va G vc) ts) := hM
  clear hM M9
  by_cases hjl : j < L
  · as_aux_lemma =>
      have hlt' : (j : Int) < (L : Int) := by omega
      have hk0 : (0 : Int) ≤ (j : Int) := by omega
      have hwk : IntKind.wrap .i64 ((j : Int) + 1) = (j : Int) + 1 := by rw [IntKind.wrap_i64]; omega
      obtain ⟨p, n0, hp1, hp2, hp0, hp3⟩ := Tq.key_at HL.out.2 (j := j) (by have := HL.out.1; omega)
      have HP : Hid ((Tq.keys t.l)[j]? = some p ∧ p.size ≤ maxLen ∧ p ∈ Tq.keys t.l) := ⟨hp1, good_max hp0, List.mem_of_getElem? hp1⟩
      clear hp0 hp1 hp2 hp3
      obtain ⟨pg, po, hpa, lx⟩ := MA.out.2.1.cell HP.out.1
      subst hpa
      go_wp2_with fail
      clear lx
      refine (HS.out.2.2.1.node q t7 F9 p wr MA.out.1.ld MA.out.1.fine HP.out.2.1).mono ?_
      rintro e wb ⟨hNP, hbb⟩
      obtain ⟨m, ma, mL, mc, rfl⟩ := node_all hNP
      obtain ⟨th, hth⟩ : ∃ th, th = (Tq.find t7.l p).isSome := ⟨_, rfl⟩
      rw [← hth]
      have HTH : Hid (th = true ↔ p ∉ ts) := by
        have h := HT.out.2.2.1 p HP.out.2.2
        rw [← hth] at h
        exact h
      obtain ⟨qn, hqn⟩ : ∃ z, z = wb.heap.size := ⟨_, rfl⟩
      have MB : Hid (Mine11 LT W (wb.alloc (.cells #[.int .i64 m.made, .int .i64 m.changed, .int .i64 m.ver, .int .i64 m.kids, .int .i64 m.owner, .int .i64 m.len, .int .i64 m.cnt, .string m.data, .int .i64 m.next, .slice ma mL mc] 38)) q t7 F9 ∧ Sm (wb.alloc (.cells #[.int .i64 m.made, .int .i64 m.changed, .int .i64 m.ver, .int .i64 m.kids, .int .i64 m.owner, .int .i64 m.len, .int .i64 m.cnt, .string m.data, .int .i64 m.next, .slice ma mL mc] 38)) F9 (.slice (some ⟨pg, po, none⟩) L pc) (Tq.keys t.l) ∧ Sm (wb.alloc (.cells #[.int .i64 m.made, .int .i64 m.changed, .int .i64 m.ver, .int .i64 m.kids, .int .i64 m.owner, .int .i64 m.len, .int .i64 m.cnt, .string m.data, .int .i64 m.next, .slice ma mL mc] 38)) F9 (.slice va G vc) ts) := by
        have hba := (Below.refl _ wb).alloc (Nat.le_refl _) (.cells #[.int .i64 m.made, .int .i64 m.changed, .int .i64 m.ver, .int .i64 m.kids, .int .i64 m.owner, .int .i64 m.len, .int .i64 m.cnt, .string m.data, .int .i64 m.next, .slice ma mL mc] 38)
        exact ⟨(MA.out.1.later HS.out.1 hbb).later HS.out.1 hba, (MA.out.2.1.later hbb).later hba, (MA.out.2.2.later hbb).later hba⟩
      clear hNP hbb hth MA
      unfold kv
      go_upto_region 21 with fail
      rw [← hqn]
      clear hqn
      generalize (wb.alloc (.cells #[.int .i64 m.made, .int .i64 m.changed, .int .i64 m.ver, .int .i64 m.kids, .int .i64 m.owner, .int .i64 m.len, .int .i64 m.cnt, .string m.data, .int .i64 m.next, .slice ma mL mc] 38)) = wc at *
      go_wp2
      go_loopw [14, 15] (fun bv i wx => ∃ (j2 : Nat), j2 ≤ G ∧ i = .int .i64 (j2 : Int) ∧ bv = .bool (Kq.has (ts.take j2) p) ∧ Mine11 LT W wx q t7 F9 ∧ Sm wx F9 (.slice (some ⟨pg, po, none⟩) L pc) (Tq.keys t.l) ∧ Sm wx F9 (.slice va G vc) ts) (fun _ i _ => G - (intOf i).toNat)
      case atStart => exact ⟨0, Nat.zero_le _, rfl, by simp [Kq.has], MB.out⟩
      case round =>
        obtain ⟨j2, hj2, rfl, rfl, hM⟩ := hrel
        have MC : Hid (Mine11 LT W wr q t7 F9 ∧ Sm wr F9 (.slice (some ⟨pg, po, none⟩) L pc) (Tq.keys t.l) ∧ Sm wr F9 (.slice va G vc) ts) := hM
        clear hM MB
        obtain ⟨bb, hbb⟩ : ∃ b, b = Kq.has (ts.take j2) p := ⟨_, rfl⟩
        rw [← hbb]
        have HBB : Hid (bb = Kq.has (ts.take j2) p) := hbb
        clear hbb
        by_cases hjl2 : j2 < G
        · have hjl2' : (j2 : Int) < (G : Int) := by omega
          have hj20 : (0 : Int) ≤ (j2 : Int) := by omega
          have hwj2 : IntKind.wrap .i64 ((j2 : Int) + 1) = (j2 : Int) + 1 := by rw [IntKind.wrap_i64]; omega
          obtain ⟨z, hz⟩ : ∃ z, ts[j2]? = some z := ⟨_, List.getElem?_eq_getElem (by have := HT.out.2.2.2; omega)⟩
          obtain ⟨pg', po', hpa', lx⟩ := MC.out.2.1.cell HP.out.1
          simp only [Option.some.injEq, Addr.mk.injEq, and_true] at hpa'
          obtain ⟨e1, e2⟩ := hpa'
          subst e1 e2
          obtain ⟨vg, vo, hva, lz⟩ := MC.out.2.2.cell hz
          subst hva
          have HNX : Hid (Kq.has (ts.take (j2 + 1)) p = (bb || decide (z = p))) := by
            have e : Kq.has (ts.take (j2 + 1)) p = (bb || decide (z = p)) := by
              rw [HBB.out, List.take_add_one, hz]
              unfold Kq.has
              rw [List.any_append]
              simp
            exact e
          clear hz HBB
          cases bb with
          | true =>
            go_wp2
            go_quiet (fail)
            go_wp2
            go_roundw
            case rel => exact ⟨j2 + 1, by omega, by go_num, by rw [HNX.out]; rfl, MC.out.1.later HS.out.1 (below_drewN (Below.refl _ _) _), MC.out.2.1.later (below_drewN (Below.refl _ _) _), MC.out.2.2.later (below_drewN (Below.refl _ _) _)⟩
            case measure => simp [intOf]; omega
          | false =>
            cases he : (z.toList == p.toList) with
            | true =>
              have hzp : z = p := bytes_eq he
              have HZ : Hid (Kq.has (ts.take (j2 + 1)) p = true) := by
                have e : Kq.has (ts.take (j2 + 1)) p = true := by rw [HNX.out]; simp [hzp]
                exact e
              clear hzp
              go_wp2
              go_quiet (fail)
              go_wp2
              go_roundw
              case rel => exact ⟨j2 + 1, by omega, by go_num, by rw [HZ.out], MC.out.1.later HS.out.1 (below_drewN (Below.refl _ _) _), MC.out.2.1.later (below_drewN (Below.refl _ _) _), MC.out.2.2.later (below_drewN (Below.refl _ _) _)⟩
              case measure => simp [intOf]; omega
            | false =>
              have hzp : ¬ z = p := fun e => by rw [e] at he; simp at he
              have HZ : Hid (Kq.has (ts.take (j2 + 1)) p = false) := by
                have e : Kq.has (ts.take (j2 + 1)) p = false := by rw [HNX.out]; simp [hzp]
                exact e
              clear hzp
              go_wp2
              go_quiet (fail)
              go_wp2
              go_roundw
              case rel => exact ⟨j2 + 1, by omega, by go_num, by rw [HZ.out], MC.out.1.later HS.out.1 (below_drewN (Below.refl _ _) _), MC.out.2.1.later (below_drewN (Below.refl _ _) _), MC.out.2.2.later (below_drewN (Below.refl _ _) _)⟩
              case measure => simp [intOf]; omega
        · have hjl2' : ¬ (j2 : Int) < (G : Int) := by omega
          have HBX : Hid (bb = Kq.has ts p) := by
            have e : bb = Kq.has ts p := by rw [HBB.out, List.take_of_length_le (by have := HT.out.2.2.2; omega)]
            exact e
          have HNE : Hid (th = !bb) := by
            have e : th = !bb := by
              rw [HBX.out, Bool.eq_iff_iff, HTH.out]
              unfold Kq.has
              simp
              exact ⟨fun h x hx e => h (e ▸ hx), fun h hx => h p hx rfl⟩
            exact e
          clear HBB
          cases bb with
          | true =>
            have e : th = false := HNE.out
            subst e
            go_wp2
            go_roundw
            case rel => exact ⟨j + 1, by omega, by go_num, MC.out⟩
            case measure => simp [intOf]; omega
          | false =>
            have e : th = true := HNE.out
            subst e
            go_wp2
            go_roundw
            case rel => exact ⟨j + 1, by omega, by go_num, MC.out⟩
            case measure => simp [intOf]; omega
  have hlt' : ¬ (j : Int) < (L : Int) := by omega
  go_wp2
  go_ret
  exact ⟨rfl, MA.out.1.below⟩
end Go.Proofs.YtfcbdjjbchcpjaaGreatDoor
