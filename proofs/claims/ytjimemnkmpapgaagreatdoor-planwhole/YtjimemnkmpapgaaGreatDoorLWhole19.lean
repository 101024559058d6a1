/- PlanWhole's walk. -/
import Derived.Test.YtjimemnkmpapgaaGreatDoorLt19
import Derived.Test.YtjimemnkmpapgaaGreatDoorPlainL19
import Derived.Test.YtjimemnkmpapgaaGreatDoorWl19
namespace Go.Proofs.YtjimemnkmpapgaaGreatDoor
open Go.RowKit
def rx19 (o : O) : X := { Pn.x0 with path := o.path }

set_option maxRecDepth 100000 in
set_option maxHeartbeats 16000000 in
theorem whole_any19 (n : Int) (v : Value) (zs : List Int) (s m : Int) (u : Value) (os : List O) (W : World) (hS : Pa.Std W) (hv : Bi W v zs) (hl : zs.length ≤ maxLen) (hu : Ol W u os) (hlo : os.length ≤ maxLen) (hfo : ∀ o ∈ os, Fit o) :
    Calls Tryz.prog 5 #[.int .i64 n, v, .agg #[.int .i64 s, .int .i64 m, u]] W fun e w' => e = .returned (.bool true) ∧ Below W.heap.size W w' := by
  have HS : Hid (Pa.Std W ∧ (∀ o ∈ os, Fit o) ∧ Bi W v zs ∧ zs.length ≤ maxLen) := ⟨hS, hfo, hv, hl⟩
  obtain ⟨ao, NO, co, rfl, hNO, ho2, ho3, ho4⟩ := id hu
  have HO : Hid (Ol W (.slice ao NO co) os ∧ os.length ≤ maxLen ∧ NO = os.length) := ⟨hu, hlo, hNO⟩
  have hM63 : NO ≤ 9223372036854775807 := by unfold maxLen at hlo; omega
  obtain ⟨rb, hrb⟩ : ∃ z, z = W.heap.size := ⟨_, rfl⟩
  have HRB : Hid (Below W.heap.size W (W.alloc (.cells #[.int .i64 s, .int .i64 m, .slice ao NO co] 30)) ∧ Cb (W.alloc (.cells #[.int .i64 s, .int .i64 m, .slice ao NO co] 30)) rb [.int .i64 s, .int .i64 m, .slice ao NO co] 30) := by
    rw [hrb]
    exact ⟨(Below.refl _ W).alloc (Nat.le_refl _) _, Cb.made W [.int .i64 s, .int .i64 m, .slice ao NO co] _⟩
  clear hS hfo hl hlo hv hu hNO ho2 ho3 ho4
  go_enter Tryz.func5, Tryz.ntmps5
  go_wp2_with fail
  rw [← hrb]
  clear hrb
  generalize (W.alloc (.cells #[.int .i64 s, .int .i64 m, .slice ao NO co] 30)) = wz at *
  refine (awake_any19 wz (HS.out.1.below HRB.out.1)).mono ?_
  rintro e w0 ⟨rfl, hb0⟩
  have H0 : Hid (Below W.heap.size W w0) := HRB.out.1.trans (hb0.mono HRB.out.1.size)
  have HC0 : Hid (∀ w', Below w0.heap.size w0 w' → Cb w' rb [.int .i64 s, .int .i64 m, .slice ao NO co] 30) := fun w' hb => (HRB.out.2.below hb0).below hb
  clear hb0 HRB
  by_cases a1 : n < 1
  · go_wp2
    go_ret
    exact ⟨rfl, H0.out⟩
  by_cases a2 : 4 < n
  · go_wp2
    go_ret
    exact ⟨rfl, H0.out⟩
  have HA : Hid (1 ≤ n ∧ n ≤ 4) := ⟨by omega, by omega⟩
  obtain ⟨gr, hgr⟩ : ∃ z, z = greatB os := ⟨_, rfl⟩
  have HLC : Hid (∀ w', Below W.heap.size W w' → Calls Tryz.prog 15 #[.slice ao NO co] w' fun e w'' => e = .returned (.bool gr) ∧ Below w'.heap.size w' w'') := fun w' hb => by
    rw [hgr]
    exact long_any19 _ os w' (HO.out.1.below hb) HO.out.2.1
  clear hgr
  have r2 : w0.cell? ⟨rb, 2, none⟩ = some (.slice ao NO co) := (HC0.out w0 (Below.refl _ _)).cell 2
  go_wp2_with fail
  refine (HLC.out w0 H0.out).mono ?_
  rintro e w1 ⟨rfl, hb⟩
  have H1 : Hid (Below W.heap.size W w1 ∧ ∀ w', Below w1.heap.size w1 w' → Cb w' rb [.int .i64 s, .int .i64 m, .slice ao NO co] 30) := ⟨H0.out.trans (hb.mono H0.out.size), fun w' hb' => HC0.out w' (hb.trans (hb'.mono hb.size))⟩
  clear hb HLC HC0 H0 r2
  cases gr with
  | true =>
    go_wp2
    go_ret
    exact ⟨rfl, H1.out.1⟩
  | false =>
  go_wp2_with fail
  refine (table_any19 n v zs w1 (HS.out.1.below H1.out.1) (HS.out.2.2.1.below H1.out.1) HS.out.2.2.2 HA.out.1 HA.out.2).mono ?_
  rintro e w2 ⟨q, r, F, G, rfl, hB⟩
  obtain ⟨t, ht⟩ : ∃ t, t = Pn.tab n zs := ⟨_, rfl⟩
  rw [← ht] at hB
  have H2 : Hid (Below W.heap.size W w2 ∧ Mine16 LTb w1 w2 q 11 t F ∧ (∀ w', Below w2.heap.size w2 w' → Cb w' rb [.int .i64 s, .int .i64 m, .slice ao NO co] 30) ∧ t.shards = n) := by
    have hb := hB.one.below
    exact ⟨H1.out.1.trans (hb.mono H1.out.1.size), hB.one, fun w' hb' => H1.out.2 w' (hb.trans (hb'.mono hb.size)), by rw [ht]; exact Pn.tabK_shards _ _ _⟩
  have HWW : Hid (Below W.heap.size W w1) := H1.out.1
  clear hB ht H1
  have r0 : w2.cell? ⟨rb, 0, none⟩ = some (.int .i64 s) := (H2.out.2.2.1 w2 (Below.refl _ _)).cell 0
  have r1 : w2.cell? ⟨rb, 1, none⟩ = some (.int .i64 m) := (H2.out.2.2.1 w2 (Below.refl _ _)).cell 1
  have r2 : w2.cell? ⟨rb, 2, none⟩ = some (.slice ao NO co) := (H2.out.2.2.1 w2 (Below.refl _ _)).cell 2
  unfold dptr
  go_wp2_with fail
  refine (make_any19 q t F 11 s m _ os w2 H2.out.2.1.ld H2.out.2.1.fine (HS.out.1.below H2.out.1) (HO.out.1.below H2.out.1) HO.out.2.1 HS.out.2.1).mono ?_
  rintro e w3 ⟨hb, hno, hok⟩
  have H3 : Hid (Below W.heap.size W w3 ∧ Mine16 LTb w1 w3 q 11 t F ∧ (∀ w', Below w3.heap.size w3 w' → Cb w' rb [.int .i64 s, .int .i64 m, .slice ao NO co] 30)) := ⟨H2.out.1.trans (hb.mono H2.out.1.size), H2.out.2.1.later specs_any19 hb, fun w' hb' => H2.out.2.2.1 w' (hb.trans (hb'.mono hb.size))⟩
  clear hb r0 r1 r2
  obtain ⟨er, her⟩ : ∃ z, z = Oq.may s m os := ⟨_, rfl⟩
  have HER : Hid (er = Oq.may s m os) := her
  rw [← her] at hno hok
  clear her
  by_cases he : er = 0
  case neg =>
    rw [hno he]
    have he1 : (er != 0) = true := by simp [he]
    clear hno hok he
    unfold pv nilv
    go_wp2
    go_ret
    exact ⟨rfl, H3.out.1.alloc H3.out.1.size _⟩
  case pos =>
  subst he
  obtain ⟨pu, pa, pbv, rfl, hpv⟩ := hok rfl
  obtain ⟨P, hP⟩ : ∃ P, P = Pn.of t s m os := ⟨_, rfl⟩
  have HP : Hid (P = Pn.of t s m os ∧ Pn.Ok P ∧ P.os = os ∧ os ≠ [] ∧ os.length ≤ 16 ∧ (∀ o ∈ os, o.path.size ≤ 200) ∧ ∀ o ∈ os, Pl.goodB o.path.data.toList = true) := by
    obtain ⟨_, _, h1, h2, h3⟩ := may_sizes HER.out.symm
    exact ⟨hP, by rw [hP]; exact Pn.Ok.of H2.out.2.1.fine s m h2, by rw [hP]; rfl, fun e => (by rw [e] at h1; simp at h1), h2, fun o ho => (h3 o ho).1, Pn.may_good HER.out.symm⟩
  rw [← hP] at hpv ⊢
  obtain ⟨⟨ux, uc, rfl⟩, ⟨ax, ac, rfl⟩, ⟨bx, bc, rfl⟩⟩ := hpv.forms
  obtain ⟨N1, hN1⟩ : ∃ N, N = P.os.length := ⟨_, rfl⟩
  obtain ⟨NS, hNS⟩ : ∃ N, N = P.sh.length := ⟨_, rfl⟩
  obtain ⟨NP, hNP⟩ : ∃ N, N = P.pl.length := ⟨_, rfl⟩
  rw [← hN1, ← hNS, ← hNP] at hpv ⊢
  obtain ⟨pb, hpb⟩ : ∃ z, z = w3.heap.size := ⟨_, rfl⟩
  have H4 : Hid (Below W.heap.size W (w3.alloc (.cells #[.int .i64 P.s, .int .i64 P.n, .slice ux N1 uc, .slice ax NS ac, .slice bx NP bc] 33)) ∧ Mine16 LTb w1 (w3.alloc (.cells #[.int .i64 P.s, .int .i64 P.n, .slice ux N1 uc, .slice ax NS ac, .slice bx NP bc] 33)) q 11 t F ∧ (∀ w', Below (w3.alloc (.cells #[.int .i64 P.s, .int .i64 P.n, .slice ux N1 uc, .slice ax NS ac, .slice bx NP bc] 33)).heap.size (w3.alloc (.cells #[.int .i64 P.s, .int .i64 P.n, .slice ux N1 uc, .slice ax NS ac, .slice bx NP bc] 33)) w' → Cb w' rb [.int .i64 s, .int .i64 m, .slice ao NO co] 30) ∧ Pv (w3.alloc (.cells #[.int .i64 P.s, .int .i64 P.n, .slice ux N1 uc, .slice ax NS ac, .slice bx NP bc] 33)) P (.slice ux N1 uc) (.slice ax NS ac) (.slice bx NP bc) ∧ Cb (w3.alloc (.cells #[.int .i64 P.s, .int .i64 P.n, .slice ux N1 uc, .slice ax NS ac, .slice bx NP bc] 33)) pb [.int .i64 P.s, .int .i64 P.n, .slice ux N1 uc, .slice ax NS ac, .slice bx NP bc] 33) := by
    have h1 := (Below.refl _ w3).alloc (Nat.le_refl _) (.cells #[.int .i64 P.s, .int .i64 P.n, .slice ux N1 uc, .slice ax NS ac, .slice bx NP bc] 33)
    rw [hpb]
    exact ⟨H3.out.1.trans (h1.mono H3.out.1.size), H3.out.2.1.later specs_any19 h1, fun w' hb' => H3.out.2.2 w' (h1.trans (hb'.mono h1.size)), hpv.below h1, Cb.made w3 [.int .i64 P.s, .int .i64 P.n, .slice ux N1 uc, .slice ax NS ac, .slice bx NP bc] _⟩
  have HNN : Hid (N1 = os.length ∧ NS = P.sh.length ∧ NP = P.pl.length ∧ NS ≤ 4 ∧ NP ≤ 4) := by
    have h1 := HP.out.2.1.few
    have h2 := HP.out.2.1.len
    exact ⟨by rw [hN1, HP.out.2.2.1], hNS, hNP, by omega, by omega⟩
  have HTF : Hid (Tb.Fine 11 t ∧ t.shards = n) := ⟨H2.out.2.1.fine, H2.out.2.2.2⟩
  have HW1 : Hid (Below W.heap.size W w1) := HWW.out
  clear hno hok hpv H3 H2 hP hN1 hNS hNP
  unfold pv
  go_upto_region 9 with fail
  rw [← hpb]
  clear hpb
  generalize (w3.alloc (.cells #[.int .i64 P.s, .int .i64 P.n, .slice ux N1 uc, .slice ax NS ac, .slice bx NP bc] 33)) = w4 at *
  obtain ⟨ls, hls⟩ : ∃ l, l = P.pl.map fun l => (Pn.opsAt os l).map rx19 := ⟨_, rfl⟩
  have HLS : Hid (ls = P.pl.map fun l => (Pn.opsAt os l).map rx19) := hls
  have HSM : Hid (Pn.sumL P.pl = os.length) := (show _ = _ by rw [HP.out.1]; exact Pn.of_sum HTF.out.1 s m HP.out.2.2.2.2.2.2)
  clear hls
  go_wp2
  go_loopw [11, 12, 13] (fun lv nn i wx => ∃ (k : Nat) (us : List Value), k ≤ NS ∧ i = .int .i64 (k : Int) ∧ nn = .int .i64 ((Pn.sumL (P.pl.take k) : Nat) : Int) ∧ Wl19 w4 wx lv us (ls.take k)) (fun _ _ i _ => NS - (intOf i).toNat)
  case atStart => exact ⟨0, [], Nat.zero_le _, rfl, rfl, by simpa using Wl19.nil w4⟩
  case round =>
    obtain ⟨k, us, hk, rfl, rfl, hw⟩ := hrel
    have HW : Hid (Wl19 w4 wr u11 us (ls.take k)) := hw
    clear hw
    obtain ⟨nk, hnk⟩ : ∃ z, z = Pn.sumL (P.pl.take k) := ⟨_, rfl⟩
    have HNK : Hid (nk = Pn.sumL (P.pl.take k) ∧ nk ≤ 16) := ⟨hnk, by have := Pn.sum_le P.pl k; have := HSM.out; have := HP.out.2.2.2.2.1; omega⟩
    rw [← hnk]
    clear hnk
    have p3 : wr.cell? ⟨pb, 3, none⟩ = some (.slice ax NS ac) := (H4.out.2.2.2.2.below HW.out.bel).cell 3
    by_cases hlt : k < NS
    · have hlt' : (k : Int) < (NS : Int) := by omega
      have hk0 : (0 : Int) ≤ (k : Int) := by omega
      have hwk : IntKind.wrap .i64 ((k : Int) + 1) = (k : Int) + 1 := by rw [IntKind.wrap_i64]; have := HNN.out.2.2.2.1; omega
      obtain ⟨z, hz⟩ : ∃ z, P.sh[k]? = some z := ⟨P.sh[k]'(by have := HNN.out.2.1; omega), List.getElem?_eq_getElem _⟩
      obtain ⟨l, hl⟩ : ∃ l, P.pl[k]? = some l := ⟨P.pl[k]'(by have := HNN.out.2.1; have := HP.out.2.1.len; omega), List.getElem?_eq_getElem _⟩
      obtain ⟨gs, os', rfl, hsc⟩ := ((H4.out.2.2.2.1.below HW.out.bel).sh).at hz
      have HZC : Hid (∀ w', Below w4.heap.size w4 w' → w'.cell? ⟨gs, os' + k, none⟩ = some (.int .i64 z)) := fun w' hb => by
        have h := (H4.out.2.2.2.1.below hb).sh.on hz 0 _ rfl
        simpa [KI] using h
      have HZ : Hid (P.sh[k]? = some z ∧ P.pl[k]? = some l) := ⟨hz, hl⟩
      clear hz hl hsc
      have HOP : Hid (Pn.opsOf P z = Pn.opsAt os l ∧ l.length ≤ 16 ∧ (Pn.opsAt os l).length = l.length ∧ (∀ z ∈ l, 0 ≤ z ∧ z < (os.length : Int))) := by
        have hm := List.mem_of_getElem? HZ.out.2
        have hr := HP.out.2.1.rng l hm
        rw [HP.out.2.2.1] at hr
        exact ⟨by rw [Pn.opsOf_at HP.out.2.1 HZ.out.1 HZ.out.2, HP.out.2.2.1], HP.out.2.1.plen hm, Pn.opsAt_len hr, hr⟩
      go_upto_region 14 with fail
      clear p3
      refine wp_region_held_drew (S := fun w' => Below w4.heap.size w4 w') (by kernel_rfl) HW.out.bel.drew (fun _ => ?_)
      have H6 : Hid (Below w4.heap.size w4 wr.drew ∧ Wl19 w4 wr.drew u11 us (ls.take k)) := ⟨HW.out.bel.drew, HW.out.later (Below.refl _ wr).drew⟩
      generalize wr.drew = w6 at *
      refine' take_at (i := 0) (d := 54) (v := _) rfl rfl (by kernel_rfl) (by kernel_rfl) (by kernel_rfl) (fun _ _ _ h => h) (Or.inl ⟨by rfl, ?h0⟩) (H6.out.1) ?_
      case h0 =>
        intro w hSw
        have t := H4.out.2.2.2.2.below hSw
        have t0 := t.cell 0
        have t1 := t.cell 1
        have t2 := t.cell 2
        have t3 := t.cell 3
        have t4 := t.cell 4
        have t5 := HZC.out _ hSw
        simp only [List.getElem?_cons_zero, List.getElem?_cons_succ] at t0 t1 t2 t3 t4
        go_simp
        with_reducible rfl
      simp only [List.setIfInBounds_toArray, List.set_cons_zero, List.set_cons_succ]
      refine' take_at (i := 1) (d := 55) (v := _) rfl rfl (by kernel_rfl) (by kernel_rfl) (by kernel_rfl) (fun _ _ _ h => h) (Or.inl ⟨by rfl, ?h1⟩) (H6.out.1) ?_
      case h1 =>
        intro w hSw
        have t := H4.out.2.2.2.2.below hSw
        have t0 := t.cell 0
        have t1 := t.cell 1
        have t2 := t.cell 2
        have t3 := t.cell 3
        have t4 := t.cell 4
        have t5 := HZC.out _ hSw
        simp only [List.getElem?_cons_zero, List.getElem?_cons_succ] at t0 t1 t2 t3 t4
        go_simp
        with_reducible rfl
      simp only [List.setIfInBounds_toArray, List.set_cons_zero, List.set_cons_succ]
      refine' take_at (i := 2) (d := 56) (v := _) rfl rfl (by kernel_rfl) (by kernel_rfl) (by kernel_rfl) (fun _ _ _ h => h) (Or.inl ⟨by rfl, ?h2⟩) (H6.out.1) ?_
      case h2 =>
        intro w hSw
        have t := H4.out.2.2.2.2.below hSw
        have t0 := t.cell 0
        have t1 := t.cell 1
        have t2 := t.cell 2
        have t3 := t.cell 3
        have t4 := t.cell 4
        have t5 := HZC.out _ hSw
        simp only [List.getElem?_cons_zero, List.getElem?_cons_succ] at t0 t1 t2 t3 t4
        go_simp
        with_reducible rfl
      simp only [List.setIfInBounds_toArray, List.set_cons_zero, List.set_cons_succ]
      refine' take_at (i := 3) (d := 57) (v := _) rfl rfl (by kernel_rfl) (by kernel_rfl) (by kernel_rfl) (fun _ _ _ h => h) (Or.inl ⟨by rfl, ?h3⟩) (H6.out.1) ?_
      case h3 =>
        intro w hSw
        have t := H4.out.2.2.2.2.below hSw
        have t0 := t.cell 0
        have t1 := t.cell 1
        have t2 := t.cell 2
        have t3 := t.cell 3
        have t4 := t.cell 4
        have t5 := HZC.out _ hSw
        simp only [List.getElem?_cons_zero, List.getElem?_cons_succ] at t0 t1 t2 t3 t4
        go_simp
        with_reducible rfl
      simp only [List.setIfInBounds_toArray, List.set_cons_zero, List.set_cons_succ]
      refine' take_at (i := 4) (d := 58) (v := _) rfl rfl (by kernel_rfl) (by kernel_rfl) (by kernel_rfl) (fun _ _ _ h => h) (Or.inl ⟨by rfl, ?h4⟩) (H6.out.1) ?_
      case h4 =>
        intro w hSw
        have t := H4.out.2.2.2.2.below hSw
        have t0 := t.cell 0
        have t1 := t.cell 1
        have t2 := t.cell 2
        have t3 := t.cell 3
        have t4 := t.cell 4
        have t5 := HZC.out _ hSw
        simp only [List.getElem?_cons_zero, List.getElem?_cons_succ] at t0 t1 t2 t3 t4
        go_simp
        with_reducible rfl
      simp only [List.setIfInBounds_toArray, List.set_cons_zero, List.set_cons_succ]
      refine' take_at (i := 5) (d := 59) (v := _) rfl rfl (by kernel_rfl) (by kernel_rfl) (by kernel_rfl) (fun _ _ _ h => h) (Or.inl ⟨by rfl, ?h5⟩) (H6.out.1) ?_
      case h5 =>
        intro w hSw
        have t := H4.out.2.2.2.2.below hSw
        have t0 := t.cell 0
        have t1 := t.cell 1
        have t2 := t.cell 2
        have t3 := t.cell 3
        have t4 := t.cell 4
        have t5 := HZC.out _ hSw
        simp only [List.getElem?_cons_zero, List.getElem?_cons_succ] at t0 t1 t2 t3 t4
        go_simp
        with_reducible rfl
      simp only [List.setIfInBounds_toArray, List.set_cons_zero, List.set_cons_succ]
      refine wpAnyH_ready (rs := [6]) (by kernel_rfl) (by simp) ?_
      refine AllReadyH.cons (o := _) rfl (fun KQ hKQ => ?_) AllReadyH.nil
      go_simp
      refine (ops_any19 P _ _ _ z w6 (H4.out.2.2.2.1.below H6.out.1) HP.out.2.1).mono ?_
      rintro e w7 ⟨ov, rfl, hov, hb⟩
      rw [HOP.out.1] at hov
      obtain ⟨qo, hqo⟩ : ∃ x, x = Pn.opsAt os l := ⟨_, rfl⟩
      rw [← hqo] at hov
      obtain ⟨oa, ok, oc, rfl, hon, _⟩ := id hov
      have H7 : Hid (Below w4.heap.size w4 w7 ∧ Wl19 w4 w7 u11 us (ls.take k) ∧ Ol w7 (.slice oa ok oc) qo) := ⟨H6.out.1.trans (hb.mono H6.out.1.size), H6.out.2.later hb, hov⟩
      have HQ : Hid (qo = Pn.opsAt os l ∧ ok = qo.length ∧ ok = l.length ∧ ok ≤ 16) := ⟨hqo, hon, by rw [hon, hqo, HOP.out.2.2.1], by have h1 := HOP.out.2.1; have h2 := HOP.out.2.2.1; rw [hon, hqo]; omega⟩
      clear hb hov hqo hon H6
      refine hKQ.out _ _ H7.out.1 (fun _ => ?_)
      clear hKQ KQ
      refine' take_at (i := 7) (d := 14) (v := _) rfl rfl (by kernel_rfl) (by kernel_rfl) (by kernel_rfl) (fun _ _ _ h => h) (Or.inl ⟨by rfl, ?h7⟩) (H7.out.1) ?_
      case h7 =>
        intro w hSw
        go_simp
        with_reducible rfl
      simp only [List.setIfInBounds_toArray, List.set_cons_zero, List.set_cons_succ]
      refine wpAnyH_done (by kernel_rfl) ?_ _
      go_wp2
      go_loopw [15, 16] (fun mv i wx => ∃ j : Nat, j ≤ ok ∧ i = .int .i64 (j : Int) ∧ wx.ownsRow w7.heap.size 50 11 mv ((qo.take j).map rx19).length (KX.cs ((qo.take j).map rx19)) ∧ Below w7.heap.size w7 wx) (fun _ i _ => ok - (intOf i).toNat)
      case atStart => exact ⟨0, Nat.zero_le _, rfl, World.ownsRow_nil _ _ _ _, Below.refl _ _⟩
      case round =>
        obtain ⟨j, hj, rfl, hmr, hmb⟩ := hrel
        have HM : Hid (wr.ownsRow w7.heap.size 50 11 u15 ((qo.take j).map rx19).length (KX.cs ((qo.take j).map rx19)) ∧ Below w7.heap.size w7 wr ∧ Below w4.heap.size w4 wr) := ⟨hmr, hmb, H7.out.1.trans (hmb.mono H7.out.1.size)⟩
        clear hmr hmb
        have hj0 : (0 : Int) ≤ (j : Int) := by omega
        have hwj : IntKind.wrap .i64 ((j : Int) + 1) = (j : Int) + 1 := by rw [IntKind.wrap_i64]; have := HQ.out.2.2.2; omega
        by_cases hltj : j < ok
        · have hltj' : (j : Int) < (ok : Int) := by omega
          obtain ⟨o, ho⟩ : ∃ o, qo[j]? = some o := ⟨qo[j]'(by have := HQ.out.2.1; omega), List.getElem?_eq_getElem _⟩
          obtain ⟨go, bo, rfl, hoc⟩ := (KO.of_ol H7.out.2.2).at ho
          have HOC : Hid (∀ w', Below w7.heap.size w7 w' → w'.cell? ⟨go, bo + j * 5 + 1, none⟩ = some (.string o.path)) := fun w' hb => Below.kept hb (hoc 1 _ rfl)
          obtain ⟨rj, hrj⟩ : ∃ x, x = (qo.take j).map rx19 := ⟨_, rfl⟩
          rw [← hrj] at HM
          have HO1 : Hid (Tb.of t o.path = z ∧ o.path.size ≤ maxLen ∧ (qo.take (j + 1)).map rx19 = rj ++ [rx19 o] ∧ rj.length ≤ 16) := by
            have ho2 := ho
            rw [HQ.out.1] at ho2
            refine ⟨?_, ?_, by rw [List.take_add_one, ho, hrj, List.map_append]; rfl, by rw [hrj, List.length_map, List.length_take]; have := HQ.out.2.2.2; omega⟩
            · exact Pn.ops_shard (by rw [← HP.out.1]; exact HP.out.2.1) (by rw [← HP.out.1]; exact HZ.out.1) (by rw [← HP.out.1]; exact HZ.out.2) ho2
            · rw [Pn.opsAt_get HOP.out.2.2.2] at ho2
              cases e : l[j]? with
              | none => rw [e] at ho2; cases ho2
              | some y =>
                rw [e] at ho2
                have := HP.out.2.2.2.2.2.1 o (List.mem_of_getElem? ho2)
                unfold maxLen
                omega
          clear ho hoc hrj
          go_upto_region 19 with fail
          refine wp_region_held_drew (S := fun w' => Below w4.heap.size w4 w' ∧ Below w7.heap.size w7 w') (by kernel_rfl) ⟨HM.out.2.2.drew, HM.out.2.1.drew⟩ (fun _ => ?_)
          have H8 : Hid (Below w4.heap.size w4 wr.drew ∧ Below w7.heap.size w7 wr.drew ∧ wr.drew.ownsRow w7.heap.size 50 11 u15 rj.length (KX.cs rj)) := ⟨HM.out.2.2.drew, HM.out.2.1.drew, HM.out.1⟩
          generalize wr.drew = w8 at *
          refine' take_at (i := 0) (d := 67) (v := _) rfl rfl (by kernel_rfl) (by kernel_rfl) (by kernel_rfl) (fun _ _ _ h => h) (Or.inl ⟨by rfl, ?h0⟩) (⟨H8.out.1, H8.out.2.1⟩) ?_
          case h0 =>
            intro w hSw
            have t := H4.out.2.2.2.2.below hSw.1
            have t0 := t.cell 0
            have t1 := t.cell 1
            have t2 := t.cell 2
            have t3 := t.cell 3
            have t4 := t.cell 4
            have t5 := HZC.out _ hSw.1
            have t6 := HOC.out _ hSw.2
            simp only [List.getElem?_cons_zero, List.getElem?_cons_succ] at t0 t1 t2 t3 t4
            go_simp
            with_reducible rfl
          simp only [List.setIfInBounds_toArray, List.set_cons_zero, List.set_cons_succ]
          refine' take_at (i := 1) (d := 68) (v := _) rfl rfl (by kernel_rfl) (by kernel_rfl) (by kernel_rfl) (fun _ _ _ h => h) (Or.inl ⟨by rfl, ?h1⟩) (⟨H8.out.1, H8.out.2.1⟩) ?_
          case h1 =>
            intro w hSw
            have t := H4.out.2.2.2.2.below hSw.1
            have t0 := t.cell 0
            have t1 := t.cell 1
            have t2 := t.cell 2
            have t3 := t.cell 3
            have t4 := t.cell 4
            have t5 := HZC.out _ hSw.1
            have t6 := HOC.out _ hSw.2
            simp only [List.getElem?_cons_zero, List.getElem?_cons_succ] at t0 t1 t2 t3 t4
            go_simp
            with_reducible rfl
          simp only [List.setIfInBounds_toArray, List.set_cons_zero, List.set_cons_succ]
          refine' take_at (i := 2) (d := 69) (v := _) rfl rfl (by kernel_rfl) (by kernel_rfl) (by kernel_rfl) (fun _ _ _ h => h) (Or.inl ⟨by rfl, ?h2⟩) (⟨H8.out.1, H8.out.2.1⟩) ?_
          case h2 =>
            intro w hSw
            have t := H4.out.2.2.2.2.below hSw.1
            have t0 := t.cell 0
            have t1 := t.cell 1
            have t2 := t.cell 2
            have t3 := t.cell 3
            have t4 := t.cell 4
            have t5 := HZC.out _ hSw.1
            have t6 := HOC.out _ hSw.2
            simp only [List.getElem?_cons_zero, List.getElem?_cons_succ] at t0 t1 t2 t3 t4
            go_simp
            with_reducible rfl
          simp only [List.setIfInBounds_toArray, List.set_cons_zero, List.set_cons_succ]
          refine' take_at (i := 3) (d := 70) (v := _) rfl rfl (by kernel_rfl) (by kernel_rfl) (by kernel_rfl) (fun _ _ _ h => h) (Or.inl ⟨by rfl, ?h3⟩) (⟨H8.out.1, H8.out.2.1⟩) ?_
          case h3 =>
            intro w hSw
            have t := H4.out.2.2.2.2.below hSw.1
            have t0 := t.cell 0
            have t1 := t.cell 1
            have t2 := t.cell 2
            have t3 := t.cell 3
            have t4 := t.cell 4
            have t5 := HZC.out _ hSw.1
            have t6 := HOC.out _ hSw.2
            simp only [List.getElem?_cons_zero, List.getElem?_cons_succ] at t0 t1 t2 t3 t4
            go_simp
            with_reducible rfl
          simp only [List.setIfInBounds_toArray, List.set_cons_zero, List.set_cons_succ]
          refine' take_at (i := 4) (d := 71) (v := _) rfl rfl (by kernel_rfl) (by kernel_rfl) (by kernel_rfl) (fun _ _ _ h => h) (Or.inl ⟨by rfl, ?h4⟩) (⟨H8.out.1, H8.out.2.1⟩) ?_
          case h4 =>
            intro w hSw
            have t := H4.out.2.2.2.2.below hSw.1
            have t0 := t.cell 0
            have t1 := t.cell 1
            have t2 := t.cell 2
            have t3 := t.cell 3
            have t4 := t.cell 4
            have t5 := HZC.out _ hSw.1
            have t6 := HOC.out _ hSw.2
            simp only [List.getElem?_cons_zero, List.getElem?_cons_succ] at t0 t1 t2 t3 t4
            go_simp
            with_reducible rfl
          simp only [List.setIfInBounds_toArray, List.set_cons_zero, List.set_cons_succ]
          refine' take_at (i := 5) (d := 72) (v := _) rfl rfl (by kernel_rfl) (by kernel_rfl) (by kernel_rfl) (fun _ _ _ h => h) (Or.inl ⟨by rfl, ?h5⟩) (⟨H8.out.1, H8.out.2.1⟩) ?_
          case h5 =>
            intro w hSw
            have t := H4.out.2.2.2.2.below hSw.1
            have t0 := t.cell 0
            have t1 := t.cell 1
            have t2 := t.cell 2
            have t3 := t.cell 3
            have t4 := t.cell 4
            have t5 := HZC.out _ hSw.1
            have t6 := HOC.out _ hSw.2
            simp only [List.getElem?_cons_zero, List.getElem?_cons_succ] at t0 t1 t2 t3 t4
            go_simp
            with_reducible rfl
          simp only [List.setIfInBounds_toArray, List.set_cons_zero, List.set_cons_succ]
          refine' take_at (i := 7) (d := 74) (v := _) rfl rfl (by kernel_rfl) (by kernel_rfl) (by kernel_rfl) (fun _ _ _ h => h) (Or.inl ⟨by rfl, ?h7⟩) (⟨H8.out.1, H8.out.2.1⟩) ?_
          case h7 =>
            intro w hSw
            have t := H4.out.2.2.2.2.below hSw.1
            have t0 := t.cell 0
            have t1 := t.cell 1
            have t2 := t.cell 2
            have t3 := t.cell 3
            have t4 := t.cell 4
            have t5 := HZC.out _ hSw.1
            have t6 := HOC.out _ hSw.2
            simp only [List.getElem?_cons_zero, List.getElem?_cons_succ] at t0 t1 t2 t3 t4
            go_simp
            with_reducible rfl
          simp only [List.setIfInBounds_toArray, List.set_cons_zero, List.set_cons_succ]
          refine' take_at (i := 8) (d := 75) (v := _) rfl rfl (by kernel_rfl) (by kernel_rfl) (by kernel_rfl) (fun _ _ _ h => h) (Or.inl ⟨by rfl, ?h8⟩) (⟨H8.out.1, H8.out.2.1⟩) ?_
          case h8 =>
            intro w hSw
            have t := H4.out.2.2.2.2.below hSw.1
            have t0 := t.cell 0
            have t1 := t.cell 1
            have t2 := t.cell 2
            have t3 := t.cell 3
            have t4 := t.cell 4
            have t5 := HZC.out _ hSw.1
            have t6 := HOC.out _ hSw.2
            simp only [List.getElem?_cons_zero, List.getElem?_cons_succ] at t0 t1 t2 t3 t4
            go_simp
            with_reducible rfl
          simp only [List.setIfInBounds_toArray, List.set_cons_zero, List.set_cons_succ]
          refine' take_at (i := 9) (d := 76) (v := _) rfl rfl (by kernel_rfl) (by kernel_rfl) (by kernel_rfl) (fun _ _ _ h => h) (Or.inl ⟨by rfl, ?h9⟩) (⟨H8.out.1, H8.out.2.1⟩) ?_
          case h9 =>
            intro w hSw
            have t := H4.out.2.2.2.2.below hSw.1
            have t0 := t.cell 0
            have t1 := t.cell 1
            have t2 := t.cell 2
            have t3 := t.cell 3
            have t4 := t.cell 4
            have t5 := HZC.out _ hSw.1
            have t6 := HOC.out _ hSw.2
            simp only [List.getElem?_cons_zero, List.getElem?_cons_succ] at t0 t1 t2 t3 t4
            go_simp
            with_reducible rfl
          simp only [List.setIfInBounds_toArray, List.set_cons_zero, List.set_cons_succ]
          refine' take_at (i := 10) (d := 77) (v := _) rfl rfl (by kernel_rfl) (by kernel_rfl) (by kernel_rfl) (fun _ _ _ h => h) (Or.inl ⟨by rfl, ?h10⟩) (⟨H8.out.1, H8.out.2.1⟩) ?_
          case h10 =>
            intro w hSw
            have t := H4.out.2.2.2.2.below hSw.1
            have t0 := t.cell 0
            have t1 := t.cell 1
            have t2 := t.cell 2
            have t3 := t.cell 3
            have t4 := t.cell 4
            have t5 := HZC.out _ hSw.1
            have t6 := HOC.out _ hSw.2
            simp only [List.getElem?_cons_zero, List.getElem?_cons_succ] at t0 t1 t2 t3 t4
            go_simp
            with_reducible rfl
          simp only [List.setIfInBounds_toArray, List.set_cons_zero, List.set_cons_succ]
          refine' take_at (i := 11) (d := 78) (v := _) rfl rfl (by kernel_rfl) (by kernel_rfl) (by kernel_rfl) (fun _ _ _ h => h) (Or.inl ⟨by rfl, ?h11⟩) (⟨H8.out.1, H8.out.2.1⟩) ?_
          case h11 =>
            intro w hSw
            have t := H4.out.2.2.2.2.below hSw.1
            have t0 := t.cell 0
            have t1 := t.cell 1
            have t2 := t.cell 2
            have t3 := t.cell 3
            have t4 := t.cell 4
            have t5 := HZC.out _ hSw.1
            have t6 := HOC.out _ hSw.2
            simp only [List.getElem?_cons_zero, List.getElem?_cons_succ] at t0 t1 t2 t3 t4
            go_simp
            with_reducible rfl
          simp only [List.setIfInBounds_toArray, List.set_cons_zero, List.set_cons_succ]
          refine wpAnyH_ready (rs := [6]) (by kernel_rfl) (by simp) ?_
          refine AllReadyH.cons (o := _) rfl (fun KQ hKQ => ?_) AllReadyH.nil
          go_simp
          refine ((H4.out.2.1.later specs_any19 H8.out.1).of specs_any19 (HS.out.1.below HW1.out) o.path HO1.out.2.1 z HO1.out.1).mono ?_
          rintro e w9 ⟨rfl, _, hb⟩
          have H9 : Hid (Below w4.heap.size w4 w9 ∧ Below w7.heap.size w7 w9 ∧ w9.ownsRow w7.heap.size 50 11 u15 rj.length (KX.cs rj)) := ⟨H8.out.1.trans (hb.mono H8.out.1.size), H8.out.2.1.trans (hb.mono H8.out.2.1.size), row_stays H8.out.2.2 fun i hi => hb.block i (H8.out.2.2.lt i hi).2⟩
          clear hb H8
          refine hKQ.out _ _ ⟨H9.out.1, H9.out.2.1⟩ (fun _ => ?_)
          clear hKQ KQ
          have hzz : (z != z) = false := by simp
          refine' take_at (i := 12) (d := 79) (v := _) rfl rfl (by kernel_rfl) (by kernel_rfl) (by kernel_rfl) (fun _ _ _ h => h) (Or.inl ⟨by rfl, ?h12⟩) (⟨H9.out.1, H9.out.2.1⟩) ?_
          case h12 =>
            intro w hSw
            go_simp
            with_reducible rfl
          simp only [List.setIfInBounds_toArray, List.set_cons_zero, List.set_cons_succ]
          refine wpAnyH_done (by kernel_rfl) ?_ _
          have oc1 := HOC.out w9 H9.out.2.1
          obtain ⟨sb, hsb⟩ : ∃ z, z = w9.heap.size := ⟨_, rfl⟩
          have H10 : Hid (Below w4.heap.size w4 (w9.alloc (.cells #[.int .i64 0, .string o.path, .string ⟨#[]⟩, .slice none 0 0, .int .i64 0, .int .i64 0, .int .i64 0, .int .i64 0, .int .i64 0, .int .i64 0, .int .i64 0] 50)) ∧ Below w7.heap.size w7 (w9.alloc (.cells #[.int .i64 0, .string o.path, .string ⟨#[]⟩, .slice none 0 0, .int .i64 0, .int .i64 0, .int .i64 0, .int .i64 0, .int .i64 0, .int .i64 0, .int .i64 0] 50)) ∧ (w9.alloc (.cells #[.int .i64 0, .string o.path, .string ⟨#[]⟩, .slice none 0 0, .int .i64 0, .int .i64 0, .int .i64 0, .int .i64 0, .int .i64 0, .int .i64 0, .int .i64 0] 50)).ownsRow w7.heap.size 50 11 u15 rj.length (KX.cs rj) ∧ Cb (w9.alloc (.cells #[.int .i64 0, .string o.path, .string ⟨#[]⟩, .slice none 0 0, .int .i64 0, .int .i64 0, .int .i64 0, .int .i64 0, .int .i64 0, .int .i64 0, .int .i64 0] 50)) sb (KX.cf (rx19 o)) 50) := by
            have h1 := (Below.refl _ w9).alloc (Nat.le_refl _) (.cells #[.int .i64 0, .string o.path, .string ⟨#[]⟩, .slice none 0 0, .int .i64 0, .int .i64 0, .int .i64 0, .int .i64 0, .int .i64 0, .int .i64 0, .int .i64 0] 50)
            rw [hsb]
            exact ⟨H9.out.1.trans (h1.mono H9.out.1.size), H9.out.2.1.trans (h1.mono H9.out.2.1.size), H9.out.2.2.alloc _, Cb.made w9 (KX.cf (rx19 o)) _⟩
          go_wp2_with (at_builtin; rw [← hsb]; refine KX.ok.appL rfl _ _ rfl w7.heap.size u15 (.slice (some ⟨sb, 0, none⟩) 1 1) rj [rx19 o] (w9.alloc (.cells #[.int .i64 0, .string o.path, .string ⟨#[]⟩, .slice none 0 0, .int .i64 0, .int .i64 0, .int .i64 0, .int .i64 0, .int .i64 0, .int .i64 0, .int .i64 0] 50)) rfl rfl H10.out.2.2.1 H10.out.2.1.size (Kd.one_at H10.out.2.2.2) (KX.one _) (by have := HO1.out.2.2.2; simp; omega) ?_)
          clear oc1 hsb H9
          generalize (w9.alloc (.cells #[.int .i64 0, .string o.path, .string ⟨#[]⟩, .slice none 0 0, .int .i64 0, .int .i64 0, .int .i64 0, .int .i64 0, .int .i64 0, .int .i64 0, .int .i64 0] 50)) = w10 at *
          intro v11 w11 hr11 hb11 _ _
          have H11 : Hid (w11.ownsRow w7.heap.size 50 11 v11 ((qo.take (j + 1)).map rx19).length (KX.cs ((qo.take (j + 1)).map rx19)) ∧ Below w7.heap.size w7 w11) := by
            refine ⟨?_, H10.out.2.1.trans hb11⟩
            rw [HO1.out.2.2.1, List.length_append]
            exact hr11
          clear hr11 hb11 H10
          go_wp2
          go_roundw
          case rel => exact ⟨j + 1, by omega, by go_num, H11.out.1, H11.out.2⟩
          case measure => simp [intOf]; omega
        · have hltj' : ¬ (j : Int) < (ok : Int) := by omega
          have HMF : Hid (wr.ownsRow w4.heap.size 50 11 u15 (qo.map rx19).length (KX.cs (qo.map rx19)) ∧ Wl19 w4 wr u11 us (ls.take k)) := by
            have h := HM.out.1
            rw [List.take_of_length_le (by have := HQ.out.2.1; omega)] at h
            exact ⟨World.ownsRow.mono h H7.out.1.size, H7.out.2.1.later HM.out.2.1⟩
          have HLK : Hid (ls.take (k + 1) = ls.take k ++ [qo.map rx19] ∧ us.length ≤ 4 ∧ Pn.sumL (P.pl.take (k + 1)) = nk + ok ∧ nk + ok ≤ 16) := by
            have e1 : ls[k]? = some (qo.map rx19) := by rw [HLS.out, List.getElem?_map, HZ.out.2, HQ.out.1]; rfl
            have e2 := Pn.sum_take HZ.out.2
            have e3 := Pn.sum_le P.pl (k + 1)
            have e4 := HSM.out
            have e5 := HP.out.2.2.2.2.1
            refine ⟨by rw [List.take_add_one, e1]; rfl, ?_, by rw [e2, HNK.out.1, HQ.out.2.2.1], by rw [HNK.out.1, HQ.out.2.2.1]; omega⟩
            have h := HMF.out.2.len
            rw [List.length_take] at h
            have := HNN.out.2.2.2.1
            omega
          obtain ⟨ma, mc, rfl, _, _⟩ := row_form HMF.out.1
          obtain ⟨ML, hML⟩ : ∃ L, L = (qo.map rx19).length := ⟨_, rfl⟩
          have HML : Hid (ML = (qo.map rx19).length) := hML
          rw [← hML] at HMF ⊢
          clear hML
          have hwn : IntKind.wrap .i64 ((nk : Int) + (ok : Int)) = (nk : Int) + (ok : Int) := by rw [IntKind.wrap_i64]; have := HLK.out.2.2.2; omega
          obtain ⟨la, lc, rfl, _, _⟩ := row_form HMF.out.2.lv
          obtain ⟨LL, hLL⟩ : ∃ L, L = us.length := ⟨_, rfl⟩
          rw [← hLL] at HMF ⊢
          clear hLL
          obtain ⟨sb, hsb⟩ : ∃ z, z = wr.heap.size := ⟨_, rfl⟩
          have H10 : Hid (Cb (wr.alloc (.cells #[.slice ma ML mc] 43)) sb [.slice ma ML mc] 43 ∧ w4.heap.size ≤ (wr.alloc (.cells #[.slice ma ML mc] 43)).heap.size ∧ (wr.alloc (.cells #[.slice ma ML mc] 43)).ownsRow w4.heap.size 43 1 (.slice la LL lc) us.length (KR.cs us)) := by
            rw [hsb]
            have h1 := (Below.refl _ wr).alloc (Nat.le_refl _) (.cells #[.slice ma ML mc] 43)
            exact ⟨Cb.made wr [.slice ma ML mc] _, Nat.le_trans HMF.out.2.bel.size h1.size, HMF.out.2.lv.alloc _⟩
          go_wp2_with (at_builtin; rw [← hsb]; refine KR.ok.appL (hgd := rfl) (s := _) (x := _) (ho := rfl) w4.heap.size (.slice la LL lc) (.slice (some ⟨sb, 0, none⟩) 1 1) us [.slice ma ML mc] (wr.alloc (.cells #[.slice ma ML mc] 43)) rfl rfl H10.out.2.2 H10.out.2.1 (Kd.one_at H10.out.1) (KR.one_ rfl) (by have := HLK.out.2.1; simp; omega) ?_)
          intro v11 w11 hr11 hb11 hg11 _
          have hr11 : w11.ownsRow w4.heap.size 43 1 v11 (us ++ [Value.slice ma ML mc]).length (KR.cs (us ++ [Value.slice ma ML mc])) := by
            rw [List.length_append]
            exact hr11
          have hwl := HMF.out.2.more _ (xs := qo.map rx19) (by rw [← HML.out]; exact HMF.out.1) hr11 hb11 hg11
          rw [← HLK.out.1] at hwl
          have H11 : Hid (Wl19 w4 w11 v11 (us ++ [Value.slice ma ML mc]) (ls.take (k + 1)) ∧ ((Pn.sumL (P.pl.take (k + 1)) : Nat) : Int) = (nk : Int) + (ok : Int)) := ⟨hwl, by rw [HLK.out.2.2.1]; omega⟩
          clear hr11 hb11 hg11 H10 hwl hsb
          go_wp2
          go_roundw
          case rel => exact ⟨k + 1, us ++ [.slice ma ML mc], by omega, by go_num, by rw [H11.out.2], H11.out.1⟩
          case measure => simp [intOf]; omega
    · have hlt' : ¬ (k : Int) < (NS : Int) := by omega
      have HF : Hid (Wl19 w4 wr u11 us ls ∧ nk = os.length ∧ Pn.results P ls = some (os.map rx19)) := by
        have h1 := HW.out
        have h2 := HNK.out.1
        have h3 := HNN.out.2.2.1
        have h4 := HP.out.2.1.len
        have h5 := HNN.out.2.1
        rw [List.take_of_length_le (by rw [HLS.out, List.length_map]; omega)] at h1
        rw [List.take_of_length_le (by omega), HSM.out] at h2
        refine ⟨h1, h2, ?_⟩
        rw [HLS.out, HP.out.1]
        exact Pn.results_all HTF.out.1 s m HP.out.2.2.2.2.1 HP.out.2.2.2.2.2.2 rx19
      have p0 : wr.cell? ⟨pb, 0, none⟩ = some (.int .i64 P.s) := (H4.out.2.2.2.2.below HW.out.bel).cell 0
      have p1 : wr.cell? ⟨pb, 1, none⟩ = some (.int .i64 P.n) := (H4.out.2.2.2.2.below HW.out.bel).cell 1
      have p2 : wr.cell? ⟨pb, 2, none⟩ = some (.slice ux N1 uc) := (H4.out.2.2.2.2.below HW.out.bel).cell 2
      have p4 : wr.cell? ⟨pb, 4, none⟩ = some (.slice bx NP bc) := (H4.out.2.2.2.2.below HW.out.bel).cell 4
      go_wp2_with fail
      refine (results_any19 P _ _ _ u11 ls wr (H4.out.2.2.2.1.below HW.out.bel) HP.out.2.1 HF.out.1.rss (by have := HF.out.1.len; have := HLS.out; rw [HLS.out, List.length_map]; have := HNN.out.2.2.2.2; have := HNN.out.2.2.1; omega)).mono ?_
      rintro e w6 ⟨hres, hb⟩
      rw [HF.out.2.2] at hres
      obtain ⟨g6, rfl, hcb, _⟩ := hres
      rw [HP.out.2.2.1, ← HO.out.2.2]
      have H6 : Hid (Below w4.heap.size w4 w6 ∧ Cb w6 g6 (KX.cs (os.map rx19)) 50) := ⟨HW.out.bel.trans (hb.mono HW.out.bel.size), hcb⟩
      clear hb hcb p0 p1 p2 p3 p4
      have hnk : nk = NO := by rw [HF.out.2.1, HO.out.2.2]
      subst hnk
      have HOS : Hid (Ol W (.slice ao nk co) os ∧ nk = os.length ∧ nk ≤ 16) := ⟨HO.out.1, HO.out.2.2, HNK.out.2⟩
      have r2 : w6.cell? ⟨rb, 2, none⟩ = some (.slice ao nk co) := (H4.out.2.2.1 w6 H6.out.1).cell 2
      have hne : ((nk : Int) != (nk : Int)) = false := by simp
      go_wp2
      go_loopw [19] (fun i wx => ∃ j : Nat, j ≤ nk ∧ i = .int .i64 (j : Int) ∧ Below w6.heap.size w6 wx) (fun i _ => nk - (intOf i).toNat)
      case atStart => exact ⟨0, Nat.zero_le _, rfl, Below.refl _ _⟩
      case round =>
        obtain ⟨j, hj, rfl, hjb⟩ := hrel
        have HJ : Hid (Below w6.heap.size w6 wr ∧ Below w4.heap.size w4 wr) := ⟨hjb, H6.out.1.trans (hjb.mono H6.out.1.size)⟩
        clear hjb r2
        have hj0 : (0 : Int) ≤ (j : Int) := by omega
        have hwj : IntKind.wrap .i64 ((j : Int) + 1) = (j : Int) + 1 := by rw [IntKind.wrap_i64]; have := HOS.out.2.2; omega
        by_cases hltj : j < nk
        · have hltj' : (j : Int) < (nk : Int) := by omega
          obtain ⟨o, ho⟩ : ∃ o, os[j]? = some o := ⟨os[j]'(by have := HOS.out.2.1; omega), List.getElem?_eq_getElem _⟩
          have hbW : Below W.heap.size W wr := H4.out.1.trans (HJ.out.2.mono H4.out.1.size)
          obtain ⟨go, bo, rfl, hoc⟩ := ((KO.of_ol HOS.out.1).below hbW).at ho
          have c1 : wr.cell? ⟨go, bo + j * 5 + 1, none⟩ = some (.string o.path) := hoc 1 _ rfl
          have c2 : wr.cell? ⟨g6, j * 11 + 1, none⟩ = some (.string o.path) := by
            rw [(H6.out.2.below HJ.out.1).cell]
            exact KX.ok.cs_cell (os.map rx19) j (rx19 o) 1 _ (by rw [List.getElem?_map, ho]; rfl) rfl
          have r2 : wr.cell? ⟨rb, 2, none⟩ = some (.slice (some ⟨go, bo, none⟩) nk co) := (H4.out.2.2.1 wr HJ.out.2).cell 2
          have hpp : (o.path.toList != o.path.toList) = false := by simp
          clear ho hoc hbW
          go_upto_region 30 with fail
          go_quiet (fail)
          have HJ2 : Hid (Below w6.heap.size w6 (wr.drewN nq)) := below_drewN HJ.out.1 _
          clear c1 c2 r2
          generalize wr.drewN nq = w7 at *
          go_wp2
          go_roundw
          case rel => exact ⟨j + 1, by omega, by go_num, HJ2.out⟩
          case measure => simp [intOf]; omega
        · have hltj' : ¬ (j : Int) < (nk : Int) := by omega
          have HE : Hid (Below W.heap.size W wr) := H4.out.1.trans (HJ.out.2.mono H4.out.1.size)
          go_wp2
          go_ret
          exact ⟨rfl, HE.out⟩
end Go.Proofs.YtjimemnkmpapgaaGreatDoor
