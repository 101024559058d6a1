/- PlanOne's walk. -/
import Derived.Test.YtjimemnkmpapgaaGreatDoorLt19
import Derived.Test.YtjimemnkmpapgaaGreatDoorPlainL19
import Derived.Test.YtjimemnkmpapgaaGreatDoorWTops5
namespace Go.Proofs.YtjimemnkmpapgaaGreatDoor
open Go.RowKit
/-- Its first name says whose a path is. -/
theorem Pn.tops_same {t : Tb.St} {os : List O} {ts : List (List UInt8)} (h : Ts.Tops os ts) (h1 : ts.length ≤ 1) (hg : ∀ o ∈ os, Pl.goodB o.path.data.toList = true) {o0 : O} (h0 : o0 ∈ os) : ∀ o ∈ os, Tb.of t o.path = Tb.of t o0.path := by
  intro o ho
  have key : ∀ o ∈ os, Pl.top o.path.data.toList ∈ ts := fun o ho => by
    refine (h.2 _).2 ⟨?_, o, ho, rfl⟩
    have := (Tb.name_len (Tb.top_name (hg o ho)).1).1
    intro e
    rw [e] at this
    simp at this
  have a := key o ho
  have b := key o0 h0
  match ts, h1, a, b with
  | [x], _, a, b =>
    simp only [List.mem_cons, List.not_mem_nil, or_false] at a b
    exact Tb.of_top (hg o ho) (hg o0 h0) (a.trans b.symm)
theorem Pn.few_same {t : Tb.St} {m : Int} (ht : Tb.Fine m t) (h1 : t.shards ≤ 1) {os : List O} (hg : ∀ o ∈ os, Pl.goodB o.path.data.toList = true) {o0 : O} (h0 : o0 ∈ os) : ∀ o ∈ os, Tb.of t o.path = Tb.of t o0.path := fun o ho => by
  have a := Tb.of_good ht (hg o ho)
  have b := Tb.of_good ht (hg o0 h0)
  omega

set_option maxRecDepth 100000 in
set_option maxHeartbeats 16000000 in
theorem one_any19 (n : Int) (v : Value) (zs : List Int) (s m : Int) (u : Value) (os : List O) (W : World) (hS : Pa.Std W) (hv : Bi W v zs) (hl : zs.length ≤ maxLen) (hu : Ol W u os) (hlo : os.length ≤ maxLen) (hfo : ∀ o ∈ os, Fit o) :
    Calls Tryz.prog 7 #[.int .i64 n, v, .agg #[.int .i64 s, .int .i64 m, u]] W fun e w' => e = .returned (.bool true) ∧ Below W.heap.size W w' := by
  have HS : Hid (Pa.Std W ∧ (∀ o ∈ os, Fit o) ∧ Bi W v zs ∧ zs.length ≤ maxLen) := ⟨hS, hfo, hv, hl⟩
  obtain ⟨ao, NO, co, rfl, hNO, ho2, ho3, ho4⟩ := id hu
  have HO : Hid (Ol W (.slice ao NO co) os ∧ os.length ≤ maxLen ∧ NO = os.length) := ⟨hu, hlo, hNO⟩
  have hM63 : NO ≤ 9223372036854775807 := by unfold maxLen at hlo; omega
  obtain ⟨rb, hrb⟩ : ∃ z, z = W.heap.size := ⟨_, rfl⟩
  have HRB : Hid (Below W.heap.size W (W.alloc (.cells #[.int .i64 s, .int .i64 m, .slice ao NO co] 30)) ∧ Cb (W.alloc (.cells #[.int .i64 s, .int .i64 m, .slice ao NO co] 30)) rb [.int .i64 s, .int .i64 m, .slice ao NO co] 30) := by
    rw [hrb]
    exact ⟨(Below.refl _ W).alloc (Nat.le_refl _) _, Cb.made W [.int .i64 s, .int .i64 m, .slice ao NO co] _⟩
  clear hS hfo hl hlo hv hu hNO ho2 ho3 ho4
  go_enter Tryz.func7, Tryz.ntmps7
  go_wp2_with fail
  rw [← hrb]
  clear hrb
  generalize (W.alloc (.cells #[.int .i64 s, .int .i64 m, .slice ao NO co] 30)) = wz at *
  refine (awake_any19 wz (HS.out.1.below HRB.out.1)).mono ?_
  rintro e w0 ⟨rfl, hb0⟩
  have H0 : Hid (Below W.heap.size W w0) := HRB.out.1.trans (hb0.mono HRB.out.1.size)
  have HC0 : Hid (∀ w', Below w0.heap.size w0 w' → Cb w' rb [.int .i64 s, .int .i64 m, .slice ao NO co] 30) := fun w' hb => (HRB.out.2.below hb0).below hb
  clear hb0 HRB
  by_cases a1 : n < 1
  · go_wp2
    go_ret
    exact ⟨rfl, H0.out⟩
  by_cases a2 : 4 < n
  · go_wp2
    go_ret
    exact ⟨rfl, H0.out⟩
  have HA : Hid (1 ≤ n ∧ n ≤ 4) := ⟨by omega, by omega⟩
  obtain ⟨gr, hgr⟩ : ∃ z, z = greatB os := ⟨_, rfl⟩
  have HLC : Hid (∀ w', Below W.heap.size W w' → Calls Tryz.prog 15 #[.slice ao NO co] w' fun e w'' => e = .returned (.bool gr) ∧ Below w'.heap.size w' w'') := fun w' hb => by
    rw [hgr]
    exact long_any19 _ os w' (HO.out.1.below hb) HO.out.2.1
  clear hgr
  have r2 : w0.cell? ⟨rb, 2, none⟩ = some (.slice ao NO co) := (HC0.out w0 (Below.refl _ _)).cell 2
  go_wp2_with fail
  refine (HLC.out w0 H0.out).mono ?_
  rintro e w1 ⟨rfl, hb⟩
  have H1 : Hid (Below W.heap.size W w1 ∧ ∀ w', Below w1.heap.size w1 w' → Cb w' rb [.int .i64 s, .int .i64 m, .slice ao NO co] 30) := ⟨H0.out.trans (hb.mono H0.out.size), fun w' hb' => HC0.out w' (hb.trans (hb'.mono hb.size))⟩
  clear hb HLC HC0 H0 r2
  cases gr with
  | true =>
    go_wp2
    go_ret
    exact ⟨rfl, H1.out.1⟩
  | false =>
  go_wp2_with fail
  refine (table_any19 n v zs w1 (HS.out.1.below H1.out.1) (HS.out.2.2.1.below H1.out.1) HS.out.2.2.2 HA.out.1 HA.out.2).mono ?_
  rintro e w2 ⟨q, r, F, G, rfl, hB⟩
  obtain ⟨t, ht⟩ : ∃ t, t = Pn.tab n zs := ⟨_, rfl⟩
  rw [← ht] at hB
  have H2 : Hid (Below W.heap.size W w2 ∧ Mine16 LTb w1 w2 q 11 t F ∧ (∀ w', Below w2.heap.size w2 w' → Cb w' rb [.int .i64 s, .int .i64 m, .slice ao NO co] 30) ∧ t.shards = n) := by
    have hb := hB.one.below
    exact ⟨H1.out.1.trans (hb.mono H1.out.1.size), hB.one, fun w' hb' => H1.out.2 w' (hb.trans (hb'.mono hb.size)), by rw [ht]; exact Pn.tabK_shards _ _ _⟩
  have HWW : Hid (Below W.heap.size W w1) := H1.out.1
  clear hB ht H1
  have r0 : w2.cell? ⟨rb, 0, none⟩ = some (.int .i64 s) := (H2.out.2.2.1 w2 (Below.refl _ _)).cell 0
  have r1 : w2.cell? ⟨rb, 1, none⟩ = some (.int .i64 m) := (H2.out.2.2.1 w2 (Below.refl _ _)).cell 1
  have r2 : w2.cell? ⟨rb, 2, none⟩ = some (.slice ao NO co) := (H2.out.2.2.1 w2 (Below.refl _ _)).cell 2
  unfold dptr
  go_wp2_with fail
  refine (make_any19 q t F 11 s m _ os w2 H2.out.2.1.ld H2.out.2.1.fine (HS.out.1.below H2.out.1) (HO.out.1.below H2.out.1) HO.out.2.1 HS.out.2.1).mono ?_
  rintro e w3 ⟨hb, hno, hok⟩
  have H3 : Hid (Below W.heap.size W w3 ∧ Mine16 LTb w1 w3 q 11 t F ∧ (∀ w', Below w3.heap.size w3 w' → Cb w' rb [.int .i64 s, .int .i64 m, .slice ao NO co] 30)) := ⟨H2.out.1.trans (hb.mono H2.out.1.size), H2.out.2.1.later specs_any19 hb, fun w' hb' => H2.out.2.2.1 w' (hb.trans (hb'.mono hb.size))⟩
  clear hb r0 r1 r2
  obtain ⟨er, her⟩ : ∃ z, z = Oq.may s m os := ⟨_, rfl⟩
  have HER : Hid (er = Oq.may s m os) := her
  rw [← her] at hno hok
  clear her
  by_cases he : er = 0
  case neg =>
    rw [hno he]
    have he1 : (er != 0) = true := by simp [he]
    clear hno hok he
    unfold pv nilv
    go_wp2
    go_ret
    exact ⟨rfl, H3.out.1.alloc H3.out.1.size _⟩
  case pos =>
  subst he
  obtain ⟨pu, pa, pbv, rfl, hpv⟩ := hok rfl
  obtain ⟨P, hP⟩ : ∃ P, P = Pn.of t s m os := ⟨_, rfl⟩
  have HP : Hid (P = Pn.of t s m os ∧ Pn.Ok P ∧ P.os = os ∧ os ≠ [] ∧ os.length ≤ 16 ∧ (∀ o ∈ os, o.path.size ≤ 200) ∧ ∀ o ∈ os, Pl.goodB o.path.data.toList = true) := by
    obtain ⟨_, _, h1, h2, h3⟩ := may_sizes HER.out.symm
    exact ⟨hP, by rw [hP]; exact Pn.Ok.of H2.out.2.1.fine s m h2, by rw [hP]; rfl, fun e => (by rw [e] at h1; simp at h1), h2, fun o ho => (h3 o ho).1, Pn.may_good HER.out.symm⟩
  rw [← hP] at hpv ⊢
  obtain ⟨⟨ux, uc, rfl⟩, ⟨ax, ac, rfl⟩, ⟨bx, bc, rfl⟩⟩ := hpv.forms
  obtain ⟨N1, hN1⟩ : ∃ N, N = P.os.length := ⟨_, rfl⟩
  obtain ⟨NS, hNS⟩ : ∃ N, N = P.sh.length := ⟨_, rfl⟩
  obtain ⟨NP, hNP⟩ : ∃ N, N = P.pl.length := ⟨_, rfl⟩
  rw [← hN1, ← hNS, ← hNP] at hpv ⊢
  obtain ⟨pb, hpb⟩ : ∃ z, z = w3.heap.size := ⟨_, rfl⟩
  have H4 : Hid (Below W.heap.size W (w3.alloc (.cells #[.int .i64 P.s, .int .i64 P.n, .slice ux N1 uc, .slice ax NS ac, .slice bx NP bc] 33)) ∧ Mine16 LTb w1 (w3.alloc (.cells #[.int .i64 P.s, .int .i64 P.n, .slice ux N1 uc, .slice ax NS ac, .slice bx NP bc] 33)) q 11 t F ∧ (∀ w', Below (w3.alloc (.cells #[.int .i64 P.s, .int .i64 P.n, .slice ux N1 uc, .slice ax NS ac, .slice bx NP bc] 33)).heap.size (w3.alloc (.cells #[.int .i64 P.s, .int .i64 P.n, .slice ux N1 uc, .slice ax NS ac, .slice bx NP bc] 33)) w' → Cb w' rb [.int .i64 s, .int .i64 m, .slice ao NO co] 30) ∧ Pv (w3.alloc (.cells #[.int .i64 P.s, .int .i64 P.n, .slice ux N1 uc, .slice ax NS ac, .slice bx NP bc] 33)) P (.slice ux N1 uc) (.slice ax NS ac) (.slice bx NP bc) ∧ Cb (w3.alloc (.cells #[.int .i64 P.s, .int .i64 P.n, .slice ux N1 uc, .slice ax NS ac, .slice bx NP bc] 33)) pb [.int .i64 P.s, .int .i64 P.n, .slice ux N1 uc, .slice ax NS ac, .slice bx NP bc] 33) := by
    have h1 := (Below.refl _ w3).alloc (Nat.le_refl _) (.cells #[.int .i64 P.s, .int .i64 P.n, .slice ux N1 uc, .slice ax NS ac, .slice bx NP bc] 33)
    rw [hpb]
    exact ⟨H3.out.1.trans (h1.mono H3.out.1.size), H3.out.2.1.later specs_any19 h1, fun w' hb' => H3.out.2.2 w' (h1.trans (hb'.mono h1.size)), hpv.below h1, Cb.made w3 [.int .i64 P.s, .int .i64 P.n, .slice ux N1 uc, .slice ax NS ac, .slice bx NP bc] _⟩
  have HNN : Hid (N1 = os.length ∧ NS = P.sh.length ∧ NP = P.pl.length ∧ NS ≤ 4 ∧ NP ≤ 4) := by
    have h1 := HP.out.2.1.few
    have h2 := HP.out.2.1.len
    exact ⟨by rw [hN1, HP.out.2.2.1], hNS, hNP, by omega, by omega⟩
  have HTF : Hid (Tb.Fine 11 t ∧ t.shards = n) := ⟨H2.out.2.1.fine, H2.out.2.2.2⟩
  have HW1 : Hid (Below W.heap.size W w1) := HWW.out
  clear hno hok hpv H3 H2 hP hN1 hNS hNP
  unfold pv
  obtain ⟨o0, ho0⟩ : ∃ o0, os[0]? = some o0 := ⟨os[0]'(List.length_pos_iff.2 HP.out.2.2.2.1), List.getElem?_eq_getElem _⟩
  have HO0 : Hid (os[0]? = some o0) := ho0
  obtain ⟨go, bo, rfl, hoc⟩ := (KO.of_ol HO.out.1).at ho0
  have HOC : Hid (∀ w', Below W.heap.size W w' → w'.cell? ⟨go, bo + 1, none⟩ = some (.string o0.path)) := fun w' hb => Below.kept hb (by have h := hoc 1 _ rfl; simpa using h)
  clear ho0 hoc
  have HTS : Hid (∀ w', Pa.Std w' → Ol w' (.slice (some ⟨go, bo, none⟩) NO co) os → Calls Tryz.prog 27 #[.slice (some ⟨go, bo, none⟩) NO co] w' (TopsPost os w')) := fun w' h1 h2 => tops_spec _ os w' h1 h2 (by have := HP.out.2.2.2.2.1; omega) HS.out.2.1
  have r2 : (w3.alloc (.cells #[.int .i64 P.s, .int .i64 P.n, .slice ux N1 uc, .slice ax NS ac, .slice bx NP bc] 33)).cell? ⟨rb, 2, none⟩ = some (.slice (some ⟨go, bo, none⟩) NO co) := (H4.out.2.2.1 _ (Below.refl _ _)).cell 2
  go_upto_region 7 with fail
  rw [← hpb]
  clear hpb
  generalize (w3.alloc (.cells #[.int .i64 P.s, .int .i64 P.n, .slice ux N1 uc, .slice ax NS ac, .slice bx NP bc] 33)) = w4 at *
  go_wp2_with fail
  refine (HTS.out w4 (HS.out.1.below H4.out.1) (HO.out.1.below H4.out.1)).mono ?_
  rintro e w5 ⟨tv, ts, rfl, hts, htp, hb⟩
  obtain ⟨ta, tn, tc, rfl, htn, _⟩ := hts
  have H5 : Hid (Below W.heap.size W w5 ∧ Mine16 LTb w1 w5 q 11 t F ∧ (∀ w', Below w5.heap.size w5 w' → Cb w' rb [.int .i64 s, .int .i64 m, .slice (some ⟨go, bo, none⟩) NO co] 30) ∧ Pv w5 P (.slice ux N1 uc) (.slice ax NS ac) (.slice bx NP bc) ∧ Cb w5 pb [.int .i64 P.s, .int .i64 P.n, .slice ux N1 uc, .slice ax NS ac, .slice bx NP bc] 33) := ⟨H4.out.1.trans (hb.mono H4.out.1.size), H4.out.2.1.later specs_any19 hb, fun w' hb' => H4.out.2.2.1 w' (hb.trans (hb'.mono hb.size)), H4.out.2.2.2.1.below hb, H4.out.2.2.2.2.below hb⟩
  have HT : Hid (tn = ts.length ∧ Ts.Tops os (ts.map (·.data.toList))) := ⟨htn, htp⟩
  have htn16 : tn ≤ 9223372036854775807 := by
    have h1 := Ts.tops_len htp
    rw [List.length_map] at h1
    have := HP.out.2.2.2.2.1
    omega
  clear htn htp hb r2 H4 HTS
  by_cases hq : (1 : Int) < (tn : Int) ∧ 1 < n
  · have h1 := hq.1
    have h2 := hq.2
    clear hq
    go_wp2
    go_ret
    exact ⟨rfl, H5.out.1⟩
  · have hall : ∀ o ∈ os, Tb.of t o.path = Tb.of t o0.path := by
      by_cases h1 : 1 < n
      · have h2 : ¬ (1 : Int) < (tn : Int) := fun e => hq ⟨e, h1⟩
        exact Pn.tops_same HT.out.2 (by rw [List.length_map]; have := HT.out.1; omega) HP.out.2.2.2.2.2.2 (List.mem_of_getElem? HO0.out)
      · exact Pn.few_same HTF.out.1 (by have := HTF.out.2; omega) HP.out.2.2.2.2.2.2 (List.mem_of_getElem? HO0.out)
    have hone := Pn.one_shard HTF.out.1 s m HP.out.2.2.2.2.1 HP.out.2.2.2.2.2.2 HO0.out hall
    obtain ⟨z0, hz0⟩ : ∃ z, z = Tb.of t o0.path := ⟨_, rfl⟩
    have HONE : Hid (P.sh = [z0] ∧ NS = 1 ∧ (Pn.opsOf P z0).length = os.length ∧ z0 = Tb.of t o0.path) := by
      obtain ⟨e1, l, e2, e3⟩ := hone
      rw [← HP.out.1, ← hz0] at e1
      rw [← HP.out.1] at e2
      refine ⟨e1, by rw [HNN.out.2.1, e1]; rfl, ?_, hz0⟩
      rw [Pn.opsOf_at HP.out.2.1 (j := 0) (z := z0) (l := l) (by rw [e1]; rfl) (by rw [e2]; rfl), Pn.opsAt_len (HP.out.2.1.rng l (by rw [e2]; exact List.mem_cons_self)), e3]
    have hNS1 : ((NS : Int) == 1) = true := by rw [HONE.out.2.1]; rfl
    have hd1 : decide (P.sh.length = 1) = true := by rw [HONE.out.1]; rfl
    clear hall hone hz0
    have p0 : w5.cell? ⟨pb, 0, none⟩ = some (.int .i64 P.s) := H5.out.2.2.2.2.cell 0
    have p1 : w5.cell? ⟨pb, 1, none⟩ = some (.int .i64 P.n) := H5.out.2.2.2.2.cell 1
    have p2 : w5.cell? ⟨pb, 2, none⟩ = some (.slice ux N1 uc) := H5.out.2.2.2.2.cell 2
    have p3 : w5.cell? ⟨pb, 3, none⟩ = some (.slice ax NS ac) := H5.out.2.2.2.2.cell 3
    have p4 : w5.cell? ⟨pb, 4, none⟩ = some (.slice bx NP bc) := H5.out.2.2.2.2.cell 4
    have HF0 : Hid (Pn.first P = z0) := (show _ = _ by unfold Pn.first; rw [HONE.out.1]; rfl)
    have hNO0 : 0 < NO := by have := HO.out.2.2; have := List.length_pos_iff.2 HP.out.2.2.2.1; omega
    have HP5 : Hid (o0.path.size ≤ maxLen) := (show _ ≤ _ by have := HP.out.2.2.2.2.2.1 o0 (List.mem_of_getElem? HO0.out); unfold maxLen; omega)
    clear p0 p1 p2 p3 p4
    by_cases hn1 : (1 : Int) < (tn : Int)
    · have hn2 : ¬ 1 < n := fun e => hq ⟨hn1, e⟩
      clear hq
      go_upto_region 9 with fail
      refine wp_region_held_drew (S := fun w' => Below w5.heap.size w5 w') (by kernel_rfl) (Below.refl _ w5).drew (fun _ => ?_)
      have H6 : Hid (Below w5.heap.size w5 w5.drew) := (Below.refl _ w5).drew
      generalize w5.drew = w6 at *
      refine' take_at (i := 0) (d := 49) (v := _) rfl rfl (by kernel_rfl) (by kernel_rfl) (by kernel_rfl) (fun _ _ _ h => h) (Or.inl ⟨by rfl, ?h0⟩) (H6.out) ?_
      case h0 =>
        intro w hSw
        have t := H5.out.2.2.2.2.below hSw
        have t0 := t.cell 0
        have t1 := t.cell 1
        have t2 := t.cell 2
        have t3 := t.cell 3
        have t4 := t.cell 4
        have t5 := (H5.out.2.2.1 _ hSw).cell 2
        have t6 := HOC.out _ (H5.out.1.trans (hSw.mono H5.out.1.size))
        simp only [List.getElem?_cons_zero, List.getElem?_cons_succ] at t0 t1 t2 t3 t4 t5
        go_simp
        with_reducible rfl
      simp only [List.setIfInBounds_toArray, List.set_cons_zero, List.set_cons_succ]
      refine wpAnyH_ready (rs := [1]) (by kernel_rfl) (by simp) ?_
      refine AllReadyH.cons (o := _) rfl (fun KQ hKQ => ?_) AllReadyH.nil
      go_simp
      refine (local_any19 P _ _ _ w6 (H5.out.2.2.2.1.below H6.out)).mono ?_
      rintro e w7 ⟨rfl, hb⟩
      rw [hd1]
      have H7 : Hid (Below w5.heap.size w5 w7) := H6.out.trans (hb.mono H6.out.size)
      clear hb H6
      refine hKQ.out _ _ H7.out (fun _ => ?_)
      clear hKQ KQ
      refine' take_at (i := 2) (d := 51) (v := _) rfl rfl (by kernel_rfl) (by kernel_rfl) (by kernel_rfl) (fun _ _ _ h => h) (Or.inl ⟨by rfl, ?h2⟩) (H7.out) ?_
      case h2 =>
        intro w hSw
        have t := H5.out.2.2.2.2.below hSw
        have t0 := t.cell 0
        have t1 := t.cell 1
        have t2 := t.cell 2
        have t3 := t.cell 3
        have t4 := t.cell 4
        have t5 := (H5.out.2.2.1 _ hSw).cell 2
        have t6 := HOC.out _ (H5.out.1.trans (hSw.mono H5.out.1.size))
        simp only [List.getElem?_cons_zero, List.getElem?_cons_succ] at t0 t1 t2 t3 t4 t5
        go_simp
        with_reducible rfl
      simp only [List.setIfInBounds_toArray, List.set_cons_zero, List.set_cons_succ]
      refine' take_at (i := 3) (d := 52) (v := _) rfl rfl (by kernel_rfl) (by kernel_rfl) (by kernel_rfl) (fun _ _ _ h => h) (Or.inl ⟨by rfl, ?h3⟩) (H7.out) ?_
      case h3 =>
        intro w hSw
        have t := H5.out.2.2.2.2.below hSw
        have t0 := t.cell 0
        have t1 := t.cell 1
        have t2 := t.cell 2
        have t3 := t.cell 3
        have t4 := t.cell 4
        have t5 := (H5.out.2.2.1 _ hSw).cell 2
        have t6 := HOC.out _ (H5.out.1.trans (hSw.mono H5.out.1.size))
        simp only [List.getElem?_cons_zero, List.getElem?_cons_succ] at t0 t1 t2 t3 t4 t5
        go_simp
        with_reducible rfl
      simp only [List.setIfInBounds_toArray, List.set_cons_zero, List.set_cons_succ]
      refine' take_at (i := 4) (d := 53) (v := _) rfl rfl (by kernel_rfl) (by kernel_rfl) (by kernel_rfl) (fun _ _ _ h => h) (Or.inl ⟨by rfl, ?h4⟩) (H7.out) ?_
      case h4 =>
        intro w hSw
        have t := H5.out.2.2.2.2.below hSw
        have t0 := t.cell 0
        have t1 := t.cell 1
        have t2 := t.cell 2
        have t3 := t.cell 3
        have t4 := t.cell 4
        have t5 := (H5.out.2.2.1 _ hSw).cell 2
        have t6 := HOC.out _ (H5.out.1.trans (hSw.mono H5.out.1.size))
        simp only [List.getElem?_cons_zero, List.getElem?_cons_succ] at t0 t1 t2 t3 t4 t5
        go_simp
        with_reducible rfl
      simp only [List.setIfInBounds_toArray, List.set_cons_zero, List.set_cons_succ]
      refine' take_at (i := 5) (d := 54) (v := _) rfl rfl (by kernel_rfl) (by kernel_rfl) (by kernel_rfl) (fun _ _ _ h => h) (Or.inl ⟨by rfl, ?h5⟩) (H7.out) ?_
      case h5 =>
        intro w hSw
        have t := H5.out.2.2.2.2.below hSw
        have t0 := t.cell 0
        have t1 := t.cell 1
        have t2 := t.cell 2
        have t3 := t.cell 3
        have t4 := t.cell 4
        have t5 := (H5.out.2.2.1 _ hSw).cell 2
        have t6 := HOC.out _ (H5.out.1.trans (hSw.mono H5.out.1.size))
        simp only [List.getElem?_cons_zero, List.getElem?_cons_succ] at t0 t1 t2 t3 t4 t5
        go_simp
        with_reducible rfl
      simp only [List.setIfInBounds_toArray, List.set_cons_zero, List.set_cons_succ]
      refine' take_at (i := 6) (d := 55) (v := _) rfl rfl (by kernel_rfl) (by kernel_rfl) (by kernel_rfl) (fun _ _ _ h => h) (Or.inl ⟨by rfl, ?h6⟩) (H7.out) ?_
      case h6 =>
        intro w hSw
        have t := H5.out.2.2.2.2.below hSw
        have t0 := t.cell 0
        have t1 := t.cell 1
        have t2 := t.cell 2
        have t3 := t.cell 3
        have t4 := t.cell 4
        have t5 := (H5.out.2.2.1 _ hSw).cell 2
        have t6 := HOC.out _ (H5.out.1.trans (hSw.mono H5.out.1.size))
        simp only [List.getElem?_cons_zero, List.getElem?_cons_succ] at t0 t1 t2 t3 t4 t5
        go_simp
        with_reducible rfl
      simp only [List.setIfInBounds_toArray, List.set_cons_zero, List.set_cons_succ]
      refine' take_at (i := 7) (d := 56) (v := _) rfl rfl (by kernel_rfl) (by kernel_rfl) (by kernel_rfl) (fun _ _ _ h => h) (Or.inl ⟨by rfl, ?h7⟩) (H7.out) ?_
      case h7 =>
        intro w hSw
        have t := H5.out.2.2.2.2.below hSw
        have t0 := t.cell 0
        have t1 := t.cell 1
        have t2 := t.cell 2
        have t3 := t.cell 3
        have t4 := t.cell 4
        have t5 := (H5.out.2.2.1 _ hSw).cell 2
        have t6 := HOC.out _ (H5.out.1.trans (hSw.mono H5.out.1.size))
        simp only [List.getElem?_cons_zero, List.getElem?_cons_succ] at t0 t1 t2 t3 t4 t5
        go_simp
        with_reducible rfl
      simp only [List.setIfInBounds_toArray, List.set_cons_zero, List.set_cons_succ]
      refine' take_at (i := 8) (d := 57) (v := _) rfl rfl (by kernel_rfl) (by kernel_rfl) (by kernel_rfl) (fun _ _ _ h => h) (Or.inl ⟨by rfl, ?h8⟩) (H7.out) ?_
      case h8 =>
        intro w hSw
        have t := H5.out.2.2.2.2.below hSw
        have t0 := t.cell 0
        have t1 := t.cell 1
        have t2 := t.cell 2
        have t3 := t.cell 3
        have t4 := t.cell 4
        have t5 := (H5.out.2.2.1 _ hSw).cell 2
        have t6 := HOC.out _ (H5.out.1.trans (hSw.mono H5.out.1.size))
        simp only [List.getElem?_cons_zero, List.getElem?_cons_succ] at t0 t1 t2 t3 t4 t5
        go_simp
        with_reducible rfl
      simp only [List.setIfInBounds_toArray, List.set_cons_zero, List.set_cons_succ]
      refine' take_at (i := 9) (d := 58) (v := _) rfl rfl (by kernel_rfl) (by kernel_rfl) (by kernel_rfl) (fun _ _ _ h => h) (Or.inl ⟨by rfl, ?h9⟩) (H7.out) ?_
      case h9 =>
        intro w hSw
        have t := H5.out.2.2.2.2.below hSw
        have t0 := t.cell 0
        have t1 := t.cell 1
        have t2 := t.cell 2
        have t3 := t.cell 3
        have t4 := t.cell 4
        have t5 := (H5.out.2.2.1 _ hSw).cell 2
        have t6 := HOC.out _ (H5.out.1.trans (hSw.mono H5.out.1.size))
        simp only [List.getElem?_cons_zero, List.getElem?_cons_succ] at t0 t1 t2 t3 t4 t5
        go_simp
        with_reducible rfl
      simp only [List.setIfInBounds_toArray, List.set_cons_zero, List.set_cons_succ]
      refine' take_at (i := 11) (d := 60) (v := _) rfl rfl (by kernel_rfl) (by kernel_rfl) (by kernel_rfl) (fun _ _ _ h => h) (Or.inl ⟨by rfl, ?h11⟩) (H7.out) ?_
      case h11 =>
        intro w hSw
        have t := H5.out.2.2.2.2.below hSw
        have t0 := t.cell 0
        have t1 := t.cell 1
        have t2 := t.cell 2
        have t3 := t.cell 3
        have t4 := t.cell 4
        have t5 := (H5.out.2.2.1 _ hSw).cell 2
        have t6 := HOC.out _ (H5.out.1.trans (hSw.mono H5.out.1.size))
        simp only [List.getElem?_cons_zero, List.getElem?_cons_succ] at t0 t1 t2 t3 t4 t5
        go_simp
        with_reducible rfl
      simp only [List.setIfInBounds_toArray, List.set_cons_zero, List.set_cons_succ]
      refine' take_at (i := 12) (d := 61) (v := _) rfl rfl (by kernel_rfl) (by kernel_rfl) (by kernel_rfl) (fun _ _ _ h => h) (Or.inl ⟨by rfl, ?h12⟩) (H7.out) ?_
      case h12 =>
        intro w hSw
        have t := H5.out.2.2.2.2.below hSw
        have t0 := t.cell 0
        have t1 := t.cell 1
        have t2 := t.cell 2
        have t3 := t.cell 3
        have t4 := t.cell 4
        have t5 := (H5.out.2.2.1 _ hSw).cell 2
        have t6 := HOC.out _ (H5.out.1.trans (hSw.mono H5.out.1.size))
        simp only [List.getElem?_cons_zero, List.getElem?_cons_succ] at t0 t1 t2 t3 t4 t5
        go_simp
        with_reducible rfl
      simp only [List.setIfInBounds_toArray, List.set_cons_zero, List.set_cons_succ]
      refine' take_at (i := 13) (d := 62) (v := _) rfl rfl (by kernel_rfl) (by kernel_rfl) (by kernel_rfl) (fun _ _ _ h => h) (Or.inl ⟨by rfl, ?h13⟩) (H7.out) ?_
      case h13 =>
        intro w hSw
        have t := H5.out.2.2.2.2.below hSw
        have t0 := t.cell 0
        have t1 := t.cell 1
        have t2 := t.cell 2
        have t3 := t.cell 3
        have t4 := t.cell 4
        have t5 := (H5.out.2.2.1 _ hSw).cell 2
        have t6 := HOC.out _ (H5.out.1.trans (hSw.mono H5.out.1.size))
        simp only [List.getElem?_cons_zero, List.getElem?_cons_succ] at t0 t1 t2 t3 t4 t5
        go_simp
        with_reducible rfl
      simp only [List.setIfInBounds_toArray, List.set_cons_zero, List.set_cons_succ]
      refine' take_at (i := 14) (d := 63) (v := _) rfl rfl (by kernel_rfl) (by kernel_rfl) (by kernel_rfl) (fun _ _ _ h => h) (Or.inl ⟨by rfl, ?h14⟩) (H7.out) ?_
      case h14 =>
        intro w hSw
        have t := H5.out.2.2.2.2.below hSw
        have t0 := t.cell 0
        have t1 := t.cell 1
        have t2 := t.cell 2
        have t3 := t.cell 3
        have t4 := t.cell 4
        have t5 := (H5.out.2.2.1 _ hSw).cell 2
        have t6 := HOC.out _ (H5.out.1.trans (hSw.mono H5.out.1.size))
        simp only [List.getElem?_cons_zero, List.getElem?_cons_succ] at t0 t1 t2 t3 t4 t5
        go_simp
        with_reducible rfl
      simp only [List.setIfInBounds_toArray, List.set_cons_zero, List.set_cons_succ]
      refine' take_at (i := 15) (d := 64) (v := _) rfl rfl (by kernel_rfl) (by kernel_rfl) (by kernel_rfl) (fun _ _ _ h => h) (Or.inl ⟨by rfl, ?h15⟩) (H7.out) ?_
      case h15 =>
        intro w hSw
        have t := H5.out.2.2.2.2.below hSw
        have t0 := t.cell 0
        have t1 := t.cell 1
        have t2 := t.cell 2
        have t3 := t.cell 3
        have t4 := t.cell 4
        have t5 := (H5.out.2.2.1 _ hSw).cell 2
        have t6 := HOC.out _ (H5.out.1.trans (hSw.mono H5.out.1.size))
        simp only [List.getElem?_cons_zero, List.getElem?_cons_succ] at t0 t1 t2 t3 t4 t5
        go_simp
        with_reducible rfl
      simp only [List.setIfInBounds_toArray, List.set_cons_zero, List.set_cons_succ]
      refine' take_at (i := 16) (d := 65) (v := _) rfl rfl (by kernel_rfl) (by kernel_rfl) (by kernel_rfl) (fun _ _ _ h => h) (Or.inl ⟨by rfl, ?h16⟩) (H7.out) ?_
      case h16 =>
        intro w hSw
        have t := H5.out.2.2.2.2.below hSw
        have t0 := t.cell 0
        have t1 := t.cell 1
        have t2 := t.cell 2
        have t3 := t.cell 3
        have t4 := t.cell 4
        have t5 := (H5.out.2.2.1 _ hSw).cell 2
        have t6 := HOC.out _ (H5.out.1.trans (hSw.mono H5.out.1.size))
        simp only [List.getElem?_cons_zero, List.getElem?_cons_succ] at t0 t1 t2 t3 t4 t5
        go_simp
        with_reducible rfl
      simp only [List.setIfInBounds_toArray, List.set_cons_zero, List.set_cons_succ]
      refine wpAnyH_ready (rs := [10]) (by kernel_rfl) (by simp) ?_
      refine AllReadyH.cons (o := _) rfl (fun KQ hKQ => ?_) AllReadyH.nil
      go_simp
      refine (first_any19 P _ _ _ w7 (H5.out.2.2.2.1.below H7.out)).mono ?_
      rintro e w8 ⟨rfl, hb⟩
      rw [HF0.out]
      have H8 : Hid (Below w5.heap.size w5 w8) := H7.out.trans (hb.mono H7.out.size)
      clear hb H7
      refine hKQ.out _ _ H8.out (fun _ => ?_)
      clear hKQ KQ
      refine wpAnyH_ready (rs := [17]) (by kernel_rfl) (by simp) ?_
      refine AllReadyH.cons (o := _) rfl (fun KQ hKQ => ?_) AllReadyH.nil
      go_simp
      refine ((H5.out.2.1.later specs_any19 H8.out).of specs_any19 (HS.out.1.below HW1.out) o0.path (HP5.out) z0 HONE.out.2.2.2.symm).mono ?_
      rintro e w9 ⟨rfl, _, hb⟩
      have H9 : Hid (Below w5.heap.size w5 w9) := H8.out.trans (hb.mono H8.out.size)
      clear hb H8
      refine hKQ.out _ _ H9.out (fun _ => ?_)
      clear hKQ KQ
      refine' take_at (i := 18) (d := 67) (v := _) rfl rfl (by kernel_rfl) (by kernel_rfl) (by kernel_rfl) (fun _ _ _ h => h) (Or.inl ⟨by rfl, ?h18⟩) (H9.out) ?_
      case h18 =>
        intro w hSw
        have t := H5.out.2.2.2.2.below hSw
        have t0 := t.cell 0
        have t1 := t.cell 1
        have t2 := t.cell 2
        have t3 := t.cell 3
        have t4 := t.cell 4
        have t5 := (H5.out.2.2.1 _ hSw).cell 2
        have t6 := HOC.out _ (H5.out.1.trans (hSw.mono H5.out.1.size))
        simp only [List.getElem?_cons_zero, List.getElem?_cons_succ] at t0 t1 t2 t3 t4 t5
        go_simp
        with_reducible rfl
      simp only [List.setIfInBounds_toArray, List.set_cons_zero, List.set_cons_succ]
      refine' take_at (i := 19) (d := 68) (v := _) rfl rfl (by kernel_rfl) (by kernel_rfl) (by kernel_rfl) (fun _ _ _ h => h) (Or.inl ⟨by rfl, ?h19⟩) (H9.out) ?_
      case h19 =>
        intro w hSw
        have t := H5.out.2.2.2.2.below hSw
        have t0 := t.cell 0
        have t1 := t.cell 1
        have t2 := t.cell 2
        have t3 := t.cell 3
        have t4 := t.cell 4
        have t5 := (H5.out.2.2.1 _ hSw).cell 2
        have t6 := HOC.out _ (H5.out.1.trans (hSw.mono H5.out.1.size))
        simp only [List.getElem?_cons_zero, List.getElem?_cons_succ] at t0 t1 t2 t3 t4 t5
        go_simp
        with_reducible rfl
      simp only [List.setIfInBounds_toArray, List.set_cons_zero, List.set_cons_succ]
      refine' take_at (i := 20) (d := 69) (v := _) rfl rfl (by kernel_rfl) (by kernel_rfl) (by kernel_rfl) (fun _ _ _ h => h) (Or.inl ⟨by rfl, ?h20⟩) (H9.out) ?_
      case h20 =>
        intro w hSw
        have t := H5.out.2.2.2.2.below hSw
        have t0 := t.cell 0
        have t1 := t.cell 1
        have t2 := t.cell 2
        have t3 := t.cell 3
        have t4 := t.cell 4
        have t5 := (H5.out.2.2.1 _ hSw).cell 2
        have t6 := HOC.out _ (H5.out.1.trans (hSw.mono H5.out.1.size))
        simp only [List.getElem?_cons_zero, List.getElem?_cons_succ] at t0 t1 t2 t3 t4 t5
        go_simp
        with_reducible rfl
      simp only [List.setIfInBounds_toArray, List.set_cons_zero, List.set_cons_succ]
      refine' take_at (i := 21) (d := 70) (v := _) rfl rfl (by kernel_rfl) (by kernel_rfl) (by kernel_rfl) (fun _ _ _ h => h) (Or.inl ⟨by rfl, ?h21⟩) (H9.out) ?_
      case h21 =>
        intro w hSw
        have t := H5.out.2.2.2.2.below hSw
        have t0 := t.cell 0
        have t1 := t.cell 1
        have t2 := t.cell 2
        have t3 := t.cell 3
        have t4 := t.cell 4
        have t5 := (H5.out.2.2.1 _ hSw).cell 2
        have t6 := HOC.out _ (H5.out.1.trans (hSw.mono H5.out.1.size))
        simp only [List.getElem?_cons_zero, List.getElem?_cons_succ] at t0 t1 t2 t3 t4 t5
        go_simp
        with_reducible rfl
      simp only [List.setIfInBounds_toArray, List.set_cons_zero, List.set_cons_succ]
      refine' take_at (i := 22) (d := 71) (v := _) rfl rfl (by kernel_rfl) (by kernel_rfl) (by kernel_rfl) (fun _ _ _ h => h) (Or.inl ⟨by rfl, ?h22⟩) (H9.out) ?_
      case h22 =>
        intro w hSw
        have t := H5.out.2.2.2.2.below hSw
        have t0 := t.cell 0
        have t1 := t.cell 1
        have t2 := t.cell 2
        have t3 := t.cell 3
        have t4 := t.cell 4
        have t5 := (H5.out.2.2.1 _ hSw).cell 2
        have t6 := HOC.out _ (H5.out.1.trans (hSw.mono H5.out.1.size))
        simp only [List.getElem?_cons_zero, List.getElem?_cons_succ] at t0 t1 t2 t3 t4 t5
        go_simp
        with_reducible rfl
      simp only [List.setIfInBounds_toArray, List.set_cons_zero, List.set_cons_succ]
      refine' take_at (i := 26) (d := 75) (v := _) rfl rfl (by kernel_rfl) (by kernel_rfl) (by kernel_rfl) (fun _ _ _ h => h) (Or.inl ⟨by rfl, ?h26⟩) (H9.out) ?_
      case h26 =>
        intro w hSw
        have t := H5.out.2.2.2.2.below hSw
        have t0 := t.cell 0
        have t1 := t.cell 1
        have t2 := t.cell 2
        have t3 := t.cell 3
        have t4 := t.cell 4
        have t5 := (H5.out.2.2.1 _ hSw).cell 2
        have t6 := HOC.out _ (H5.out.1.trans (hSw.mono H5.out.1.size))
        simp only [List.getElem?_cons_zero, List.getElem?_cons_succ] at t0 t1 t2 t3 t4 t5
        go_simp
        with_reducible rfl
      simp only [List.setIfInBounds_toArray, List.set_cons_zero, List.set_cons_succ]
      refine' take_at (i := 27) (d := 76) (v := _) rfl rfl (by kernel_rfl) (by kernel_rfl) (by kernel_rfl) (fun _ _ _ h => h) (Or.inl ⟨by rfl, ?h27⟩) (H9.out) ?_
      case h27 =>
        intro w hSw
        have t := H5.out.2.2.2.2.below hSw
        have t0 := t.cell 0
        have t1 := t.cell 1
        have t2 := t.cell 2
        have t3 := t.cell 3
        have t4 := t.cell 4
        have t5 := (H5.out.2.2.1 _ hSw).cell 2
        have t6 := HOC.out _ (H5.out.1.trans (hSw.mono H5.out.1.size))
        simp only [List.getElem?_cons_zero, List.getElem?_cons_succ] at t0 t1 t2 t3 t4 t5
        go_simp
        with_reducible rfl
      simp only [List.setIfInBounds_toArray, List.set_cons_zero, List.set_cons_succ]
      refine' take_at (i := 28) (d := 77) (v := _) rfl rfl (by kernel_rfl) (by kernel_rfl) (by kernel_rfl) (fun _ _ _ h => h) (Or.inl ⟨by rfl, ?h28⟩) (H9.out) ?_
      case h28 =>
        intro w hSw
        have t := H5.out.2.2.2.2.below hSw
        have t0 := t.cell 0
        have t1 := t.cell 1
        have t2 := t.cell 2
        have t3 := t.cell 3
        have t4 := t.cell 4
        have t5 := (H5.out.2.2.1 _ hSw).cell 2
        have t6 := HOC.out _ (H5.out.1.trans (hSw.mono H5.out.1.size))
        simp only [List.getElem?_cons_zero, List.getElem?_cons_succ] at t0 t1 t2 t3 t4 t5
        go_simp
        with_reducible rfl
      simp only [List.setIfInBounds_toArray, List.set_cons_zero, List.set_cons_succ]
      refine wpAnyH_ready (rs := [23]) (by kernel_rfl) (by simp) ?_
      refine AllReadyH.cons (o := _) rfl (fun KQ hKQ => ?_) AllReadyH.nil
      go_simp
      refine (first_any19 P _ _ _ w9 (H5.out.2.2.2.1.below H9.out)).mono ?_
      rintro e w10 ⟨rfl, hb⟩
      rw [HF0.out]
      have H10 : Hid (Below w5.heap.size w5 w10) := H9.out.trans (hb.mono H9.out.size)
      clear hb H9
      refine hKQ.out _ _ H10.out (fun _ => ?_)
      clear hKQ KQ
      refine wpAnyH_ready (rs := [24]) (by kernel_rfl) (by simp) ?_
      refine AllReadyH.cons (o := _) rfl (fun KQ hKQ => ?_) AllReadyH.nil
      go_simp
      refine (ops_any19 P _ _ _ z0 w10 (H5.out.2.2.2.1.below H10.out) HP.out.2.1).mono ?_
      rintro e w11 ⟨ov, rfl, hov, hb⟩
      obtain ⟨oa, on, oc, rfl, hon, _⟩ := hov
      obtain rfl : on = NO := by rw [hon, HO.out.2.2]; exact HONE.out.2.2.1
      have H11 : Hid (Below w5.heap.size w5 w11) := H10.out.trans (hb.mono H10.out.size)
      clear hb hon H10
      refine hKQ.out _ _ H11.out (fun _ => ?_)
      clear hKQ KQ
      refine' take_at (i := 25) (d := 74) (v := _) rfl rfl (by kernel_rfl) (by kernel_rfl) (by kernel_rfl) (fun _ _ _ h => h) (Or.inl ⟨by rfl, ?h25⟩) (H11.out) ?_
      case h25 =>
        intro w hSw
        go_simp
        with_reducible rfl
      simp only [List.setIfInBounds_toArray, List.set_cons_zero, List.set_cons_succ]
      refine' take_at (i := 29) (d := 78) (v := _) rfl rfl (by kernel_rfl) (by kernel_rfl) (by kernel_rfl) (fun _ _ _ h => h) (Or.inl ⟨by rfl, ?h29⟩) (H11.out) ?_
      case h29 =>
        intro w hSw
        go_simp
        with_reducible rfl
      simp only [List.setIfInBounds_toArray, List.set_cons_zero, List.set_cons_succ]
      refine' take_at (i := 30) (d := 79) (v := _) rfl rfl (by kernel_rfl) (by kernel_rfl) (by kernel_rfl) (fun _ _ _ h => h) (Or.inl ⟨by rfl, ?h30⟩) (H11.out) ?_
      case h30 =>
        intro w hSw
        go_simp
        with_reducible rfl
      simp only [List.setIfInBounds_toArray, List.set_cons_zero, List.set_cons_succ]
      refine' take_at (i := 31) (d := 6) (v := _) rfl rfl (by kernel_rfl) (by kernel_rfl) (by kernel_rfl) (fun _ _ _ h => h) (Or.inl ⟨by rfl, ?h31⟩) (H11.out) ?_
      case h31 =>
        intro w hSw
        go_simp
        with_reducible rfl
      simp only [List.setIfInBounds_toArray, List.set_cons_zero, List.set_cons_succ]
      refine wpAnyH_done (by kernel_rfl) ?_ _
      go_wp2
      go_ret
      exact ⟨rfl, H5.out.1.trans (H11.out.mono H5.out.1.size)⟩
    · clear hq
      go_upto_region 9 with fail
      refine wp_region_held_drew (S := fun w' => Below w5.heap.size w5 w') (by kernel_rfl) (Below.refl _ w5).drew (fun _ => ?_)
      have H6 : Hid (Below w5.heap.size w5 w5.drew) := (Below.refl _ w5).drew
      generalize w5.drew = w6 at *
      refine' take_at (i := 0) (d := 49) (v := _) rfl rfl (by kernel_rfl) (by kernel_rfl) (by kernel_rfl) (fun _ _ _ h => h) (Or.inl ⟨by rfl, ?h0⟩) (H6.out) ?_
      case h0 =>
        intro w hSw
        have t := H5.out.2.2.2.2.below hSw
        have t0 := t.cell 0
        have t1 := t.cell 1
        have t2 := t.cell 2
        have t3 := t.cell 3
        have t4 := t.cell 4
        have t5 := (H5.out.2.2.1 _ hSw).cell 2
        have t6 := HOC.out _ (H5.out.1.trans (hSw.mono H5.out.1.size))
        simp only [List.getElem?_cons_zero, List.getElem?_cons_succ] at t0 t1 t2 t3 t4 t5
        go_simp
        with_reducible rfl
      simp only [List.setIfInBounds_toArray, List.set_cons_zero, List.set_cons_succ]
      refine wpAnyH_ready (rs := [1]) (by kernel_rfl) (by simp) ?_
      refine AllReadyH.cons (o := _) rfl (fun KQ hKQ => ?_) AllReadyH.nil
      go_simp
      refine (local_any19 P _ _ _ w6 (H5.out.2.2.2.1.below H6.out)).mono ?_
      rintro e w7 ⟨rfl, hb⟩
      rw [hd1]
      have H7 : Hid (Below w5.heap.size w5 w7) := H6.out.trans (hb.mono H6.out.size)
      clear hb H6
      refine hKQ.out _ _ H7.out (fun _ => ?_)
      clear hKQ KQ
      refine' take_at (i := 2) (d := 51) (v := _) rfl rfl (by kernel_rfl) (by kernel_rfl) (by kernel_rfl) (fun _ _ _ h => h) (Or.inl ⟨by rfl, ?h2⟩) (H7.out) ?_
      case h2 =>
        intro w hSw
        have t := H5.out.2.2.2.2.below hSw
        have t0 := t.cell 0
        have t1 := t.cell 1
        have t2 := t.cell 2
        have t3 := t.cell 3
        have t4 := t.cell 4
        have t5 := (H5.out.2.2.1 _ hSw).cell 2
        have t6 := HOC.out _ (H5.out.1.trans (hSw.mono H5.out.1.size))
        simp only [List.getElem?_cons_zero, List.getElem?_cons_succ] at t0 t1 t2 t3 t4 t5
        go_simp
        with_reducible rfl
      simp only [List.setIfInBounds_toArray, List.set_cons_zero, List.set_cons_succ]
      refine' take_at (i := 3) (d := 52) (v := _) rfl rfl (by kernel_rfl) (by kernel_rfl) (by kernel_rfl) (fun _ _ _ h => h) (Or.inl ⟨by rfl, ?h3⟩) (H7.out) ?_
      case h3 =>
        intro w hSw
        have t := H5.out.2.2.2.2.below hSw
        have t0 := t.cell 0
        have t1 := t.cell 1
        have t2 := t.cell 2
        have t3 := t.cell 3
        have t4 := t.cell 4
        have t5 := (H5.out.2.2.1 _ hSw).cell 2
        have t6 := HOC.out _ (H5.out.1.trans (hSw.mono H5.out.1.size))
        simp only [List.getElem?_cons_zero, List.getElem?_cons_succ] at t0 t1 t2 t3 t4 t5
        go_simp
        with_reducible rfl
      simp only [List.setIfInBounds_toArray, List.set_cons_zero, List.set_cons_succ]
      refine' take_at (i := 4) (d := 53) (v := _) rfl rfl (by kernel_rfl) (by kernel_rfl) (by kernel_rfl) (fun _ _ _ h => h) (Or.inl ⟨by rfl, ?h4⟩) (H7.out) ?_
      case h4 =>
        intro w hSw
        have t := H5.out.2.2.2.2.below hSw
        have t0 := t.cell 0
        have t1 := t.cell 1
        have t2 := t.cell 2
        have t3 := t.cell 3
        have t4 := t.cell 4
        have t5 := (H5.out.2.2.1 _ hSw).cell 2
        have t6 := HOC.out _ (H5.out.1.trans (hSw.mono H5.out.1.size))
        simp only [List.getElem?_cons_zero, List.getElem?_cons_succ] at t0 t1 t2 t3 t4 t5
        go_simp
        with_reducible rfl
      simp only [List.setIfInBounds_toArray, List.set_cons_zero, List.set_cons_succ]
      refine' take_at (i := 5) (d := 54) (v := _) rfl rfl (by kernel_rfl) (by kernel_rfl) (by kernel_rfl) (fun _ _ _ h => h) (Or.inl ⟨by rfl, ?h5⟩) (H7.out) ?_
      case h5 =>
        intro w hSw
        have t := H5.out.2.2.2.2.below hSw
        have t0 := t.cell 0
        have t1 := t.cell 1
        have t2 := t.cell 2
        have t3 := t.cell 3
        have t4 := t.cell 4
        have t5 := (H5.out.2.2.1 _ hSw).cell 2
        have t6 := HOC.out _ (H5.out.1.trans (hSw.mono H5.out.1.size))
        simp only [List.getElem?_cons_zero, List.getElem?_cons_succ] at t0 t1 t2 t3 t4 t5
        go_simp
        with_reducible rfl
      simp only [List.setIfInBounds_toArray, List.set_cons_zero, List.set_cons_succ]
      refine' take_at (i := 6) (d := 55) (v := _) rfl rfl (by kernel_rfl) (by kernel_rfl) (by kernel_rfl) (fun _ _ _ h => h) (Or.inl ⟨by rfl, ?h6⟩) (H7.out) ?_
      case h6 =>
        intro w hSw
        have t := H5.out.2.2.2.2.below hSw
        have t0 := t.cell 0
        have t1 := t.cell 1
        have t2 := t.cell 2
        have t3 := t.cell 3
        have t4 := t.cell 4
        have t5 := (H5.out.2.2.1 _ hSw).cell 2
        have t6 := HOC.out _ (H5.out.1.trans (hSw.mono H5.out.1.size))
        simp only [List.getElem?_cons_zero, List.getElem?_cons_succ] at t0 t1 t2 t3 t4 t5
        go_simp
        with_reducible rfl
      simp only [List.setIfInBounds_toArray, List.set_cons_zero, List.set_cons_succ]
      refine' take_at (i := 7) (d := 56) (v := _) rfl rfl (by kernel_rfl) (by kernel_rfl) (by kernel_rfl) (fun _ _ _ h => h) (Or.inl ⟨by rfl, ?h7⟩) (H7.out) ?_
      case h7 =>
        intro w hSw
        have t := H5.out.2.2.2.2.below hSw
        have t0 := t.cell 0
        have t1 := t.cell 1
        have t2 := t.cell 2
        have t3 := t.cell 3
        have t4 := t.cell 4
        have t5 := (H5.out.2.2.1 _ hSw).cell 2
        have t6 := HOC.out _ (H5.out.1.trans (hSw.mono H5.out.1.size))
        simp only [List.getElem?_cons_zero, List.getElem?_cons_succ] at t0 t1 t2 t3 t4 t5
        go_simp
        with_reducible rfl
      simp only [List.setIfInBounds_toArray, List.set_cons_zero, List.set_cons_succ]
      refine' take_at (i := 8) (d := 57) (v := _) rfl rfl (by kernel_rfl) (by kernel_rfl) (by kernel_rfl) (fun _ _ _ h => h) (Or.inl ⟨by rfl, ?h8⟩) (H7.out) ?_
      case h8 =>
        intro w hSw
        have t := H5.out.2.2.2.2.below hSw
        have t0 := t.cell 0
        have t1 := t.cell 1
        have t2 := t.cell 2
        have t3 := t.cell 3
        have t4 := t.cell 4
        have t5 := (H5.out.2.2.1 _ hSw).cell 2
        have t6 := HOC.out _ (H5.out.1.trans (hSw.mono H5.out.1.size))
        simp only [List.getElem?_cons_zero, List.getElem?_cons_succ] at t0 t1 t2 t3 t4 t5
        go_simp
        with_reducible rfl
      simp only [List.setIfInBounds_toArray, List.set_cons_zero, List.set_cons_succ]
      refine' take_at (i := 9) (d := 58) (v := _) rfl rfl (by kernel_rfl) (by kernel_rfl) (by kernel_rfl) (fun _ _ _ h => h) (Or.inl ⟨by rfl, ?h9⟩) (H7.out) ?_
      case h9 =>
        intro w hSw
        have t := H5.out.2.2.2.2.below hSw
        have t0 := t.cell 0
        have t1 := t.cell 1
        have t2 := t.cell 2
        have t3 := t.cell 3
        have t4 := t.cell 4
        have t5 := (H5.out.2.2.1 _ hSw).cell 2
        have t6 := HOC.out _ (H5.out.1.trans (hSw.mono H5.out.1.size))
        simp only [List.getElem?_cons_zero, List.getElem?_cons_succ] at t0 t1 t2 t3 t4 t5
        go_simp
        with_reducible rfl
      simp only [List.setIfInBounds_toArray, List.set_cons_zero, List.set_cons_succ]
      refine' take_at (i := 11) (d := 60) (v := _) rfl rfl (by kernel_rfl) (by kernel_rfl) (by kernel_rfl) (fun _ _ _ h => h) (Or.inl ⟨by rfl, ?h11⟩) (H7.out) ?_
      case h11 =>
        intro w hSw
        have t := H5.out.2.2.2.2.below hSw
        have t0 := t.cell 0
        have t1 := t.cell 1
        have t2 := t.cell 2
        have t3 := t.cell 3
        have t4 := t.cell 4
        have t5 := (H5.out.2.2.1 _ hSw).cell 2
        have t6 := HOC.out _ (H5.out.1.trans (hSw.mono H5.out.1.size))
        simp only [List.getElem?_cons_zero, List.getElem?_cons_succ] at t0 t1 t2 t3 t4 t5
        go_simp
        with_reducible rfl
      simp only [List.setIfInBounds_toArray, List.set_cons_zero, List.set_cons_succ]
      refine' take_at (i := 12) (d := 61) (v := _) rfl rfl (by kernel_rfl) (by kernel_rfl) (by kernel_rfl) (fun _ _ _ h => h) (Or.inl ⟨by rfl, ?h12⟩) (H7.out) ?_
      case h12 =>
        intro w hSw
        have t := H5.out.2.2.2.2.below hSw
        have t0 := t.cell 0
        have t1 := t.cell 1
        have t2 := t.cell 2
        have t3 := t.cell 3
        have t4 := t.cell 4
        have t5 := (H5.out.2.2.1 _ hSw).cell 2
        have t6 := HOC.out _ (H5.out.1.trans (hSw.mono H5.out.1.size))
        simp only [List.getElem?_cons_zero, List.getElem?_cons_succ] at t0 t1 t2 t3 t4 t5
        go_simp
        with_reducible rfl
      simp only [List.setIfInBounds_toArray, List.set_cons_zero, List.set_cons_succ]
      refine' take_at (i := 13) (d := 62) (v := _) rfl rfl (by kernel_rfl) (by kernel_rfl) (by kernel_rfl) (fun _ _ _ h => h) (Or.inl ⟨by rfl, ?h13⟩) (H7.out) ?_
      case h13 =>
        intro w hSw
        have t := H5.out.2.2.2.2.below hSw
        have t0 := t.cell 0
        have t1 := t.cell 1
        have t2 := t.cell 2
        have t3 := t.cell 3
        have t4 := t.cell 4
        have t5 := (H5.out.2.2.1 _ hSw).cell 2
        have t6 := HOC.out _ (H5.out.1.trans (hSw.mono H5.out.1.size))
        simp only [List.getElem?_cons_zero, List.getElem?_cons_succ] at t0 t1 t2 t3 t4 t5
        go_simp
        with_reducible rfl
      simp only [List.setIfInBounds_toArray, List.set_cons_zero, List.set_cons_succ]
      refine' take_at (i := 14) (d := 63) (v := _) rfl rfl (by kernel_rfl) (by kernel_rfl) (by kernel_rfl) (fun _ _ _ h => h) (Or.inl ⟨by rfl, ?h14⟩) (H7.out) ?_
      case h14 =>
        intro w hSw
        have t := H5.out.2.2.2.2.below hSw
        have t0 := t.cell 0
        have t1 := t.cell 1
        have t2 := t.cell 2
        have t3 := t.cell 3
        have t4 := t.cell 4
        have t5 := (H5.out.2.2.1 _ hSw).cell 2
        have t6 := HOC.out _ (H5.out.1.trans (hSw.mono H5.out.1.size))
        simp only [List.getElem?_cons_zero, List.getElem?_cons_succ] at t0 t1 t2 t3 t4 t5
        go_simp
        with_reducible rfl
      simp only [List.setIfInBounds_toArray, List.set_cons_zero, List.set_cons_succ]
      refine' take_at (i := 15) (d := 64) (v := _) rfl rfl (by kernel_rfl) (by kernel_rfl) (by kernel_rfl) (fun _ _ _ h => h) (Or.inl ⟨by rfl, ?h15⟩) (H7.out) ?_
      case h15 =>
        intro w hSw
        have t := H5.out.2.2.2.2.below hSw
        have t0 := t.cell 0
        have t1 := t.cell 1
        have t2 := t.cell 2
        have t3 := t.cell 3
        have t4 := t.cell 4
        have t5 := (H5.out.2.2.1 _ hSw).cell 2
        have t6 := HOC.out _ (H5.out.1.trans (hSw.mono H5.out.1.size))
        simp only [List.getElem?_cons_zero, List.getElem?_cons_succ] at t0 t1 t2 t3 t4 t5
        go_simp
        with_reducible rfl
      simp only [List.setIfInBounds_toArray, List.set_cons_zero, List.set_cons_succ]
      refine' take_at (i := 16) (d := 65) (v := _) rfl rfl (by kernel_rfl) (by kernel_rfl) (by kernel_rfl) (fun _ _ _ h => h) (Or.inl ⟨by rfl, ?h16⟩) (H7.out) ?_
      case h16 =>
        intro w hSw
        have t := H5.out.2.2.2.2.below hSw
        have t0 := t.cell 0
        have t1 := t.cell 1
        have t2 := t.cell 2
        have t3 := t.cell 3
        have t4 := t.cell 4
        have t5 := (H5.out.2.2.1 _ hSw).cell 2
        have t6 := HOC.out _ (H5.out.1.trans (hSw.mono H5.out.1.size))
        simp only [List.getElem?_cons_zero, List.getElem?_cons_succ] at t0 t1 t2 t3 t4 t5
        go_simp
        with_reducible rfl
      simp only [List.setIfInBounds_toArray, List.set_cons_zero, List.set_cons_succ]
      refine wpAnyH_ready (rs := [10]) (by kernel_rfl) (by simp) ?_
      refine AllReadyH.cons (o := _) rfl (fun KQ hKQ => ?_) AllReadyH.nil
      go_simp
      refine (first_any19 P _ _ _ w7 (H5.out.2.2.2.1.below H7.out)).mono ?_
      rintro e w8 ⟨rfl, hb⟩
      rw [HF0.out]
      have H8 : Hid (Below w5.heap.size w5 w8) := H7.out.trans (hb.mono H7.out.size)
      clear hb H7
      refine hKQ.out _ _ H8.out (fun _ => ?_)
      clear hKQ KQ
      refine wpAnyH_ready (rs := [17]) (by kernel_rfl) (by simp) ?_
      refine AllReadyH.cons (o := _) rfl (fun KQ hKQ => ?_) AllReadyH.nil
      go_simp
      refine ((H5.out.2.1.later specs_any19 H8.out).of specs_any19 (HS.out.1.below HW1.out) o0.path (HP5.out) z0 HONE.out.2.2.2.symm).mono ?_
      rintro e w9 ⟨rfl, _, hb⟩
      have H9 : Hid (Below w5.heap.size w5 w9) := H8.out.trans (hb.mono H8.out.size)
      clear hb H8
      refine hKQ.out _ _ H9.out (fun _ => ?_)
      clear hKQ KQ
      refine' take_at (i := 18) (d := 67) (v := _) rfl rfl (by kernel_rfl) (by kernel_rfl) (by kernel_rfl) (fun _ _ _ h => h) (Or.inl ⟨by rfl, ?h18⟩) (H9.out) ?_
      case h18 =>
        intro w hSw
        have t := H5.out.2.2.2.2.below hSw
        have t0 := t.cell 0
        have t1 := t.cell 1
        have t2 := t.cell 2
        have t3 := t.cell 3
        have t4 := t.cell 4
        have t5 := (H5.out.2.2.1 _ hSw).cell 2
        have t6 := HOC.out _ (H5.out.1.trans (hSw.mono H5.out.1.size))
        simp only [List.getElem?_cons_zero, List.getElem?_cons_succ] at t0 t1 t2 t3 t4 t5
        go_simp
        with_reducible rfl
      simp only [List.setIfInBounds_toArray, List.set_cons_zero, List.set_cons_succ]
      refine' take_at (i := 19) (d := 68) (v := _) rfl rfl (by kernel_rfl) (by kernel_rfl) (by kernel_rfl) (fun _ _ _ h => h) (Or.inl ⟨by rfl, ?h19⟩) (H9.out) ?_
      case h19 =>
        intro w hSw
        have t := H5.out.2.2.2.2.below hSw
        have t0 := t.cell 0
        have t1 := t.cell 1
        have t2 := t.cell 2
        have t3 := t.cell 3
        have t4 := t.cell 4
        have t5 := (H5.out.2.2.1 _ hSw).cell 2
        have t6 := HOC.out _ (H5.out.1.trans (hSw.mono H5.out.1.size))
        simp only [List.getElem?_cons_zero, List.getElem?_cons_succ] at t0 t1 t2 t3 t4 t5
        go_simp
        with_reducible rfl
      simp only [List.setIfInBounds_toArray, List.set_cons_zero, List.set_cons_succ]
      refine' take_at (i := 20) (d := 69) (v := _) rfl rfl (by kernel_rfl) (by kernel_rfl) (by kernel_rfl) (fun _ _ _ h => h) (Or.inl ⟨by rfl, ?h20⟩) (H9.out) ?_
      case h20 =>
        intro w hSw
        have t := H5.out.2.2.2.2.below hSw
        have t0 := t.cell 0
        have t1 := t.cell 1
        have t2 := t.cell 2
        have t3 := t.cell 3
        have t4 := t.cell 4
        have t5 := (H5.out.2.2.1 _ hSw).cell 2
        have t6 := HOC.out _ (H5.out.1.trans (hSw.mono H5.out.1.size))
        simp only [List.getElem?_cons_zero, List.getElem?_cons_succ] at t0 t1 t2 t3 t4 t5
        go_simp
        with_reducible rfl
      simp only [List.setIfInBounds_toArray, List.set_cons_zero, List.set_cons_succ]
      refine' take_at (i := 21) (d := 70) (v := _) rfl rfl (by kernel_rfl) (by kernel_rfl) (by kernel_rfl) (fun _ _ _ h => h) (Or.inl ⟨by rfl, ?h21⟩) (H9.out) ?_
      case h21 =>
        intro w hSw
        have t := H5.out.2.2.2.2.below hSw
        have t0 := t.cell 0
        have t1 := t.cell 1
        have t2 := t.cell 2
        have t3 := t.cell 3
        have t4 := t.cell 4
        have t5 := (H5.out.2.2.1 _ hSw).cell 2
        have t6 := HOC.out _ (H5.out.1.trans (hSw.mono H5.out.1.size))
        simp only [List.getElem?_cons_zero, List.getElem?_cons_succ] at t0 t1 t2 t3 t4 t5
        go_simp
        with_reducible rfl
      simp only [List.setIfInBounds_toArray, List.set_cons_zero, List.set_cons_succ]
      refine' take_at (i := 22) (d := 71) (v := _) rfl rfl (by kernel_rfl) (by kernel_rfl) (by kernel_rfl) (fun _ _ _ h => h) (Or.inl ⟨by rfl, ?h22⟩) (H9.out) ?_
      case h22 =>
        intro w hSw
        have t := H5.out.2.2.2.2.below hSw
        have t0 := t.cell 0
        have t1 := t.cell 1
        have t2 := t.cell 2
        have t3 := t.cell 3
        have t4 := t.cell 4
        have t5 := (H5.out.2.2.1 _ hSw).cell 2
        have t6 := HOC.out _ (H5.out.1.trans (hSw.mono H5.out.1.size))
        simp only [List.getElem?_cons_zero, List.getElem?_cons_succ] at t0 t1 t2 t3 t4 t5
        go_simp
        with_reducible rfl
      simp only [List.setIfInBounds_toArray, List.set_cons_zero, List.set_cons_succ]
      refine' take_at (i := 26) (d := 75) (v := _) rfl rfl (by kernel_rfl) (by kernel_rfl) (by kernel_rfl) (fun _ _ _ h => h) (Or.inl ⟨by rfl, ?h26⟩) (H9.out) ?_
      case h26 =>
        intro w hSw
        have t := H5.out.2.2.2.2.below hSw
        have t0 := t.cell 0
        have t1 := t.cell 1
        have t2 := t.cell 2
        have t3 := t.cell 3
        have t4 := t.cell 4
        have t5 := (H5.out.2.2.1 _ hSw).cell 2
        have t6 := HOC.out _ (H5.out.1.trans (hSw.mono H5.out.1.size))
        simp only [List.getElem?_cons_zero, List.getElem?_cons_succ] at t0 t1 t2 t3 t4 t5
        go_simp
        with_reducible rfl
      simp only [List.setIfInBounds_toArray, List.set_cons_zero, List.set_cons_succ]
      refine' take_at (i := 27) (d := 76) (v := _) rfl rfl (by kernel_rfl) (by kernel_rfl) (by kernel_rfl) (fun _ _ _ h => h) (Or.inl ⟨by rfl, ?h27⟩) (H9.out) ?_
      case h27 =>
        intro w hSw
        have t := H5.out.2.2.2.2.below hSw
        have t0 := t.cell 0
        have t1 := t.cell 1
        have t2 := t.cell 2
        have t3 := t.cell 3
        have t4 := t.cell 4
        have t5 := (H5.out.2.2.1 _ hSw).cell 2
        have t6 := HOC.out _ (H5.out.1.trans (hSw.mono H5.out.1.size))
        simp only [List.getElem?_cons_zero, List.getElem?_cons_succ] at t0 t1 t2 t3 t4 t5
        go_simp
        with_reducible rfl
      simp only [List.setIfInBounds_toArray, List.set_cons_zero, List.set_cons_succ]
      refine' take_at (i := 28) (d := 77) (v := _) rfl rfl (by kernel_rfl) (by kernel_rfl) (by kernel_rfl) (fun _ _ _ h => h) (Or.inl ⟨by rfl, ?h28⟩) (H9.out) ?_
      case h28 =>
        intro w hSw
        have t := H5.out.2.2.2.2.below hSw
        have t0 := t.cell 0
        have t1 := t.cell 1
        have t2 := t.cell 2
        have t3 := t.cell 3
        have t4 := t.cell 4
        have t5 := (H5.out.2.2.1 _ hSw).cell 2
        have t6 := HOC.out _ (H5.out.1.trans (hSw.mono H5.out.1.size))
        simp only [List.getElem?_cons_zero, List.getElem?_cons_succ] at t0 t1 t2 t3 t4 t5
        go_simp
        with_reducible rfl
      simp only [List.setIfInBounds_toArray, List.set_cons_zero, List.set_cons_succ]
      refine wpAnyH_ready (rs := [23]) (by kernel_rfl) (by simp) ?_
      refine AllReadyH.cons (o := _) rfl (fun KQ hKQ => ?_) AllReadyH.nil
      go_simp
      refine (first_any19 P _ _ _ w9 (H5.out.2.2.2.1.below H9.out)).mono ?_
      rintro e w10 ⟨rfl, hb⟩
      rw [HF0.out]
      have H10 : Hid (Below w5.heap.size w5 w10) := H9.out.trans (hb.mono H9.out.size)
      clear hb H9
      refine hKQ.out _ _ H10.out (fun _ => ?_)
      clear hKQ KQ
      refine wpAnyH_ready (rs := [24]) (by kernel_rfl) (by simp) ?_
      refine AllReadyH.cons (o := _) rfl (fun KQ hKQ => ?_) AllReadyH.nil
      go_simp
      refine (ops_any19 P _ _ _ z0 w10 (H5.out.2.2.2.1.below H10.out) HP.out.2.1).mono ?_
      rintro e w11 ⟨ov, rfl, hov, hb⟩
      obtain ⟨oa, on, oc, rfl, hon, _⟩ := hov
      obtain rfl : on = NO := by rw [hon, HO.out.2.2]; exact HONE.out.2.2.1
      have H11 : Hid (Below w5.heap.size w5 w11) := H10.out.trans (hb.mono H10.out.size)
      clear hb hon H10
      refine hKQ.out _ _ H11.out (fun _ => ?_)
      clear hKQ KQ
      refine' take_at (i := 25) (d := 74) (v := _) rfl rfl (by kernel_rfl) (by kernel_rfl) (by kernel_rfl) (fun _ _ _ h => h) (Or.inl ⟨by rfl, ?h25⟩) (H11.out) ?_
      case h25 =>
        intro w hSw
        go_simp
        with_reducible rfl
      simp only [List.setIfInBounds_toArray, List.set_cons_zero, List.set_cons_succ]
      refine' take_at (i := 29) (d := 78) (v := _) rfl rfl (by kernel_rfl) (by kernel_rfl) (by kernel_rfl) (fun _ _ _ h => h) (Or.inl ⟨by rfl, ?h29⟩) (H11.out) ?_
      case h29 =>
        intro w hSw
        go_simp
        with_reducible rfl
      simp only [List.setIfInBounds_toArray, List.set_cons_zero, List.set_cons_succ]
      refine' take_at (i := 30) (d := 79) (v := _) rfl rfl (by kernel_rfl) (by kernel_rfl) (by kernel_rfl) (fun _ _ _ h => h) (Or.inl ⟨by rfl, ?h30⟩) (H11.out) ?_
      case h30 =>
        intro w hSw
        go_simp
        with_reducible rfl
      simp only [List.setIfInBounds_toArray, List.set_cons_zero, List.set_cons_succ]
      refine' take_at (i := 31) (d := 6) (v := _) rfl rfl (by kernel_rfl) (by kernel_rfl) (by kernel_rfl) (fun _ _ _ h => h) (Or.inl ⟨by rfl, ?h31⟩) (H11.out) ?_
      case h31 =>
        intro w hSw
        go_simp
        with_reducible rfl
      simp only [List.setIfInBounds_toArray, List.set_cons_zero, List.set_cons_succ]
      refine wpAnyH_done (by kernel_rfl) ?_ _
      go_wp2
      go_ret
      exact ⟨rfl, H5.out.1.trans (H11.out.mono H5.out.1.size)⟩
end Go.Proofs.YtjimemnkmpapgaaGreatDoor
