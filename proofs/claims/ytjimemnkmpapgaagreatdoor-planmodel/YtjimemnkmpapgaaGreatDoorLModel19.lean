/- PlanModel's walk. -/
import Derived.Test.YtjimemnkmpapgaaGreatDoorLt19
import Derived.Test.YtjimemnkmpapgaaGreatDoorPlainL19
import Derived.Test.YtjimemnkmpapgaaGreatDoorPlainM19
import Derived.Test.YtjimemnkmpapgaaGreatDoorBools
namespace Go.Proofs.YtjimemnkmpapgaaGreatDoor
open Go.RowKit
theorem Pn.bd_at {bs : List Bool} {n : Nat} {b : Bool} (h : bs[n]? = some b) : Pn.bd bs n = b := by unfold Pn.bd; rw [h]; rfl
theorem Pn.bd_no {bs : List Bool} {n : Nat} (h : bs.length ≤ n) : Pn.bd bs n = false := by unfold Pn.bd; rw [List.getElem?_eq_none h]; rfl
theorem Pn.fst_same {bs : List Bool} {k : Nat} (h : ¬ (Pn.fst bs k < 0 ∧ Pn.bd bs k = true)) : Pn.fst bs (k + 1) = Pn.fst bs k := by
  show (if Pn.fst bs k < 0 ∧ Pn.bd bs k = true then (k : Int) else Pn.fst bs k) = _
  rw [if_neg h]
theorem Pn.fst_new {bs : List Bool} {k : Nat} (h : Pn.fst bs k < 0 ∧ Pn.bd bs k = true) : Pn.fst bs (k + 1) = (k : Int) := by
  show (if Pn.fst bs k < 0 ∧ Pn.bd bs k = true then (k : Int) else Pn.fst bs k) = _
  rw [if_pos h]
theorem Pn.vt_same {bs : List Bool} {l : List Int} {k : Nat} {z : Int} (hz : l[k]? = some z) (h : ¬ ((Pn.vt bs l k).err = 0 ∧ Pn.bd bs z.toNat = true)) : Pn.vt bs l (k + 1) = Pn.vt bs l k := by
  have e : l.getD k 0 = z := by rw [List.getD_eq_getElem?_getD, hz]; rfl
  show (if (Pn.vt bs l k).err = 0 ∧ Pn.bd bs (l.getD k 0).toNat = true then (⟨4 + (l.getD k 0) % 3, (k : Int)⟩ : Pn.V) else Pn.vt bs l k) = _
  rw [e, if_neg h]
theorem Pn.vt_new {bs : List Bool} {l : List Int} {k : Nat} {z : Int} (hz : l[k]? = some z) (h : (Pn.vt bs l k).err = 0 ∧ Pn.bd bs z.toNat = true) : Pn.vt bs l (k + 1) = ⟨4 + z % 3, (k : Int)⟩ := by
  have e : l.getD k 0 = z := by rw [List.getD_eq_getElem?_getD, hz]; rfl
  show (if (Pn.vt bs l k).err = 0 ∧ Pn.bd bs (l.getD k 0).toNat = true then (⟨4 + (l.getD k 0) % 3, (k : Int)⟩ : Pn.V) else Pn.vt bs l k) = _
  rw [e, if_pos h]

set_option maxRecDepth 100000 in
set_option maxHeartbeats 16000000 in
theorem model_any19 (n : Int) (v : Value) (zs : List Int) (s m : Int) (u : Value) (os : List O) (vb : Value) (bs : List Bool) (W : World) (hS : Pa.Std W) (hv : Bi W v zs) (hl : zs.length ≤ maxLen) (hu : Ol W u os) (hlo : os.length ≤ maxLen) (hfo : ∀ o ∈ os, Fit o) (hb : Bb W vb bs) (hlb : bs.length ≤ maxLen) :
    Calls Tryz.prog 6 #[.int .i64 n, v, .agg #[.int .i64 s, .int .i64 m, u], vb] W fun e w' => e = .returned (.bool true) ∧ Below W.heap.size W w' := by
  have HS : Hid (Pa.Std W ∧ (∀ o ∈ os, Fit o) ∧ Bi W v zs ∧ zs.length ≤ maxLen) := ⟨hS, hfo, hv, hl⟩
  obtain ⟨ao, NO, co, rfl, hNO, ho2, ho3, ho4⟩ := id hu
  have HO : Hid (Ol W (.slice ao NO co) os ∧ os.length ≤ maxLen ∧ NO = os.length) := ⟨hu, hlo, hNO⟩
  have hM63 : NO ≤ 9223372036854775807 := by unfold maxLen at hlo; omega
  obtain ⟨rb, hrb⟩ : ∃ z, z = W.heap.size := ⟨_, rfl⟩
  have HRB : Hid (Below W.heap.size W (W.alloc (.cells #[.int .i64 s, .int .i64 m, .slice ao NO co] 30)) ∧ Cb (W.alloc (.cells #[.int .i64 s, .int .i64 m, .slice ao NO co] 30)) rb [.int .i64 s, .int .i64 m, .slice ao NO co] 30) := by
    rw [hrb]
    exact ⟨(Below.refl _ W).alloc (Nat.le_refl _) _, Cb.made W [.int .i64 s, .int .i64 m, .slice ao NO co] _⟩
  obtain ⟨ba, NB, bc', rfl, hNB, _⟩ := id hb
  have HBB : Hid (Bb W (.slice ba NB bc') bs ∧ NB = bs.length) := ⟨hb, hNB⟩
  have hB63 : NB ≤ 9223372036854775807 := by unfold maxLen at hlb; omega
  clear hb hlb hNB
  clear hS hfo hl hlo hv hu hNO ho2 ho3 ho4
  go_enter Tryz.func6, Tryz.ntmps6
  go_wp2_with fail
  rw [← hrb]
  clear hrb
  generalize (W.alloc (.cells #[.int .i64 s, .int .i64 m, .slice ao NO co] 30)) = wz at *
  refine (awake_any19 wz (HS.out.1.below HRB.out.1)).mono ?_
  rintro e w0 ⟨rfl, hb0⟩
  have H0 : Hid (Below W.heap.size W w0) := HRB.out.1.trans (hb0.mono HRB.out.1.size)
  have HC0 : Hid (∀ w', Below w0.heap.size w0 w' → Cb w' rb [.int .i64 s, .int .i64 m, .slice ao NO co] 30) := fun w' hb => (HRB.out.2.below hb0).below hb
  clear hb0 HRB
  by_cases a1 : n < 1
  · go_wp2
    go_ret
    exact ⟨rfl, H0.out⟩
  by_cases a2 : 4 < n
  · go_wp2
    go_ret
    exact ⟨rfl, H0.out⟩
  have HA : Hid (1 ≤ n ∧ n ≤ 4) := ⟨by omega, by omega⟩
  obtain ⟨gr, hgr⟩ : ∃ z, z = greatB os := ⟨_, rfl⟩
  have HLC : Hid (∀ w', Below W.heap.size W w' → Calls Tryz.prog 15 #[.slice ao NO co] w' fun e w'' => e = .returned (.bool gr) ∧ Below w'.heap.size w' w'') := fun w' hb => by
    rw [hgr]
    exact long_any19 _ os w' (HO.out.1.below hb) HO.out.2.1
  clear hgr
  have r2 : w0.cell? ⟨rb, 2, none⟩ = some (.slice ao NO co) := (HC0.out w0 (Below.refl _ _)).cell 2
  go_wp2_with fail
  refine (HLC.out w0 H0.out).mono ?_
  rintro e w1 ⟨rfl, hb⟩
  have H1 : Hid (Below W.heap.size W w1 ∧ ∀ w', Below w1.heap.size w1 w' → Cb w' rb [.int .i64 s, .int .i64 m, .slice ao NO co] 30) := ⟨H0.out.trans (hb.mono H0.out.size), fun w' hb' => HC0.out w' (hb.trans (hb'.mono hb.size))⟩
  clear hb HLC HC0 H0 r2
  cases gr with
  | true =>
    go_wp2
    go_ret
    exact ⟨rfl, H1.out.1⟩
  | false =>
  by_cases a3 : (20 : Int) < (NB : Int)
  · go_wp2
    go_ret
    exact ⟨rfl, H1.out.1⟩
  go_wp2_with fail
  refine (table_any19 n v zs w1 (HS.out.1.below H1.out.1) (HS.out.2.2.1.below H1.out.1) HS.out.2.2.2 HA.out.1 HA.out.2).mono ?_
  rintro e w2 ⟨q, r, F, G, rfl, hB⟩
  obtain ⟨t, ht⟩ : ∃ t, t = Pn.tab n zs := ⟨_, rfl⟩
  rw [← ht] at hB
  have H2 : Hid (Below W.heap.size W w2 ∧ Mine16 LTb w1 w2 q 11 t F ∧ (∀ w', Below w2.heap.size w2 w' → Cb w' rb [.int .i64 s, .int .i64 m, .slice ao NO co] 30) ∧ t.shards = n) := by
    have hb := hB.one.below
    exact ⟨H1.out.1.trans (hb.mono H1.out.1.size), hB.one, fun w' hb' => H1.out.2 w' (hb.trans (hb'.mono hb.size)), by rw [ht]; exact Pn.tabK_shards _ _ _⟩
  have HWW : Hid (Below W.heap.size W w1) := H1.out.1
  clear hB ht H1
  have r0 : w2.cell? ⟨rb, 0, none⟩ = some (.int .i64 s) := (H2.out.2.2.1 w2 (Below.refl _ _)).cell 0
  have r1 : w2.cell? ⟨rb, 1, none⟩ = some (.int .i64 m) := (H2.out.2.2.1 w2 (Below.refl _ _)).cell 1
  have r2 : w2.cell? ⟨rb, 2, none⟩ = some (.slice ao NO co) := (H2.out.2.2.1 w2 (Below.refl _ _)).cell 2
  unfold dptr
  go_wp2_with fail
  refine (make_any19 q t F 11 s m _ os w2 H2.out.2.1.ld H2.out.2.1.fine (HS.out.1.below H2.out.1) (HO.out.1.below H2.out.1) HO.out.2.1 HS.out.2.1).mono ?_
  rintro e w3 ⟨hb, hno, hok⟩
  have H3 : Hid (Below W.heap.size W w3 ∧ Mine16 LTb w1 w3 q 11 t F ∧ (∀ w', Below w3.heap.size w3 w' → Cb w' rb [.int .i64 s, .int .i64 m, .slice ao NO co] 30)) := ⟨H2.out.1.trans (hb.mono H2.out.1.size), H2.out.2.1.later specs_any19 hb, fun w' hb' => H2.out.2.2.1 w' (hb.trans (hb'.mono hb.size))⟩
  clear hb r0 r1 r2
  obtain ⟨er, her⟩ : ∃ z, z = Oq.may s m os := ⟨_, rfl⟩
  have HER : Hid (er = Oq.may s m os) := her
  rw [← her] at hno hok
  clear her
  by_cases he : er = 0
  case neg =>
    rw [hno he]
    have he1 : (er != 0) = true := by simp [he]
    clear hno hok he
    unfold pv nilv
    go_wp2
    go_ret
    exact ⟨rfl, H3.out.1.alloc H3.out.1.size _⟩
  case pos =>
  subst he
  obtain ⟨pu, pa, pbv, rfl, hpv⟩ := hok rfl
  obtain ⟨P, hP⟩ : ∃ P, P = Pn.of t s m os := ⟨_, rfl⟩
  have HP : Hid (P = Pn.of t s m os ∧ Pn.Ok P ∧ P.os = os ∧ os ≠ [] ∧ os.length ≤ 16 ∧ (∀ o ∈ os, o.path.size ≤ 200) ∧ ∀ o ∈ os, Pl.goodB o.path.data.toList = true) := by
    obtain ⟨_, _, h1, h2, h3⟩ := may_sizes HER.out.symm
    exact ⟨hP, by rw [hP]; exact Pn.Ok.of H2.out.2.1.fine s m h2, by rw [hP]; rfl, fun e => (by rw [e] at h1; simp at h1), h2, fun o ho => (h3 o ho).1, Pn.may_good HER.out.symm⟩
  rw [← hP] at hpv ⊢
  obtain ⟨⟨ux, uc, rfl⟩, ⟨ax, ac, rfl⟩, ⟨bx, bc, rfl⟩⟩ := hpv.forms
  obtain ⟨N1, hN1⟩ : ∃ N, N = P.os.length := ⟨_, rfl⟩
  obtain ⟨NS, hNS⟩ : ∃ N, N = P.sh.length := ⟨_, rfl⟩
  obtain ⟨NP, hNP⟩ : ∃ N, N = P.pl.length := ⟨_, rfl⟩
  rw [← hN1, ← hNS, ← hNP] at hpv ⊢
  obtain ⟨pb, hpb⟩ : ∃ z, z = w3.heap.size := ⟨_, rfl⟩
  have H4 : Hid (Below W.heap.size W (w3.alloc (.cells #[.int .i64 P.s, .int .i64 P.n, .slice ux N1 uc, .slice ax NS ac, .slice bx NP bc] 33)) ∧ Mine16 LTb w1 (w3.alloc (.cells #[.int .i64 P.s, .int .i64 P.n, .slice ux N1 uc, .slice ax NS ac, .slice bx NP bc] 33)) q 11 t F ∧ (∀ w', Below (w3.alloc (.cells #[.int .i64 P.s, .int .i64 P.n, .slice ux N1 uc, .slice ax NS ac, .slice bx NP bc] 33)).heap.size (w3.alloc (.cells #[.int .i64 P.s, .int .i64 P.n, .slice ux N1 uc, .slice ax NS ac, .slice bx NP bc] 33)) w' → Cb w' rb [.int .i64 s, .int .i64 m, .slice ao NO co] 30) ∧ Pv (w3.alloc (.cells #[.int .i64 P.s, .int .i64 P.n, .slice ux N1 uc, .slice ax NS ac, .slice bx NP bc] 33)) P (.slice ux N1 uc) (.slice ax NS ac) (.slice bx NP bc) ∧ Cb (w3.alloc (.cells #[.int .i64 P.s, .int .i64 P.n, .slice ux N1 uc, .slice ax NS ac, .slice bx NP bc] 33)) pb [.int .i64 P.s, .int .i64 P.n, .slice ux N1 uc, .slice ax NS ac, .slice bx NP bc] 33) := by
    have h1 := (Below.refl _ w3).alloc (Nat.le_refl _) (.cells #[.int .i64 P.s, .int .i64 P.n, .slice ux N1 uc, .slice ax NS ac, .slice bx NP bc] 33)
    rw [hpb]
    exact ⟨H3.out.1.trans (h1.mono H3.out.1.size), H3.out.2.1.later specs_any19 h1, fun w' hb' => H3.out.2.2 w' (h1.trans (hb'.mono h1.size)), hpv.below h1, Cb.made w3 [.int .i64 P.s, .int .i64 P.n, .slice ux N1 uc, .slice ax NS ac, .slice bx NP bc] _⟩
  have HNN : Hid (N1 = os.length ∧ NS = P.sh.length ∧ NP = P.pl.length ∧ NS ≤ 4 ∧ NP ≤ 4) := by
    have h1 := HP.out.2.1.few
    have h2 := HP.out.2.1.len
    exact ⟨by rw [hN1, HP.out.2.2.1], hNS, hNP, by omega, by omega⟩
  have HTF : Hid (Tb.Fine 11 t ∧ t.shards = n) := ⟨H2.out.2.1.fine, H2.out.2.2.2⟩
  have HW1 : Hid (Below W.heap.size W w1) := HWW.out
  clear hno hok hpv H3 H2 hP hN1 hNS hNP
  unfold pv
  go_upto_region 9 with fail
  rw [← hpb]
  clear hpb
  generalize (w3.alloc (.cells #[.int .i64 P.s, .int .i64 P.n, .slice ux N1 uc, .slice ax NS ac, .slice bx NP bc] 33)) = w4 at *
  have HN16 : Hid (NO ≤ 16 ∧ NO = os.length) := ⟨by have := HO.out.2.2; have := HP.out.2.2.2.2.1; omega, HO.out.2.2⟩
  go_wp2
  go_loopw [13, 14] (fun f i wx => ∃ k : Nat, k ≤ NO ∧ i = .int .i64 (k : Int) ∧ f = .int .i64 (Pn.fst bs k) ∧ Below w4.heap.size w4 wx) (fun _ i _ => NO - (intOf i).toNat)
  case atStart => exact ⟨0, Nat.zero_le _, rfl, rfl, Below.refl _ _⟩
  case round =>
    obtain ⟨k, hk, rfl, rfl, hb⟩ := hrel
    have HW : Hid (Below w4.heap.size w4 wr) := hb
    clear hb
    obtain ⟨f, hf⟩ : ∃ f, f = Pn.fst bs k := ⟨_, rfl⟩
    have HF : Hid (f = Pn.fst bs k) := hf
    rw [← hf]
    clear hf
    have r2 : wr.cell? ⟨rb, 2, none⟩ = some (.slice ao NO co) := (H4.out.2.2.1 wr HW.out).cell 2
    have hk0 : (0 : Int) ≤ (k : Int) := by omega
    have hwk : IntKind.wrap .i64 ((k : Int) + 1) = (k : Int) + 1 := by rw [IntKind.wrap_i64]; have := HN16.out.1; omega
    by_cases hlt : k < NO
    · have hlt' : (k : Int) < (NO : Int) := by omega
      by_cases hnb : k < NB
      · have hnb' : (k : Int) < (NB : Int) := by omega
        obtain ⟨b, hb⟩ : ∃ b, bs[k]? = some b := ⟨bs[k]'(by have := HBB.out.2; omega), List.getElem?_eq_getElem _⟩
        obtain ⟨gb, ob, rfl, hbc⟩ := (HBB.out.1.below (H4.out.1.trans (HW.out.mono H4.out.1.size))).at hb
        have HBD : Hid (Pn.bd bs k = b) := Pn.bd_at hb
        clear hb
        cases b with
        | false =>
          have HS1 : Hid (Pn.fst bs (k + 1) = f) := (show _ = _ by rw [HF.out]; exact Pn.fst_same (fun e => by rw [HBD.out] at e; cases e.2))
          go_wp2
          go_roundw
          case rel => exact ⟨k + 1, by omega, by go_num, by rw [HS1.out], HW.out⟩
          case measure => simp [intOf]; omega
        | true =>
          by_cases hf0 : f < 0
          · have HS1 : Hid (Pn.fst bs (k + 1) = (k : Int)) := Pn.fst_new ⟨by rw [← HF.out]; exact hf0, HBD.out⟩
            go_wp2
            go_roundw
            case rel => exact ⟨k + 1, by omega, by go_num, by rw [HS1.out], HW.out⟩
            case measure => simp [intOf]; omega
          · have HS1 : Hid (Pn.fst bs (k + 1) = f) := (show _ = _ by rw [HF.out]; exact Pn.fst_same (fun e => hf0 (by rw [HF.out]; exact e.1)))
            go_wp2
            go_roundw
            case rel => exact ⟨k + 1, by omega, by go_num, by rw [HS1.out], HW.out⟩
            case measure => simp [intOf]; omega
      · have hnb' : ¬ (k : Int) < (NB : Int) := by omega
        have HS1 : Hid (Pn.fst bs (k + 1) = f) := (show _ = _ by rw [HF.out]; exact Pn.fst_same (fun e => by rw [Pn.bd_no (by have := HBB.out.2; omega)] at e; cases e.2))
        go_wp2
        go_roundw
        case rel => exact ⟨k + 1, by omega, by go_num, by rw [HS1.out], HW.out⟩
        case measure => simp [intOf]; omega
    · have hlt' : ¬ (k : Int) < (NO : Int) := by omega
      have HFF : Hid (f = Pn.fst bs os.length) := (show _ = _ by rw [HF.out]; congr 1; have := HN16.out.2; omega)
      have hbel := HW.out
      go_wp2
      go_loopw [15, 16] (fun vv i wx => ∃ j : Nat, j ≤ NS ∧ i = .int .i64 (j : Int) ∧ wx.ownsRow w4.heap.size 42 2 vv ((P.pl.take j).map fun l => Pn.vt bs l l.length).length (KV.cs ((P.pl.take j).map fun l => Pn.vt bs l l.length)) ∧ Below w4.heap.size w4 wx) (fun _ i _ => NS - (intOf i).toNat)
      case atStart => exact ⟨0, Nat.zero_le _, rfl, World.ownsRow_nil _ _ _ _, hbel⟩
      case round =>
        clear hbel
        obtain ⟨j, hj, rfl, hr, hb⟩ := hrel
        obtain ⟨vj, hvj⟩ : ∃ x, x = (P.pl.take j).map fun l => Pn.vt bs l l.length := ⟨_, rfl⟩
        rw [← hvj] at hr
        have HJ : Hid (wr.ownsRow w4.heap.size 42 2 u15 vj.length (KV.cs vj) ∧ Below w4.heap.size w4 wr ∧ vj = (P.pl.take j).map (fun l => Pn.vt bs l l.length) ∧ vj.length ≤ 4) := ⟨hr, hb, hvj, by rw [hvj, List.length_map, List.length_take]; have := HNN.out.2.2.2.2; have := HNN.out.2.2.1; omega⟩
        clear hr hb hvj r2
        have hj0 : (0 : Int) ≤ (j : Int) := by omega
        have hwj : IntKind.wrap .i64 ((j : Int) + 1) = (j : Int) + 1 := by rw [IntKind.wrap_i64]; have := HNN.out.2.2.2.1; omega
        have p3 : wr.cell? ⟨pb, 3, none⟩ = some (.slice ax NS ac) := (H4.out.2.2.2.2.below HJ.out.2.1).cell 3
        by_cases hltj : j < NS
        · have hltj' : (j : Int) < (NS : Int) := by omega
          obtain ⟨l, hl⟩ : ∃ l, P.pl[j]? = some l := ⟨P.pl[j]'(by have := HNN.out.2.1; have := HP.out.2.1.len; omega), List.getElem?_eq_getElem _⟩
          obtain ⟨gp, op, xp, rfl, hxp, hKI⟩ := H4.out.2.2.2.1.at hl
          obtain ⟨lx, lc, rfl, _, _⟩ := hKI.form
          obtain ⟨L, hL⟩ : ∃ L, L = l.length := ⟨_, rfl⟩
          rw [← hL] at hxp hKI
          have HPC : Hid (∀ w', Below w4.heap.size w4 w' → w'.cell? ⟨pb, 4, none⟩ = some (.slice (some ⟨gp, op, none⟩) NP bc) ∧ w'.cell? ⟨gp, op + j, none⟩ = some (.slice lx L lc) ∧ KI.At w' (.slice lx L lc) l) := fun w' hb => ⟨(H4.out.2.2.2.2.below hb).cell 4, Below.kept hb hxp, hKI.below hb⟩
          have HL : Hid (P.pl[j]? = some l ∧ L = l.length ∧ L ≤ 16 ∧ ∀ z ∈ l, 0 ≤ z ∧ z < (os.length : Int)) := by
            have hm := List.mem_of_getElem? hl
            have hr := HP.out.2.1.rng l hm
            rw [HP.out.2.2.1] at hr
            exact ⟨hl, hL, by rw [hL]; exact HP.out.2.1.plen hm, hr⟩
          have hjP : (j : Int) < (NP : Int) := by have h1 := HNN.out.2.1; have h2 := HNN.out.2.2.1; have h3 := HP.out.2.1.len; omega
          clear hl hxp hKI hL
          obtain ⟨xb, hxb⟩ : ∃ z, z = wr.heap.size := ⟨_, rfl⟩
          have H5 : Hid (Below w4.heap.size w4 (wr.alloc (.cells #[.int .i64 0, .int .i64 (-1)] 42)) ∧ Cb (wr.alloc (.cells #[.int .i64 0, .int .i64 (-1)] 42)) xb (vc (Pn.vt bs l 0)) 42 ∧ (wr.alloc (.cells #[.int .i64 0, .int .i64 (-1)] 42)).ownsRow w4.heap.size 42 2 u15 vj.length (KV.cs vj) ∧ u15.ownBlock ≠ some xb ∧ w4.heap.size ≤ xb) := by
            have h1 := (Below.refl _ wr).alloc (Nat.le_refl _) (.cells #[.int .i64 0, .int .i64 (-1)] 42)
            rw [hxb]
            exact ⟨HJ.out.2.1.trans (h1.mono HJ.out.2.1.size), Cb.made wr (vc ⟨0, -1⟩) _, HJ.out.1.alloc _, fun e => by have := (HJ.out.1.lt _ e).2; omega, HJ.out.2.1.size⟩
          go_upto_region 20 with fail
          rw [← hxb]
          clear hxb p3
          generalize (wr.alloc (.cells #[.int .i64 0, .int .i64 (-1)] 42)) = w5 at *
          go_wp2
          go_loopw [18] (fun i wx => ∃ a : Nat, a ≤ L ∧ i = .int .i64 (a : Int) ∧ Cb wx xb (vc (Pn.vt bs l a)) 42 ∧ Below w4.heap.size w4 wx ∧ w5.grownBy wx (some xb)) (fun i _ => L - (intOf i).toNat)
          case atStart => exact ⟨0, Nat.zero_le _, rfl, H5.out.2.1, H5.out.1, grownBy_below (Below.refl _ _)⟩
          case round =>
            obtain ⟨a, ha, rfl, hcb, hb, hg⟩ := hrel
            obtain ⟨xv, hxv⟩ : ∃ x, x = Pn.vt bs l a := ⟨_, rfl⟩
            rw [← hxv] at hcb
            have HA2 : Hid (Cb wr xb (vc xv) 42 ∧ Below w4.heap.size w4 wr ∧ w5.grownBy wr (some xb) ∧ xv = Pn.vt bs l a) := ⟨hcb, hb, hg, hxv⟩
            clear hcb hb hg hxv
            have ha0 : (0 : Int) ≤ (a : Int) := by omega
            have hwa : IntKind.wrap .i64 ((a : Int) + 1) = (a : Int) + 1 := by rw [IntKind.wrap_i64]; have := HL.out.2.2.1; omega
            obtain ⟨q4, qx, qk⟩ := HPC.out wr HA2.out.2.1
            have x0 : wr.cell? ⟨xb, 0, none⟩ = some (.int .i64 xv.err) := HA2.out.1.cell 0
            have x1 : wr.cell? ⟨xb, 1, none⟩ = some (.int .i64 xv.at_) := HA2.out.1.cell 1
            by_cases hlta : a < L
            · have hlta' : (a : Int) < (L : Int) := by omega
              obtain ⟨z, hz⟩ : ∃ z, l[a]? = some z := ⟨l[a]'(by have := HL.out.2.1; omega), List.getElem?_eq_getElem _⟩
              have hzr := HL.out.2.2.2 z (List.mem_of_getElem? hz)
              obtain ⟨nz, rfl⟩ : ∃ n : Nat, z = (n : Int) := ⟨z.toNat, by omega⟩
              have hz0 : (0 : Int) ≤ (nz : Int) := hzr.1
              have HZ : Hid (l[a]? = some (nz : Int) ∧ nz < 16) := ⟨hz, by have := HN16.out; omega⟩
              obtain ⟨gl, ol, rfl, hlc⟩ := qk.at hz
              have hlc : wr.cell? ⟨gl, ol + a, none⟩ = some (.int .i64 (nz : Int)) := by simpa [KI] using hlc 0 _ rfl
              clear hz hzr qk
              by_cases hnb : nz < NB
              · have hnb' : (nz : Int) < (NB : Int) := by omega
                obtain ⟨b, hb⟩ : ∃ b, bs[nz]? = some b := ⟨bs[nz]'(by have := HBB.out.2; omega), List.getElem?_eq_getElem _⟩
                obtain ⟨gb, ob, rfl, hbc⟩ := (HBB.out.1.below (H4.out.1.trans (HA2.out.2.1.mono H4.out.1.size))).at hb
                have HBD : Hid (Pn.bd bs nz = b) := Pn.bd_at hb
                clear hb
                cases b with
                | false =>
                  have HS1 : Hid (Pn.vt bs l (a + 1) = Pn.vt bs l a) := Pn.vt_same HZ.out.1 (fun e => by rw [show ((nz : Int)).toNat = nz by omega, HBD.out] at e; cases e.2)
                  go_wp2
                  go_roundw
                  case rel => exact ⟨a + 1, by omega, by go_num, by rw [HS1.out, ← HA2.out.2.2.2]; exact HA2.out.1, HA2.out.2.1, HA2.out.2.2.1⟩
                  case measure => simp [intOf]; omega
                | true =>
                  by_cases hx0 : xv.err = 0
                  · have hxb0 : (xv.err == 0) = true := by simp [hx0]
                    have HS1 : Hid (Pn.vt bs l (a + 1) = ⟨4 + (nz : Int) % 3, (a : Int)⟩) := Pn.vt_new HZ.out.1 ⟨by rw [← HA2.out.2.2.2]; exact hx0, by rw [show ((nz : Int)).toNat = nz by omega]; exact HBD.out⟩
                    clear hx0
                    obtain ⟨mz, hmz⟩ : ∃ m, m = (nz : Int) % 3 := ⟨_, rfl⟩
                    rw [← hmz] at HS1
                    have hm1 : Int.tmod (nz : Int) 3 = mz := by rw [hmz]; exact Int.tmod_eq_emod_of_nonneg hz0
                    have hm2 : IntKind.wrap .i64 mz = mz := by rw [IntKind.wrap_i64]; omega
                    have hm3 : IntKind.wrap .i64 (4 + mz) = 4 + mz := by rw [IntKind.wrap_i64]; omega
                    clear hmz
                    go_wp2_with (refine wpList_store_row rfl 42 _ _ rfl xb (vc ⟨4 + mz, (a : Int)⟩).toArray rfl rfl 42 _ HA2.out.1 (by kernel_rfl) rfl (by kernel_rfl) ?_)
                    have H6 : Hid (Cb (wr.setRow xb (vc ⟨4 + mz, (a : Int)⟩).toArray) xb (vc (Pn.vt bs l (a + 1))) 42 ∧ Below w4.heap.size w4 (wr.setRow xb (vc ⟨4 + mz, (a : Int)⟩).toArray) ∧ w5.grownBy (wr.setRow xb (vc ⟨4 + mz, (a : Int)⟩).toArray) (some xb)) := by
                      rw [HS1.out]
                      exact ⟨HA2.out.1.rowed _, rowed_below HA2.out.2.1 (Nat.le_refl _) H5.out.2.2.2.2 _, grownBy_trans HA2.out.2.2.1 (rowed_grown wr xb _)⟩
                    go_roundw
                    case rel => exact ⟨a + 1, by omega, by go_num, H6.out.1, H6.out.2.1, H6.out.2.2⟩
                    case measure => simp [intOf]; omega
                  · have hxb0 : (xv.err == 0) = false := by simp [hx0]
                    have HS1 : Hid (Pn.vt bs l (a + 1) = Pn.vt bs l a) := Pn.vt_same HZ.out.1 (fun e => hx0 (by rw [HA2.out.2.2.2]; exact e.1))
                    go_wp2
                    go_roundw
                    case rel => exact ⟨a + 1, by omega, by go_num, by rw [HS1.out, ← HA2.out.2.2.2]; exact HA2.out.1, HA2.out.2.1, HA2.out.2.2.1⟩
                    case measure => simp [intOf]; omega
              · have hnb' : ¬ (nz : Int) < (NB : Int) := by omega
                have HS1 : Hid (Pn.vt bs l (a + 1) = Pn.vt bs l a) := Pn.vt_same HZ.out.1 (fun e => by rw [show ((nz : Int)).toNat = nz by omega, Pn.bd_no (by have := HBB.out.2; omega)] at e; cases e.2)
                go_wp2
                go_roundw
                case rel => exact ⟨a + 1, by omega, by go_num, by rw [HS1.out, ← HA2.out.2.2.2]; exact HA2.out.1, HA2.out.2.1, HA2.out.2.2.1⟩
                case measure => simp [intOf]; omega
            · have hlta' : ¬ (a : Int) < (L : Int) := by omega
              have HV : Hid (wr.ownsRow w4.heap.size 42 2 u15 vj.length (KV.cs vj) ∧ (P.pl.take (j + 1)).map (fun l => Pn.vt bs l l.length) = vj ++ [xv] ∧ u15.ownBlock ≠ some xb) := by
                refine ⟨row_stays H5.out.2.2.1 fun b hb => HA2.out.2.2.1.block b (H5.out.2.2.1.lt b hb).2 (fun e => H5.out.2.2.2.1 (by rw [hb, e])), ?_, H5.out.2.2.2.1⟩
                have e1 : a = l.length := by have := HL.out.2.1; omega
                rw [List.take_add_one, HL.out.1, List.map_append, ← HJ.out.2.2.1, HA2.out.2.2.2, e1]
                rfl
              clear qk
              obtain ⟨sb, hsb⟩ : ∃ z, z = wr.heap.size := ⟨_, rfl⟩
              have H7 : Hid (Below w4.heap.size w4 (wr.alloc (.cells #[.int .i64 xv.err, .int .i64 xv.at_] 42)) ∧ Cb (wr.alloc (.cells #[.int .i64 xv.err, .int .i64 xv.at_] 42)) sb (vc xv) 42 ∧ (wr.alloc (.cells #[.int .i64 xv.err, .int .i64 xv.at_] 42)).ownsRow w4.heap.size 42 2 u15 vj.length (KV.cs vj)) := by
                have h1 := (Below.refl _ wr).alloc (Nat.le_refl _) (.cells #[.int .i64 xv.err, .int .i64 xv.at_] 42)
                rw [hsb]
                exact ⟨HA2.out.2.1.trans (h1.mono HA2.out.2.1.size), Cb.made wr (vc xv) _, HV.out.1.alloc _⟩
              go_wp2_with (at_builtin; rw [← hsb]; refine KV.ok.appL rfl _ _ rfl w4.heap.size u15 (.slice (some ⟨sb, 0, none⟩) 1 1) vj [xv] (wr.alloc (.cells #[.int .i64 xv.err, .int .i64 xv.at_] 42)) rfl rfl H7.out.2.2 H7.out.1.size (Kd.one_at H7.out.2.1) (KV.one _) (by have := HJ.out.2.2.2; simp; omega) ?_)
              clear hsb x0 x1 q4 qx
              generalize (wr.alloc (.cells #[.int .i64 xv.err, .int .i64 xv.at_] 42)) = w7 at *
              intro v8 w8 hr8 hb8 _ _
              have H8 : Hid (w8.ownsRow w4.heap.size 42 2 v8 ((P.pl.take (j + 1)).map fun l => Pn.vt bs l l.length).length (KV.cs ((P.pl.take (j + 1)).map fun l => Pn.vt bs l l.length)) ∧ Below w4.heap.size w4 w8) := by
                refine ⟨?_, H7.out.1.trans hb8⟩
                rw [HV.out.2.1, List.length_append]
                exact hr8
              clear hr8 hb8 H7
              go_wp2
              go_roundw
              case rel => exact ⟨j + 1, by omega, by go_num, H8.out.1, H8.out.2⟩
              case measure => simp [intOf]; omega
        · have hltj' : ¬ (j : Int) < (NS : Int) := by omega
          obtain ⟨vs, hvs⟩ : ∃ x, x = P.pl.map fun l => Pn.vt bs l l.length := ⟨_, rfl⟩
          have HM : Hid (vj = vs ∧ Pn.verdict P vs = (if f < 0 then (0, -1) else (4 + f % 3, f)) ∧ -1 ≤ f ∧ f < 16) := by
            have h1 := HJ.out.2.2.1
            have h2 := HNN.out.2.1
            have h3 := HP.out.2.1.len
            rw [List.take_of_length_le (by omega), ← hvs] at h1
            refine ⟨h1, ?_, ?_⟩
            · rw [hvs, HFF.out, HP.out.1]
              exact Pn.model HTF.out.1 s m HP.out.2.2.2.2.1 HP.out.2.2.2.2.2.2 bs
            · have h4 := HN16.out
              rcases Pn.fst_or bs os.length with ⟨e, _⟩ | ⟨i, e, h5, _⟩
              · rw [HFF.out, e]; omega
              · rw [HFF.out, e]; omega
          have HVV : Hid (KV.At wr u15 vs) := by
            have h := KV.ok.row HJ.out.1
            rw [HM.out.1] at h
            exact h
          clear hvs
          have p0 : wr.cell? ⟨pb, 0, none⟩ = some (.int .i64 P.s) := (H4.out.2.2.2.2.below HJ.out.2.1).cell 0
          have p1 : wr.cell? ⟨pb, 1, none⟩ = some (.int .i64 P.n) := (H4.out.2.2.2.2.below HJ.out.2.1).cell 1
          have p2 : wr.cell? ⟨pb, 2, none⟩ = some (.slice ux N1 uc) := (H4.out.2.2.2.2.below HJ.out.2.1).cell 2
          have p4 : wr.cell? ⟨pb, 4, none⟩ = some (.slice bx NP bc) := (H4.out.2.2.2.2.below HJ.out.2.1).cell 4
          go_wp2_with fail
          refine (verdict_any19 P _ _ _ u15 vs wr (H4.out.2.2.2.1.below HJ.out.2.1) HP.out.2.1 HVV.out (by rw [← HM.out.1]; have := HJ.out.2.2.2; omega)).mono ?_
          rintro e w6 ⟨rfl, hb⟩
          have H6 : Hid (Below W.heap.size W w6) := (H4.out.1.trans (HJ.out.2.1.mono H4.out.1.size)).trans (hb.mono (Nat.le_trans H4.out.1.size HJ.out.2.1.size))
          rw [HM.out.2.1]
          clear hb p0 p1 p2 p3 p4
          by_cases hf : f < 0
          · rw [if_pos hf]
            go_wp2
            go_ret
            exact ⟨rfl, H6.out⟩
          · rw [if_neg hf]
            have hf0 : (0 : Int) ≤ f := by omega
            obtain ⟨mz, hmz⟩ : ∃ m, m = f % 3 := ⟨_, rfl⟩
            rw [← hmz]
            have hm1 : Int.tmod f 3 = mz := by rw [hmz]; exact Int.tmod_eq_emod_of_nonneg hf0
            have hm2 : IntKind.wrap .i64 mz = mz := by rw [IntKind.wrap_i64]; omega
            have hm3 : IntKind.wrap .i64 (4 + mz) = 4 + mz := by rw [IntKind.wrap_i64]; omega
            have hq1 : (f == f) = true := by simp
            have hq2 : (4 + mz == 4 + mz) = true := by simp
            clear hmz
            go_wp2
            go_ret
            exact ⟨rfl, H6.out⟩
end Go.Proofs.YtjimemnkmpapgaaGreatDoor
