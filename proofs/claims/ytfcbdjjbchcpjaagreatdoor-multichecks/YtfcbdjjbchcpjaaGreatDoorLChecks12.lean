/- MultiChecks' walk. -/
import Derived.Test.YtfcbdjjbchcpjaaGreatDoorCheck12
namespace Go.Proofs.YtfcbdjjbchcpjaaGreatDoor
open Go.RowKit

set_option maxRecDepth 20000 in
set_option maxHeartbeats 8000000 in
theorem checks_any12 {LT : Rep11} (S : Specs11 LT) (D : SpecD12 LT) (R : SpecR11 LT) (va vb : Value) (a : List O) (l : List Int) (W : World) (hS : Pa.Std W) (ha : Ol W va a) (hla : a.length ≤ maxLen) (hfa : ∀ o ∈ a, OFit o) (hb : Bi W vb l) (hlb : l.length ≤ maxLen) :
    Calls Tryz.prog 14 #[va, vb] W fun e w' => e = .returned (.bool true) ∧ Below W.heap.size W w' := by
  have HS : Hid (Specs11 LT ∧ SpecD12 LT ∧ SpecR11 LT ∧ Pa.Std W) := ⟨S, D, R, hS⟩
  have HA : Hid (Ol W va a ∧ a.length ≤ maxLen ∧ (∀ o ∈ a, OFit o) ∧ Bi W vb l) := ⟨ha, hla, hfa, hb⟩
  obtain ⟨aa, n, ac, rfl, hn, hjj⟩ := ha
  obtain ⟨ba, m, bc, rfl, hm, hjj2⟩ := hb
  have HN : Hid (n = a.length ∧ m = l.length) := ⟨hn, hm⟩
  have hm1 : m ≤ 9223372036854775807 := by unfold maxLen at hlb; omega
  clear S D R hS hla hfa hlb hn hm hjj hjj2
  go_enter Tryz.func14, Tryz.ntmps14
  go_wp2_with fail
  refine (awake_any12 HS.out.1 HS.out.2.1 W HS.out.2.2.2).mono ?_
  rintro e w0 ⟨rfl, hb0⟩
  have HB0 : Hid (Below W.heap.size W w0) := hb0
  clear hb0
  go_wp2_with fail
  refine (long_any12 (.slice aa n ac) a w0 (HA.out.1.below HB0.out) HA.out.2.1).mono ?_
  rintro e w1 ⟨rfl, hb1⟩
  have HB1 : Hid (Below W.heap.size W w1) := HB0.out.trans (hb1.mono HB0.out.size)
  clear hb1 HB0
  cases hga : greatB a with
  | true =>
    clear hga
    go_wp2
    go_ret
    exact ⟨rfl, HB1.out⟩
  | false =>
  have HGA : Hid (greatB a = false) := hga
  clear hga
  by_cases hm0 : m < 1
  · have hm0' : (m : Int) < 1 := by omega
    go_wp2
    go_ret
    exact ⟨rfl, HB1.out⟩
  have hm0' : ¬ (m : Int) < 1 := by omega
  by_cases hm16 : 16 < m
  · have hm16' : (16 : Int) < (m : Int) := by omega
    go_wp2
    go_ret
    exact ⟨rfl, HB1.out⟩
  have hm16' : ¬ (16 : Int) < (m : Int) := by omega
  have hn20 : n ≤ 20 := by have h1 := HN.out.1; have h2 := (great_no HGA.out).1; omega
  go_wp2_with fail
  refine (Mine11.made HS.out.1 60 (by decide) HB1.out).mono ?_
  rintro e w3 ⟨q, F3, rfl, hM, hb3⟩
  have M3 : Hid (Mine11 LT W w3 q ⟨60, []⟩ F3) := hM
  clear hM hb3
  unfold dptr
  go_wp2
  go_loopw [7] (fun i wr => ∃ (k : Nat) (t : Tq.Tr) (F : Nat → Prop), k ≤ n ∧ i = .int .i64 (k : Int) ∧ Mine11 LT W wr q t F ∧ Tq.Few t k ∧ t.room = 60 ∧ t.l.length ≤ k) (fun i _ => n - (intOf i).toNat)
  case atStart => exact ⟨0, _, F3, Nat.zero_le _, rfl, M3.out, Tq.few_new 60, rfl, Nat.le_refl _⟩
  case round =>
  obtain ⟨k, t, F, hk, rfl, hM, hfw⟩ := hrel
  have M4 : Hid (Mine11 LT W wr q t F ∧ Tq.Few t k ∧ t.room = 60 ∧ t.l.length ≤ k) := ⟨hM, hfw⟩
  clear hM hfw M3
  by_cases hlt : k < n
  · have hlt' : (k : Int) < (n : Int) := by omega
    have hk0 : (0 : Int) ≤ (k : Int) := by omega
    have hwk : IntKind.wrap .i64 ((k : Int) + 1) = (k : Int) + 1 := by rw [IntKind.wrap_i64]; omega
    have hkl : k < a.length := by rw [← HN.out.1]; exact hlt
    obtain ⟨g, bb, c', hv', hcs⟩ := (HA.out.1.below M4.out.1.below).at (by omega)
    simp only [Value.slice.injEq] at hv'
    obtain ⟨rfl, hq, rfl⟩ := hv'
    obtain ⟨c0, c1, c2, c3, c4⟩ := hcs k a[k] (List.getElem?_eq_getElem hkl)
    have HO : Hid (OFit a[k]) := HA.out.2.2.1 _ (List.getElem_mem hkl)
    generalize a[k] = o at *
    clear hcs hq hkl
    go_wp2_with fail
    clear c0 c1 c2 c3 c4
    obtain ⟨x, t5, hx⟩ : ∃ x t5, Tq.doo t o 1 1 = (x, t5) := ⟨_, _, rfl⟩
    have HX : Hid (Tq.doo t o 1 1 = (x, t5) ∧ Fine11 t5 ∧ Tq.Few t5 (k + 1) ∧ t5.room = 60 ∧ t5.l.length ≤ k + 1) := by
      have h1 := Tq.fine_doo (o := o) (s := 1) (z := 1) M4.out.1.fine (M4.out.2.1.more (by omega))
      have h2 := Tq.few_doo (o := o) (s := 1) (z := 1) M4.out.2.1
      have h3 := Tq.room_doo t o 1 1
      have h4 := Tq.len_doo t o 1 1
      rw [hx] at h1 h2 h3 h4
      exact ⟨hx, h1, h2, h3.trans M4.out.2.2.1, by have := M4.out.2.2.2; simp only [] at h4; omega⟩
    clear hx
    refine (M4.out.1.doo HS.out.1 HS.out.2.2.2 o 1 1 HO.out x t5 HX.out.1 HX.out.2.1).mono ?_
    rintro e w5 ⟨F5, v5, rfl, hsq, hof, hM, hmv⟩
    have M5 : Hid (Mine11 LT W w5 q t5 F5) := hM
    clear hsq hof hM hmv
    unfold rv
    go_wp2
    go_roundw
    case rel => exact ⟨k + 1, t5, F5, by omega, by go_num, M5.out, HX.out.2.2⟩
    case measure => simp [intOf]; omega
  have hlt' : ¬ (k : Int) < (n : Int) := by omega
  go_wp2_with fail
  refine (made_any12 Tq.pQ 0 wr).mono ?_
  rintro e w5 ⟨rfl, hb5⟩
  have M5 : Hid (Mine11 LT W w5 q t F) := M4.out.1.later HS.out.1 hb5
  have HK : Hid (Tq.Few t k ∧ t.room = 60 ∧ t.l.length ≤ k ∧ k ≤ 20 ∧ Fine11 t) := ⟨M4.out.2.1, M4.out.2.2.1, M4.out.2.2.2, by omega, M4.out.1.fine⟩
  clear hb5 M4 hlt hlt' hk
  unfold ov Tq.mk
  simp only []
  go_wp2_with fail
  obtain ⟨x6, t6, hx6⟩ : ∃ x t5, Tq.doo t (Tq.mk Tq.pQ 0) 1 1 = (x, t5) := ⟨_, _, rfl⟩
  have HX6 : Hid (Tq.doo t (Tq.mk Tq.pQ 0) 1 1 = (x6, t6) ∧ Fine11 t6 ∧ Tq.Few t6 (k + 1) ∧ ∃ n, Tq.find t6.l Tq.pQ = some n) := by
    have h1 := Tq.fine_doo (o := Tq.mk Tq.pQ 0) (s := 1) (z := 1) HK.out.2.2.2.2 (HK.out.1.more (by have := HK.out.2.2.2.1; omega))
    have h2 := Tq.few_doo (o := Tq.mk Tq.pQ 0) (s := 1) (z := 1) HK.out.1
    have h3 := Tq.q_there HK.out.2.2.2.2 (by rw [HK.out.2.1]; have := HK.out.2.2.1; have := HK.out.2.2.2.1; omega)
    rw [hx6] at h1 h2 h3
    exact ⟨hx6, h1, h2, h3⟩
  clear hx6
  refine (M5.out.doo HS.out.1 HS.out.2.2.2 (Tq.mk Tq.pQ 0) 1 1 (fit_mk (by unfold maxLen; decide) (by decide)) x6 t6 HX6.out.1 HX6.out.2.1).mono ?_
  rintro e w6 ⟨F6, v6', rfl, hsq, hof, hM, hmv⟩
  have M6 : Hid (Mine11 LT W w6 q t6 F6) := hM
  clear hsq hof hM hmv M5
  unfold rv
  go_wp2_with fail
  refine (M6.out.own HS.out.1 HS.out.2.2.1 60).mono ?_
  rintro e w7 ⟨q7, v7, es, rfl, hR7, hes, hb7⟩
  obtain ⟨nq, hnq⟩ := HX6.out.2.2.2
  have HQ : Hid (Tq.find t6.l Tq.pQ = some nq ∧ es.map (·.1) = t6.l ∧ Fine11 t6 ∧ Tq.Few t6 (k + 1) ∧ k ≤ 20) := ⟨hnq, hes, HX6.out.2.1, HX6.out.2.2.1, HK.out.2.2.2.1⟩
  have M7 : Hid (Ck12 LT W w7 q t6 F6 q7 v7 es (.slice none 0 0) []) := ⟨M6.out.later HS.out.1 hb7, hR7.less (fun j hj => hj.elim id (fun e => (by cases e))), World.ownsRow_nil _ _ _ _, fun j e => (by cases e)⟩
  clear hnq hR7 hes hb7 M6
  unfold dptr
  go_wp2
  go_loopw [9, 10, 11] (fun cv bv i wr => ∃ (j : Nat), j ≤ m ∧ i = .int .i64 (j : Int) ∧ bv = .int .i64 (Tq.numNo (Tq.firstNo nq.ver (l.take j))) ∧ Ck12 LT W wr q t6 F6 q7 v7 es cv ((l.take j).map Tq.ck) ∧ ∀ v ∈ l.take j, -1 ≤ v ∧ v ≤ 5) (fun _ _ i _ => m - (intOf i).toNat)
  case atStart => exact ⟨0, Nat.zero_le _, rfl, rfl, M7.out, fun v hv => (by simp at hv)⟩
  case round =>
  obtain ⟨j, hj, rfl, rfl, hC, hv5⟩ := hrel
  obtain ⟨ca, cc, ec, hj1, hj2⟩ := row_form hC.row
  rw [List.length_map, List.length_take, show min j l.length = j by have := HN.out.2; omega] at ec
  have M8 : Hid (Ck12 LT W wr q t6 F6 q7 v7 es u9 ((l.take j).map Tq.ck) ∧ ∀ v ∈ l.take j, -1 ≤ v ∧ v ≤ 5) := ⟨hC, hv5⟩
  subst ec
  obtain ⟨fo, hfo⟩ : ∃ fo, fo = Tq.firstNo nq.ver (l.take j) := ⟨_, rfl⟩
  rw [← hfo]
  have HFO : Hid (fo = Tq.firstNo nq.ver (l.take j)) := hfo
  clear hfo hC hv5 hj1 hj2 M7
  by_cases hjl : j < m
  · have hlt' : (j : Int) < (m : Int) := by omega
    have hk0 : (0 : Int) ≤ (j : Int) := by omega
    have hwk : IntKind.wrap .i64 ((j : Int) + 1) = (j : Int) + 1 := by rw [IntKind.wrap_i64]; omega
    obtain ⟨z, hz⟩ : ∃ z, l[j]? = some z := ⟨_, List.getElem?_eq_getElem (by have := HN.out.2; omega)⟩
    obtain ⟨av, k', c', ev, hk', hcs⟩ := HA.out.2.2.2
    obtain ⟨e1, e2, e3⟩ := Value.slice.inj ev
    obtain ⟨lg, lo, hav, lx0⟩ := hcs j z hz
    have HLX : Hid (l[j]? = some z ∧ ∀ w', Below W.heap.size W w' → w'.cell? ⟨lg, lo + j, none⟩ = some (.int .i64 z)) := ⟨hz, fun w' hb => Below.kept hb lx0⟩
    rw [hav] at e1
    subst e1
    clear ev hk' hcs e2 e3 hav lx0 hz
    have lx := HLX.out.2 wr M8.out.1.mine.below
    by_cases hz1 : z < -1
    · go_wp2
      go_ret
      exact ⟨rfl, M8.out.1.mine.below⟩
    by_cases hz5 : 5 < z
    · go_wp2
      go_ret
      exact ⟨rfl, M8.out.1.mine.below⟩
    obtain ⟨sb, hsb⟩ : ∃ z, z = wr.heap.size := ⟨_, rfl⟩
    obtain ⟨cs, hcs⟩ : ∃ cs, cs = (l.take j).map Tq.ck := ⟨_, rfl⟩
    have HCS : Hid (cs = (l.take j).map Tq.ck) := hcs
    have H9 : Hid (Ck12 LT W (wr.alloc (.cells #[.int .i64 4, .string Tq.pQ, .string ⟨#[]⟩, .int .i64 z, .int .i64 0] 34)) q t6 F6 q7 v7 es (.slice ca j cc) cs ∧ Cb (wr.alloc (.cells #[.int .i64 4, .string Tq.pQ, .string ⟨#[]⟩, .int .i64 z, .int .i64 0] 34)) sb (oc (Tq.ck z)) 34 ∧ cs.length ≤ 3000) := ⟨by rw [hcs]; exact M8.out.1.later HS.out.1 ((Below.refl _ wr).alloc (Nat.le_refl _) _), by rw [hsb]; exact Cb.made wr (oc (Tq.ck z)) _, by rw [hcs, List.length_map, List.length_take]; omega⟩
    clear hcs
    go_wp2_with (at_builtin; rw [← hsb]; refine wpList_op12 rfl _ _ rfl W.heap.size (.slice ca j cc) cs (Tq.ck z) sb (wr.alloc (.cells #[.int .i64 4, .string Tq.pQ, .string ⟨#[]⟩, .int .i64 z, .int .i64 0] 34)) rfl rfl H9.out.1.row H9.out.1.mine.below.size H9.out.2.1 H9.out.2.2 ?_)
    have HW9 : Hid ((wr.alloc (.cells #[.int .i64 4, .string Tq.pQ, .string ⟨#[]⟩, .int .i64 z, .int .i64 0] 34)).heap.size = wr.heap.size + 1) := World.size_alloc _ _
    clear hsb lx
    generalize (wr.alloc (.cells #[.int .i64 4, .string Tq.pQ, .string ⟨#[]⟩, .int .i64 z, .int .i64 0] 34)) = w9 at *
    intro va wa hra hga hva
    (try rw [← HW9.out] at hva)
    have HTK : Hid ((l.take (j + 1)).map Tq.ck = (l.take j).map Tq.ck ++ [Tq.ck z] ∧ l.take (j + 1) = l.take j ++ [z] ∧ (l.take j).length = j) := by
      have e : l.take (j + 1) = l.take j ++ [z] := by rw [List.take_add_one, HLX.out.1]; rfl
      exact ⟨by rw [e, List.map_append]; rfl, e, by rw [List.length_take]; have := HN.out.2; omega⟩
    have HA2 : Hid (Ck12 LT W wa q t6 F6 q7 v7 es va ((l.take (j + 1)).map Tq.ck) ∧ ∀ v ∈ l.take (j + 1), -1 ≤ v ∧ v ≤ 5) := by
      refine ⟨?_, ?_⟩
      · rw [HTK.out.1, ← HCS.out]
        exact H9.out.1.push HS.out.1 hga (by simpa using hra) hva
      · rw [HTK.out.2.1]
        intro v hv
        rcases List.mem_append.1 hv with hv | hv
        · exact M8.out.2 v hv
        · obtain rfl := List.mem_singleton.1 hv
          omega
    obtain ⟨ra, rc, er, hj1, hj2⟩ := row_form HA2.out.1.row
    rw [List.length_map, List.length_take, show min (j + 1) l.length = j + 1 by have := HN.out.2; omega] at er
    subst er
    clear hra hga hva hj1 hj2 H9 M8
    go_wp2_with fail
    refine (HS.out.2.2.1.node q t6 F6 Tq.pQ wa HA2.out.1.mine.ld HA2.out.1.mine.fine (by unfold maxLen; decide)).mono ?_
    rintro e wb ⟨hNP, hbb⟩
    obtain ⟨ub, rfl, hsq, hof⟩ := hNP.1 nq HQ.out.1
    obtain ⟨na, nL, nc, rfl, hj1, hj2⟩ := hsq
    obtain ⟨qn, hqn⟩ : ∃ z, z = wb.heap.size := ⟨_, rfl⟩
    have MB : Hid (Ck12 LT W (wb.alloc (.cells #[.int .i64 nq.made, .int .i64 nq.changed, .int .i64 nq.ver, .int .i64 nq.kids, .int .i64 nq.owner, .int .i64 nq.len, .int .i64 nq.cnt, .string nq.data, .int .i64 nq.next, .slice na nL nc] 38)) q t6 F6 q7 v7 es (.slice ra (j + 1) rc) ((l.take (j + 1)).map Tq.ck) ∧ Cb (wb.alloc (.cells #[.int .i64 nq.made, .int .i64 nq.changed, .int .i64 nq.ver, .int .i64 nq.kids, .int .i64 nq.owner, .int .i64 nq.len, .int .i64 nq.cnt, .string nq.data, .int .i64 nq.next, .slice na nL nc] 38)) qn (k10 nq (.slice na nL nc)) 38) := ⟨(HA2.out.1.later HS.out.1 hbb).later HS.out.1 ((Below.refl _ wb).alloc (Nat.le_refl _) _), by rw [hqn]; exact Cb.made wb (k10 nq (.slice na nL nc)) _⟩
    have HV5 : Hid (∀ v ∈ l.take (j + 1), -1 ≤ v ∧ v ≤ 5) := HA2.out.2
    clear hNP hbb hof hj1 hj2 HA2
    unfold kv
    go_upto_region 21 with fail
    rw [← hqn]
    clear hqn
    generalize (wb.alloc (.cells #[.int .i64 nq.made, .int .i64 nq.changed, .int .i64 nq.ver, .int .i64 nq.kids, .int .i64 nq.owner, .int .i64 nq.len, .int .i64 nq.cnt, .string nq.data, .int .i64 nq.next, .slice na nL nc] 38)) = wc at *
    have lx := HLX.out.2 wc MB.out.1.mine.below
    have d2 : wc.cell? ⟨qn, 2, none⟩ = some (.int .i64 nq.ver) := (MB.out.2.cell 2).trans rfl
    have HSN : Hid (Tq.firstNo nq.ver (l.take (j + 1)) = Tq.stepNo fo z nq.ver j) := by
      have e := Tq.first_snoc nq.ver z (l.take j)
      rw [← HTK.out.2.1, ← HFO.out, HTK.out.2.2] at e
      exact e
    cases fo with
    | some i =>
      unfold Tq.numNo
      simp only []
      have hi0 : decide ((i : Int) < 0) = false := by simp
      go_quiet (fail)
      go_wp2
      go_roundw
      case rel => exact ⟨j + 1, by omega, by go_num, by rw [HSN.out]; rfl, MB.out.1.later HS.out.1 (below_drewN (Below.refl _ _) _), HV5.out⟩
      case measure => simp [intOf]; omega
    | none =>
      unfold Tq.numNo
      simp only []
      by_cases hc1 : z = -1
      · have hcb : (z != -1) = false := by simp [hc1]
        have HE : Hid (Tq.firstNo nq.ver (l.take (j + 1)) = none) := by
          have e : Tq.firstNo nq.ver (l.take (j + 1)) = none := by rw [HSN.out]; simp [Tq.stepNo, hc1]
          exact e
        clear hc1
        go_quiet (fail)
        go_wp2
        go_roundw
        case rel => exact ⟨j + 1, by omega, by go_num, by rw [HE.out]; rfl, MB.out.1.later HS.out.1 (below_drewN (Below.refl _ _) _), HV5.out⟩
        case measure => simp [intOf]; omega
      have hcb : (z != -1) = true := by simp [hc1]
      by_cases hc2 : z = nq.ver
      · have hcc : (z != nq.ver) = false := by simp [hc2]
        have HE : Hid (Tq.firstNo nq.ver (l.take (j + 1)) = none) := by
          have e : Tq.firstNo nq.ver (l.take (j + 1)) = none := by rw [HSN.out]; simp [Tq.stepNo, hc2]
          exact e
        clear hc1 hc2
        go_quiet (fail)
        go_wp2
        go_roundw
        case rel => exact ⟨j + 1, by omega, by go_num, by rw [HE.out]; rfl, MB.out.1.later HS.out.1 (below_drewN (Below.refl _ _) _), HV5.out⟩
        case measure => simp [intOf]; omega
      · have hcc : (z != nq.ver) = true := by simp [hc2]
        have HE : Hid (Tq.firstNo nq.ver (l.take (j + 1)) = some j) := by
          have e : Tq.firstNo nq.ver (l.take (j + 1)) = some j := by rw [HSN.out]; simp [Tq.stepNo, hc1, hc2]
          exact e
        clear hc1 hc2
        go_quiet (fail)
        go_wp2
        go_roundw
        case rel => exact ⟨j + 1, by omega, by go_num, by rw [HE.out]; rfl, MB.out.1.later HS.out.1 (below_drewN (Below.refl _ _) _), HV5.out⟩
        case measure => simp [intOf]; omega
  · have hlt' : ¬ (j : Int) < (m : Int) := by omega
    have hjm : j = m := by omega
    subst hjm
    have HTL : Hid (l.take j = l) := List.take_of_length_le (by rw [← HN.out.2]; omega)
    rw [HTL.out] at HFO M8
    go_wp2_with fail
    obtain ⟨r, B, t9, hrt⟩ : ∃ r B t9, Tq.many t6 1 2 (l.map Tq.ck) = ((r, B), t9) := ⟨_, _, _, rfl⟩
    have HR : Hid (Tq.many t6 1 2 (l.map Tq.ck) = ((r, B), t9)) := hrt
    clear hrt
    refine (M8.out.1.mine.many HS.out.1 HS.out.2.1 HS.out.2.2.2 1 2 (.slice ca j cc) (l.map Tq.ck) (k + 1) HQ.out.2.2.2.1 (by have := HQ.out.2.2.2.2; omega) M8.out.1.om (fun o ho => by obtain ⟨v, hv, rfl⟩ := List.mem_map.1 ho; exact fit_ck (M8.out.2 v hv)) (by rw [List.length_map, ← HN.out.2]; omega) r B t9 HR.out).mono ?_
    rintro e wa ⟨Fa, ua, rfl, hR, hM, hmv⟩
    obtain ⟨aa, ac', rfl⟩ := hR.form
    obtain ⟨L, hL⟩ : ∃ L, L = r.xs.length := ⟨_, rfl⟩
    rw [← hL] at hR ⊢
    clear hL
    obtain ⟨qb, hqb⟩ : ∃ z, z = wa.heap.size := ⟨_, rfl⟩
    have HMC := Tq.many_ck HQ.out.1 (l := l) (fun v hv => (M8.out.2 v hv).1) (by rw [← HN.out.2]; omega) (by rw [← HN.out.2]; omega)
    have HT : Hid (t9 = t6 ∧ ((B = true ∧ fo = none ∧ r.at_ = -1) ∨ (B = false ∧ ∃ i : Nat, fo = some i ∧ r.at_ = (i : Int) ∧ r.err = 6))) := by
      rw [HR.out] at HMC
      cases hfo : fo with
      | none =>
        have h := HMC.2 (by rw [← HFO.out]; exact hfo)
        obtain ⟨h1, h2⟩ := Prod.mk.inj h
        obtain ⟨h3, h4⟩ := Prod.mk.inj h1
        exact ⟨h2, Or.inl ⟨h4, rfl, by rw [h3]⟩⟩
      | some i =>
        have h := HMC.1 i (by rw [← HFO.out]; exact hfo)
        obtain ⟨h1, h2⟩ := Prod.mk.inj h
        obtain ⟨h3, h4⟩ := Prod.mk.inj h1
        exact ⟨h2, Or.inr ⟨h4, i, rfl, by rw [h3]; rfl, by rw [h3]; rfl⟩⟩
    clear HMC
    have MC : Hid (Mine11 LT W (wa.alloc (.cells #[.int .i64 r.num, .int .i64 r.zxid, .int .i64 r.err, .int .i64 r.at_, .slice aa L ac'] 73)) q t6 Fa ∧ Rb12 (wa.alloc (.cells #[.int .i64 r.num, .int .i64 r.zxid, .int .i64 r.err, .int .i64 r.at_, .slice aa L ac'] 73)) Fa wr.heap.size qb r (.slice aa L ac') ∧ Ro11 W (wa.alloc (.cells #[.int .i64 r.num, .int .i64 r.zxid, .int .i64 r.err, .int .i64 r.at_, .slice aa L ac'] 73)) Fa q7 60 v7 es) := by
      have hba := (Below.refl _ wa).alloc (Nat.le_refl _) (.cells #[.int .i64 r.num, .int .i64 r.zxid, .int .i64 r.err, .int .i64 r.at_, .slice aa L ac'] 73)
      rw [HT.out.1] at hM
      exact ⟨hM.later HS.out.1 hba, by rw [hqb]; exact Rb12.made (hM.flt HS.out.1) hR, ((M8.out.1.ro.less (fun j hj => Or.inl hj)).moved hmv).later hba⟩
    clear hR hM hmv M8 HFO HR
    unfold rpv
    go_upto_region 24 with fail
    rw [← hqb]
    clear hqb
    generalize (wa.alloc (.cells #[.int .i64 r.num, .int .i64 r.zxid, .int .i64 r.err, .int .i64 r.at_, .slice aa L ac'] 73)) = wc at *
    have p2 : wc.cell? ⟨qb, 2, none⟩ = some (.int .i64 r.err) := (MC.out.2.1.blk.cb.cell 2).trans rfl
    have p3 : wc.cell? ⟨qb, 3, none⟩ = some (.int .i64 r.at_) := (MC.out.2.1.blk.cb.cell 3).trans rfl
    obtain ⟨_, hcase⟩ := HT.out
    rcases hcase with ⟨rfl, rfl, hat⟩ | ⟨rfl, i, rfl, hat, her⟩
    · rw [hat] at p3
      unfold Tq.numNo
      clear hat HT
      go_wp2_with fail
      refine (MC.out.1.own HS.out.1 HS.out.2.2.1 60).mono ?_
      rintro e wd ⟨qd, vd, es9, rfl, hR9, hes9, hb9⟩
      have H9 : Hid (Below W.heap.size W wd ∧ Ro11 W wd Fa q7 60 v7 es ∧ Ro11 W wd Fa qd 60 vd es9 ∧ es9.map (·.1) = t6.l) := ⟨MC.out.1.below.trans (hb9.mono MC.out.1.below.size), MC.out.2.2.later hb9, hR9, hes9⟩
      clear hR9 hes9 hb9 p2 p3
      unfold dptr
      go_wp2_with fail
      refine (H9.out.2.2.1.alike H9.out.2.1 H9.out.2.2.2 HQ.out.2.1 HQ.out.2.2.1).mono ?_
      rintro e wz ⟨rfl, hbz⟩
      have HZ : Hid (Below W.heap.size W wz) := H9.out.1.trans (hbz.mono H9.out.1.size)
      clear hbz
      go_wp2
      go_ret
      exact ⟨rfl, HZ.out⟩
    · rw [hat] at p3
      rw [her] at p2
      unfold Tq.numNo
      have hi0 : decide ((i : Int) < 0) = false := by simp
      clear hat her HT
      go_wp2_with fail
      refine (MC.out.1.own HS.out.1 HS.out.2.2.1 60).mono ?_
      rintro e wd ⟨qd, vd, es9, rfl, hR9, hes9, hb9⟩
      have H9 : Hid (Below W.heap.size W wd ∧ Ro11 W wd Fa q7 60 v7 es ∧ Ro11 W wd Fa qd 60 vd es9 ∧ es9.map (·.1) = t6.l) := ⟨MC.out.1.below.trans (hb9.mono MC.out.1.below.size), MC.out.2.2.later hb9, hR9, hes9⟩
      clear hR9 hes9 hb9 p2 p3
      unfold dptr
      go_wp2_with fail
      refine (H9.out.2.2.1.alike H9.out.2.1 H9.out.2.2.2 HQ.out.2.1 HQ.out.2.2.1).mono ?_
      rintro e wz ⟨rfl, hbz⟩
      have HZ : Hid (Below W.heap.size W wz) := H9.out.1.trans (hbz.mono H9.out.1.size)
      clear hbz
      go_wp2
      go_ret
      exact ⟨rfl, HZ.out⟩
end Go.Proofs.YtfcbdjjbchcpjaaGreatDoor
