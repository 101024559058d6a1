/- The landed snap's Same. -/
import Derived.Test.YtpidafpaffpnaaaGreatDoorSpecs14
import Derived.Test.YtpidafpaffpnaaaGreatDoorWSame10
namespace Go.Proofs.YtpidafpaffpnaaaGreatDoor
open Go.RowKit
set_option maxRecDepth 20000 in
set_option maxHeartbeats 8000000 in
theorem same_any14 {LT : Rep11} (S : Specs11 LT) (Q : SpecQ14 LT) (K : SpecB10) (q : Nat) (t : Tq.Tr) (F : Nat → Prop) (q2 : Nat) (t2 : Tq.Tr) (F2 : Nat → Prop) (w : World) (hL : LT w q t F) (hf : Fine11 t) (hL2 : LT w q2 t2 F2) (hf2 : Fine11 t2) :
    Calls Tryz.prog 41 #[dptr q, dptr q2] w (BoolP (t.l = t2.l) w) := by
  have HS : Hid (SpecQ14 LT ∧ SpecB10 ∧ Fine11 t ∧ Fine11 t2) := ⟨Q, K, hf, hf2⟩
  have HK : Hid (∀ w', Below w.heap.size w w' → LT w' q t F ∧ LT w' q2 t2 F2) := fun w' hb => ⟨S.keep hL (fun k hk => hb.block k (S.lt hL hk)), S.keep hL2 (fun k hk => hb.block k (S.lt hL2 hk))⟩
  clear S Q K hL hf hL2 hf2
  unfold dptr
  go_enter Tryz.func41, Tryz.ntmps41
  go_wp2_with fail
  refine (HS.out.1.paths q t F w (HK.out w (Below.refl _ _)).1 HS.out.2.2.1).mono ?_
  rintro e w1 ⟨v1, rfl, hsq, hof, hb⟩
  have hss := hsq.ss
  obtain ⟨pa, pL, pc, rfl, hpL, hjj⟩ := hsq
  have HPL : Hid (pL = t.l.length ∧ t.l.length ≤ 500) := by
    have e : pL = t.l.length := by rw [hpL]; unfold Tq.keys; simp
    have h2 := HS.out.2.2.1.len
    have h3 := HS.out.2.2.1.room
    exact ⟨e, by omega⟩
  have hpL5 : pL ≤ 500 := by have := HPL.out; omega
  have H1 : Hid (Ss w1 (.slice pa pL pc) (Tq.keys t.l) ∧ Below w.heap.size w w1) := ⟨hss, hb⟩
  clear hss hpL hjj hof hb
  go_wp2_with fail
  refine (HS.out.1.paths q2 t2 F2 w1 (HK.out w1 H1.out.2).2 HS.out.2.2.2).mono ?_
  rintro e w2 ⟨v2, rfl, hsq, hof, hb⟩
  have hss := hsq.ss
  obtain ⟨pb, pM, pd, rfl, hpM, hjj⟩ := hsq
  have HPM : Hid (t2.l.length ≤ 500) := by
    have h2 := HS.out.2.2.2.len
    have h3 := HS.out.2.2.2.room
    have e : t2.l.length ≤ 500 := by omega
    exact e
  have H2 : Hid (Ss w2 (.slice pa pL pc) (Tq.keys t.l) ∧ Ss w2 (.slice pb pM pd) (Tq.keys t2.l) ∧ Below w.heap.size w w2) := ⟨H1.out.1.below hb, hss, H1.out.2.trans (hb.mono H1.out.2.size)⟩
  clear hss hpM hjj hof hb H1
  go_wp2_with fail
  refine (slEq_any (.slice pa pL pc) (.slice pb pM pd) (Tq.keys t.l) (Tq.keys t2.l) w2 H2.out.1 H2.out.2.1 (by have := HPL.out.2; unfold Tq.keys; rw [List.length_map]; omega) (by have := HPM.out; unfold Tq.keys; rw [List.length_map]; omega)).mono ?_
  rintro e w3 ⟨rfl, hb⟩
  have H3 : Hid (Ss w3 (.slice pa pL pc) (Tq.keys t.l) ∧ Below w.heap.size w w3) := ⟨H2.out.1.below hb, H2.out.2.2.trans (hb.mono H2.out.2.2.size)⟩
  clear hb H2
  obtain ⟨R, hR⟩ : ∃ R : Bool, R = decide (Tq.keys t.l = Tq.keys t2.l) := ⟨_, rfl⟩
  rw [← hR]
  have HR : Hid (R = decide (Tq.keys t.l = Tq.keys t2.l)) := hR
  clear hR
  cases R with
  | false =>
    have HN : Hid (¬ t.l = t2.l) := by
      have h := HR.out.symm
      rw [decide_eq_false_iff_not] at h
      exact (show ¬ t.l = t2.l from fun e => h (by rw [e]))
    go_wp2
    go_ret
    exact ⟨false, rfl, ⟨fun h => (by cases h), fun h => absurd h HN.out⟩, H3.out.2⟩
  | true =>
  have HEQ : Hid (Tq.keys t.l = Tq.keys t2.l ∧ t.l.length = t2.l.length) := by
    have h := HR.out.symm
    rw [decide_eq_true_eq] at h
    refine ⟨h, ?_⟩
    have h2 := congrArg List.length h
    unfold Tq.keys at h2
    simpa using h2
  clear HR
  go_wp2
  go_loopw [21] (fun i wr => ∃ k : Nat, k ≤ pL ∧ i = .int .i64 (k : Int) ∧ t.l.take k = t2.l.take k ∧ Below w3.heap.size w3 wr) (fun i _ => pL - (intOf i).toNat)
  case atStart => exact ⟨0, Nat.zero_le _, rfl, rfl, Below.refl _ _⟩
  case round =>
    obtain ⟨k, hk, rfl, htk, hb⟩ := hrel
    have H4 : Hid (t.l.take k = t2.l.take k ∧ Below w3.heap.size w3 wr ∧ Below w.heap.size w wr) := ⟨htk, hb, H3.out.2.trans (hb.mono H3.out.2.size)⟩
    clear htk hb
    by_cases hlt : k < pL
    · have hlt' : (k : Int) < (pL : Int) := by omega
      have hk0 : (0 : Int) ≤ (k : Int) := by omega
      have hwk : IntKind.wrap .i64 ((k : Int) + 1) = (k : Int) + 1 := by rw [IntKind.wrap_i64]; omega
      obtain ⟨p, n, hp0, hp1, hp2, hp3, hp4, hp5⟩ := Tq.at14 HS.out.2.2.1 (k := k) (by have := HPL.out.1; omega)
      obtain ⟨p', n2, hr0, hr1, hr2, hr3, hr4, hr5⟩ := Tq.at14 HS.out.2.2.2 (k := k) (by have := HPL.out.1; have := HEQ.out.2; omega)
      obtain rfl : p' = p := by rw [HEQ.out.1, hr1] at hp1; exact Option.some.inj hp1
      have HP : Hid (t.l[k]? = some (p', n) ∧ t2.l[k]? = some (p', n2) ∧ Tq.find t.l p' = some n ∧ Tq.find t2.l p' = some n2 ∧ p'.size ≤ maxLen ∧ n.names.length ≤ 900 ∧ n2.names.length ≤ 900) := ⟨hp0, hr0, hp2, hr2, hp3, (HS.out.2.2.1.nodes _ hp4).2.many, (HS.out.2.2.2.nodes _ hr4).2.many⟩
      obtain ⟨av, n0, c0, e0, hj0, hcs⟩ := H3.out.1.below H4.out.2.1
      obtain ⟨pg, po, hpa, lx⟩ := hcs k p' hp1
      simp only [Value.slice.injEq] at e0
      obtain ⟨e1, e2, e3⟩ := e0
      subst hpa e1
      clear hcs e2 e3 hj0 hp0 hp1 hp2 hp3 hp4 hp5 hr0 hr1 hr2 hr3 hr4 hr5
      go_wp2_with fail
      clear lx
      refine (HS.out.1.node q t F p' wr (HK.out wr H4.out.2.2).1 HS.out.2.2.1 HP.out.2.2.2.2.1).mono ?_
      rintro e w5 ⟨hN, hb⟩
      obtain ⟨u, rfl, hsq, hof⟩ := hN.1 n HP.out.2.2.1
      have hss := hsq.ss
      obtain ⟨ma, mL, mc, rfl, hj1, hj2⟩ := hsq
      obtain ⟨qn, hqn⟩ : ∃ z, z = w5.heap.size := ⟨_, rfl⟩
      have H6 : Hid (Below wr.heap.size wr (w5.alloc (.cells #[.int .i64 n.made, .int .i64 n.changed, .int .i64 n.ver, .int .i64 n.kids, .int .i64 n.owner, .int .i64 n.len, .int .i64 n.cnt, .string n.data, .int .i64 n.next, .slice ma mL mc] 38)) ∧ Cb (w5.alloc (.cells #[.int .i64 n.made, .int .i64 n.changed, .int .i64 n.ver, .int .i64 n.kids, .int .i64 n.owner, .int .i64 n.len, .int .i64 n.cnt, .string n.data, .int .i64 n.next, .slice ma mL mc] 38)) qn (k10 n (.slice ma mL mc)) 38 ∧ Ss (w5.alloc (.cells #[.int .i64 n.made, .int .i64 n.changed, .int .i64 n.ver, .int .i64 n.kids, .int .i64 n.owner, .int .i64 n.len, .int .i64 n.cnt, .string n.data, .int .i64 n.next, .slice ma mL mc] 38)) (.slice ma mL mc) n.names) := by
        have hba := (Below.refl _ w5).alloc (Nat.le_refl _) (.cells #[.int .i64 n.made, .int .i64 n.changed, .int .i64 n.ver, .int .i64 n.kids, .int .i64 n.owner, .int .i64 n.len, .int .i64 n.cnt, .string n.data, .int .i64 n.next, .slice ma mL mc] 38)
        exact ⟨hb.trans (hba.mono hb.size), by rw [hqn]; exact Cb.made w5 (k10 n (.slice ma mL mc)) _, hss.below hba⟩
      clear hN hb hof hss hj1 hj2
      unfold kv
      go_upto_region 8 with fail
      rw [← hqn]
      clear hqn
      generalize w5.alloc (.cells #[.int .i64 n.made, .int .i64 n.changed, .int .i64 n.ver, .int .i64 n.kids, .int .i64 n.owner, .int .i64 n.len, .int .i64 n.cnt, .string n.data, .int .i64 n.next, .slice ma mL mc] 38) = w6 at *
      go_wp2_with fail
      refine (HS.out.1.node q2 t2 F2 p' w6 (HK.out w6 (H4.out.2.2.trans (H6.out.1.mono H4.out.2.2.size))).2 HS.out.2.2.2 HP.out.2.2.2.2.1).mono ?_
      rintro e w7 ⟨hN, hb⟩
      obtain ⟨u, rfl, hsq, hof⟩ := hN.1 n2 HP.out.2.2.2.1
      have hss := hsq.ss
      obtain ⟨mb, mM, md, rfl, hj1, hj2⟩ := hsq
      obtain ⟨qm, hqm⟩ : ∃ z, z = w7.heap.size := ⟨_, rfl⟩
      have H8 : Hid (Below wr.heap.size wr (w7.alloc (.cells #[.int .i64 n2.made, .int .i64 n2.changed, .int .i64 n2.ver, .int .i64 n2.kids, .int .i64 n2.owner, .int .i64 n2.len, .int .i64 n2.cnt, .string n2.data, .int .i64 n2.next, .slice mb mM md] 38)) ∧ Cb (w7.alloc (.cells #[.int .i64 n2.made, .int .i64 n2.changed, .int .i64 n2.ver, .int .i64 n2.kids, .int .i64 n2.owner, .int .i64 n2.len, .int .i64 n2.cnt, .string n2.data, .int .i64 n2.next, .slice mb mM md] 38)) qn (k10 n (.slice ma mL mc)) 38 ∧ Ss (w7.alloc (.cells #[.int .i64 n2.made, .int .i64 n2.changed, .int .i64 n2.ver, .int .i64 n2.kids, .int .i64 n2.owner, .int .i64 n2.len, .int .i64 n2.cnt, .string n2.data, .int .i64 n2.next, .slice mb mM md] 38)) (.slice ma mL mc) n.names ∧ Cb (w7.alloc (.cells #[.int .i64 n2.made, .int .i64 n2.changed, .int .i64 n2.ver, .int .i64 n2.kids, .int .i64 n2.owner, .int .i64 n2.len, .int .i64 n2.cnt, .string n2.data, .int .i64 n2.next, .slice mb mM md] 38)) qm (k10 n2 (.slice mb mM md)) 38 ∧ Ss (w7.alloc (.cells #[.int .i64 n2.made, .int .i64 n2.changed, .int .i64 n2.ver, .int .i64 n2.kids, .int .i64 n2.owner, .int .i64 n2.len, .int .i64 n2.cnt, .string n2.data, .int .i64 n2.next, .slice mb mM md] 38)) (.slice mb mM md) n2.names) := by
        have hba := (Below.refl _ w7).alloc (Nat.le_refl _) (.cells #[.int .i64 n2.made, .int .i64 n2.changed, .int .i64 n2.ver, .int .i64 n2.kids, .int .i64 n2.owner, .int .i64 n2.len, .int .i64 n2.cnt, .string n2.data, .int .i64 n2.next, .slice mb mM md] 38)
        have hb2 := hb.trans (hba.mono hb.size)
        exact ⟨H6.out.1.trans (hb2.mono H6.out.1.size), H6.out.2.1.below hb2, H6.out.2.2.below hb2, by rw [hqm]; exact Cb.made w7 (k10 n2 (.slice mb mM md)) _, hss.below hba⟩
      clear hN hb hof hss hj1 hj2 H6
      unfold kv
      go_upto_region 9 with fail
      rw [← hqm]
      clear hqm
      generalize w7.alloc (.cells #[.int .i64 n2.made, .int .i64 n2.changed, .int .i64 n2.ver, .int .i64 n2.kids, .int .i64 n2.owner, .int .i64 n2.len, .int .i64 n2.cnt, .string n2.data, .int .i64 n2.next, .slice mb mM md] 38) = w8 at *
      obtain ⟨d0, d1, d2, d3, d4, d5, d6, d7, d8, d9⟩ := k14_all H8.out.2.1
      obtain ⟨f0, f1, f2, f3, f4, f5, f6, f7, f8, f9⟩ := k14_all H8.out.2.2.2.1
      go_wp2_with fail
      clear d0 d1 d2 d3 d4 d5 d6 d7 d8 d9 f0 f1 f2 f3 f4 f5 f6 f7 f8 f9
      refine (HS.out.2.1.same n n2 (.slice ma mL mc) (.slice mb mM md) w8 H8.out.2.2.1 H8.out.2.2.2.2 (by have := HP.out.2.2.2.2.2.1; omega) (by have := HP.out.2.2.2.2.2.2; omega)).mono ?_
      rintro e w9 ⟨R, rfl, hR, hb⟩
      have H9 : Hid ((R = true ↔ n = n2) ∧ Below wr.heap.size wr w9) := ⟨hR, H8.out.1.trans (hb.mono H8.out.1.size)⟩
      clear hR hb H8
      cases R with
      | false =>
        have HN : Hid (¬ t.l = t2.l) := by
          have h : ¬ t.l = t2.l := fun e => by
            have h1 := HP.out.1
            rw [e, HP.out.2.1] at h1
            have h2 := (Prod.mk.inj (Option.some.inj h1)).2
            have h3 := H9.out.1.2 h2.symm
            cases h3
          exact h
        go_wp2
        go_ret
        exact ⟨false, rfl, ⟨fun h => (by cases h), fun h => absurd h HN.out⟩, H4.out.2.2.trans (H9.out.2.mono H4.out.2.2.size)⟩
      | true =>
        have HT : Hid (t.l.take (k + 1) = t2.l.take (k + 1)) := by
          have h : t.l.take (k + 1) = t2.l.take (k + 1) := by rw [List.take_add_one, List.take_add_one, H4.out.1, HP.out.1, HP.out.2.1, H9.out.1.1 rfl]
          exact h
        go_wp2
        go_roundw
        case rel => exact ⟨k + 1, by omega, by go_num, HT.out, H4.out.2.1.trans (H9.out.2.mono H4.out.2.1.size)⟩
        case measure => simp [intOf]; omega
    · have hlt' : ¬ (k : Int) < (pL : Int) := by omega
      have HE : Hid (t.l = t2.l) := by
        have h := H4.out.1
        have h1 := HPL.out.1
        have h2 := HEQ.out.2
        rw [List.take_of_length_le (by omega), List.take_of_length_le (by omega)] at h
        exact h
      go_wp2
      go_ret
      exact ⟨true, rfl, ⟨fun _ => HE.out, fun _ => rfl⟩, H4.out.2.2⟩
end Go.Proofs.YtpidafpaffpnaaaGreatDoor
