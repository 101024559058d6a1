/- SessNumbers' walk. -/
import Derived.Test.YtlabdhllindenaaActs15
namespace Go.Proofs.Ytlabdhllindenaa.Sq
theorem op_room (s : St) (sp : Int) : (op s sp).2.2.room = s.room := by
  unfold op
  split
  · rfl
  · split <;> rfl
theorem op_next (s : St) (sp : Int) : ((op s sp).2.1 = 0 ∧ (op s sp).1 = s.next ∧ (op s sp).2.2.next = s.next + 1 ∧ has (op s sp).2.2.l s.next = true) ∨ ((op s sp).2.1 ≠ 0 ∧ (op s sp).2.2 = s) := by
  unfold op
  split
  · exact Or.inr ⟨(by decide : (1 : Int) ≠ 0), rfl⟩
  · split
    · exact Or.inr ⟨(by decide : (9 : Int) ≠ 0), rfl⟩
    · exact Or.inl ⟨rfl, rfl, rfl, has_iff.2 ⟨⟨s.next, sp, s.now + sp⟩, by simp, rfl⟩⟩
theorem touch_same (s : St) (id : Int) : (touch s id).2.room = s.room ∧ (touch s id).2.next = s.next := by
  unfold touch
  split <;> exact ⟨rfl, rfl⟩
theorem close_same (s : St) (id : Int) : (close s id).2.room = s.room ∧ (close s id).2.next = s.next := by
  unfold close
  split <;> exact ⟨rfl, rfl⟩
end Go.Proofs.Ytlabdhllindenaa.Sq
namespace Go.Proofs.Ytlabdhllindenaa
open Go.RowKit

set_option maxRecDepth 20000 in
set_option maxHeartbeats 8000000 in
theorem numbers_any15 {LS : Rep15} (S : Specs15 LS) (v : Value) (xs : List Sq.Ac) (W : World) (hv : Acl15 W v xs) (hl : xs.length ≤ maxLen) :
    Calls Try.prog 7 #[v] W fun e w' => e = .returned (.bool true) ∧ Below W.heap.size W w' := by
  have HS : Hid (Specs15 LS) := S
  obtain ⟨av, N, c, rfl, hN, hj⟩ := hv
  have HV : Hid (Acl15 W (.slice av N c) xs ∧ N = xs.length) := ⟨⟨av, N, c, rfl, hN, hj⟩, hN⟩
  have hN1 : N ≤ 9223372036854775807 := by unfold maxLen at hl; omega
  clear S hl hN hj
  go_enter Try.func7, Try.ntmps7
  go_wp2_with fail
  refine (awake_any15 HS.out W).mono ?_
  rintro e w0 ⟨rfl, hb0⟩
  have H0 : Hid (Below W.heap.size W w0) := hb0
  clear hb0
  by_cases h80 : 80 < N
  · have h80' : (80 : Int) < (N : Int) := by omega
    go_wp2
    go_ret
    exact ⟨rfl, H0.out⟩
  have h80' : ¬ (80 : Int) < (N : Int) := by omega
  go_wp2_with fail
  refine (mine15_new HS.out H0.out 5 (by decide)).mono ?_
  rintro e w1 ⟨q, F1, rfl, hM⟩
  have M1 : Hid (Mine15 LS W w1 q 1 (Sq.new 5) F1) := hM
  clear hM H0
  go_wp2
  go_loopw [5, 6] (fun u i wx => ∃ (k : Nat) (last : Int) (s : Sq.St) (F : Nat → Prop), k ≤ N ∧ i = .int .i64 (k : Int) ∧ u = .int .i64 last ∧ Mine15 LS W wx q ((k : Int) + 1) s F ∧ s.room = 5 ∧ s.next = last + 1) (fun _ i _ => N - (intOf i).toNat)
  case atStart => exact ⟨0, 0, _, F1, Nat.zero_le _, rfl, rfl, M1.out, rfl, rfl⟩
  case round =>
    obtain ⟨k, last, s, F, hk, rfl, rfl, hM, hro, hnx⟩ := hrel
    have H3 : Hid (Mine15 LS W wr q ((k : Int) + 1) s F ∧ s.room = 5 ∧ s.next = last + 1) := ⟨hM, hro, hnx⟩
    clear hM hro hnx M1
    by_cases hlt : k < N
    · have hlt' : (k : Int) < (N : Int) := by omega
      have hk0 : (0 : Int) ≤ (k : Int) := by omega
      have hwk : IntKind.wrap .i64 ((k : Int) + 1) = (k : Int) + 1 := by rw [IntKind.wrap_i64]; omega
      obtain ⟨x, hx⟩ : ∃ x, xs[k]? = some x := ⟨xs[k]'(by rw [← HV.out.2]; exact hlt), List.getElem?_eq_getElem _⟩
      have HX : Hid (xs[k]? = some x) := hx
      obtain ⟨g, o, rfl, c0, c1, c2⟩ := (HV.out.1.below H3.out.1.below).at hx
      clear hx
      have hkm : ((k : Int) + 1) ≤ 1000000 := by omega
      by_cases ho0 : x.op = 0
      · have hob : (x.op == 0) = true := by simp [ho0]
        clear ho0
        obtain ⟨za, zb, s6, hz⟩ : ∃ za zb s6, Sq.op s x.span = (za, zb, s6) := ⟨_, _, _, rfl⟩
        have hon := Sq.op_next s x.span
        have hor := Sq.op_room s x.span
        rw [hz] at hon hor
        simp only [] at hon hor
        have HZ : Hid (Sq.op s x.span = (za, zb, s6)) := hz
        clear hz
        go_wp2_with fail
        refine (H3.out.1.opn HS.out hkm x.span za zb s6 HZ.out).mono ?_
        rintro e w6 ⟨F6, rfl, hM6, hmv⟩
        have H6 : Hid (Mine15 LS W w6 q ((k : Int) + 2) s6 F6) := by rw [show (k : Int) + 2 = (k : Int) + 1 + 1 by omega]; exact hM6
        clear hM6 hmv
        rcases hon with ⟨hb0, ha, hn6, hh⟩ | ⟨hb0, hs6⟩
        · have hzb : (zb == 0) = true := by simp [hb0]
          have hnx := H3.out.2.2
          have e1 : za = last + 1 := by omega
          subst e1
          have hwl : IntKind.wrap .i64 (last + 1) = last + 1 := by
            have h1 := H3.out.1.fine.next1
            have h2 := H3.out.1.fine.nextm
            rw [IntKind.wrap_i64]
            omega
          have hne : (last + 1 != last + 1) = false := by simp
          have HRN : Hid (s6.room = 5 ∧ s6.next = last + 1 + 1 ∧ Sq.has s6.l (last + 1) = true) := ⟨by rw [hor]; exact H3.out.2.1, by omega, by rw [← hnx]; exact hh⟩
          clear hb0 ha hn6 hh hor hnx H3
          go_wp2_with fail
          refine (H6.out.live HS.out (last + 1) true HRN.out.2.2).mono ?_
          rintro e w65 ⟨rfl, hM6, hb7⟩
          have H66 : Hid (Mine15 LS W w65 q ((k : Int) + 2) s6 F6) := hM6
          clear hM6 hb7 H6
          obtain ⟨nl, hnl⟩ : ∃ z, z = last + 1 := ⟨_, rfl⟩
          have HRN2 : Hid (s6.room = 5 ∧ s6.next = nl + 1) := by rw [hnl]; exact ⟨HRN.out.1, HRN.out.2.1⟩
          rw [← hnl] at hwl
          clear HRN
          rw [← hnl]
          clear hnl
          clear c0 c1 c2
          obtain ⟨A, hA⟩ : ∃ A, A = s6.l.length := ⟨_, rfl⟩
          have HA : Hid (A = s6.l.length ∧ s6.room = 5 ∧ s6.next = nl + 1) := ⟨hA, HRN2.out.1, HRN2.out.2⟩
          have hA5 : A ≤ 5 := by have h1 := H66.out.fine.len; have h2 := HA.out.2.1; omega
          clear hA
          go_wp2_with fail
          refine (H66.out.all HS.out).mono ?_
          rintro e w7 ⟨va, rfl, hia, hoa, hM7, hb7⟩
          obtain ⟨a3, n3, c3, rfl, hn3, hc3⟩ := hia
          have j0 : n3 = A := by rw [hn3, HA.out.1]; unfold Sq.all; simp
          have H7 : Hid (Mine15 LS W w7 q ((k : Int) + 2) s6 F6 ∧ Bi w7 (.slice a3 n3 c3) (Sq.all s6)) := ⟨hM7, a3, n3, c3, rfl, hn3, hc3⟩
          clear hM7 hb7 hoa hn3 hc3 H66
          subst j0
          go_wp2
          go_loopw [10] (fun j wx => ∃ i : Nat, i ≤ n3 ∧ j = .int .i64 (i : Int) ∧ Below w7.heap.size w7 wx ∧ Mine15 LS W wx q ((k : Int) + 2) s6 F6) (fun j _ => n3 - (intOf j).toNat)
          case atStart => exact ⟨0, Nat.zero_le _, rfl, Below.refl _ _, H7.out.1⟩
          case round =>
            obtain ⟨i, hi, rfl, hbw, hM8⟩ := hrel
            have H8 : Hid (Mine15 LS W wr q ((k : Int) + 2) s6 F6 ∧ Below w7.heap.size w7 wr) := ⟨hM8, hbw⟩
            clear hM8 hbw
            by_cases hin : i < n3
            · have hin' : (i : Int) < (n3 : Int) := by omega
              have hi0 : (0 : Int) ≤ (i : Int) := by omega
              have hwi : IntKind.wrap .i64 ((i : Int) + 1) = (i : Int) + 1 := by rw [IntKind.wrap_i64]; omega
              obtain ⟨y, hy⟩ : ∃ y, s6.l[i]? = some y := ⟨s6.l[i]'(by rw [← HA.out.1]; exact hin), List.getElem?_eq_getElem _⟩
              have hay : (Sq.all s6)[i]? = some y.id := by unfold Sq.all; simp [hy]
              have hyo := H7.out.1.fine.ok y (List.mem_of_getElem? hy)
              have y1 : ¬ y.id < 1 := by have := hyo.id1; omega
              have y2 : ¬ nl < y.id := by have h1 := hyo.idn; have h2 := HA.out.2.2; omega
              have HL : Hid (Sq.has s6.l y.id = true ∧ s6.l[i]? = some y) := ⟨Sq.has_iff.2 ⟨y, List.mem_of_getElem? hy, rfl⟩, hy⟩
              obtain ⟨ga, oa, rfl, d0⟩ := H7.out.2.at15 hay
              clear hay hyo hy
              have d1 : wr.cell? ⟨ga, oa + i, none⟩ = some (.int .i64 y.id) := Below.kept H8.out.2 d0
              clear d0
              by_cases hi1 : 0 < i
              · have hi1' : (0 : Int) < (i : Int) := by omega
                obtain ⟨i', hi'⟩ : ∃ i', i = i' + 1 := ⟨i - 1, by omega⟩
                obtain ⟨z, hz⟩ : ∃ z, s6.l[i']? = some z := ⟨s6.l[i']'(by rw [← HA.out.1]; omega), List.getElem?_eq_getElem _⟩
                have hrs : ¬ y.id ≤ z.id := by
                  have := Sq.rise_lt H7.out.1.fine.rises hz HL.out.2 (by omega)
                  omega
                have haz : (Sq.all s6)[i']? = some z.id := by unfold Sq.all; simp [hz]
                obtain ⟨ga', oa', e9, d0⟩ := H7.out.2.at15 haz
                simp only [Option.some.injEq, Addr.mk.injEq, and_true] at e9
                obtain ⟨rfl, rfl⟩ := e9
                have d2 : wr.cell? ⟨ga, oa + i', none⟩ = some (.int .i64 z.id) := Below.kept H8.out.2 d0
                have hwj : IntKind.wrap .i64 ((i : Int) - 1) = (i' : Int) := by rw [IntKind.wrap_i64]; omega
                have i'0 : (0 : Int) ≤ (i' : Int) := by omega
                have i'n : (i' : Int) < (n3 : Int) := by omega
                clear hz haz d0 hi'
                go_upto_region 26 with fail
                refine wp_region_held_drew (S := fun w' => w'.cell? ⟨ga, oa + i, none⟩ = some (.int .i64 y.id) ∧ w'.cell? ⟨ga, oa + i', none⟩ = some (.int .i64 z.id)) (by kernel_rfl) ⟨d1, d2⟩ (fun _ => ?_)
                have H9 : Hid (Mine15 LS W wr.drew q ((k : Int) + 2) s6 F6 ∧ Below w7.heap.size w7 wr.drew) := ⟨H8.out.1.later HS.out (Below.refl _ _).drew, H8.out.2.drew⟩
                have HSX : Hid (∀ w', Below wr.drew.heap.size wr.drew w' → w'.cell? ⟨ga, oa + i, none⟩ = some (.int .i64 y.id) ∧ w'.cell? ⟨ga, oa + i', none⟩ = some (.int .i64 z.id)) := by
                  have h : (fun w' : World => w'.cell? ⟨ga, oa + i, none⟩ = some (.int .i64 y.id) ∧ w'.cell? ⟨ga, oa + i', none⟩ = some (.int .i64 z.id)) wr.drew := ⟨d1, d2⟩
                  exact fun w' hb => ⟨Below.kept hb h.1, Below.kept hb h.2⟩
                clear d1 d2 H8
                generalize wr.drew = wX at *
                refine' take_at (i := 0) (d := 84) (v := _) rfl rfl (by kernel_rfl) (by kernel_rfl) (by kernel_rfl) (fun _ _ _ h => h) (Or.inl ⟨by rfl, ?h0⟩) (HSX.out _ (Below.refl _ _)) ?_
                case h0 =>
                  intro w hSw
                  obtain ⟨t0, t1⟩ := hSw
                  go_simp
                  with_reducible rfl
                simp only [List.setIfInBounds_toArray, List.set_cons_zero, List.set_cons_succ]
                refine' take_at (i := 1) (d := 85) (v := _) rfl rfl (by kernel_rfl) (by kernel_rfl) (by kernel_rfl) (fun _ _ _ h => h) (Or.inl ⟨by rfl, ?h1⟩) (HSX.out _ (Below.refl _ _)) ?_
                case h1 =>
                  intro w hSw
                  obtain ⟨t0, t1⟩ := hSw
                  go_simp
                  with_reducible rfl
                simp only [List.setIfInBounds_toArray, List.set_cons_zero, List.set_cons_succ]
                refine' take_at (i := 2) (d := 86) (v := _) rfl rfl (by kernel_rfl) (by kernel_rfl) (by kernel_rfl) (fun _ _ _ h => h) (Or.inl ⟨by rfl, ?h2⟩) (HSX.out _ (Below.refl _ _)) ?_
                case h2 =>
                  intro w hSw
                  obtain ⟨t0, t1⟩ := hSw
                  go_simp
                  with_reducible rfl
                simp only [List.setIfInBounds_toArray, List.set_cons_zero, List.set_cons_succ]
                refine' take_at (i := 3) (d := 87) (v := _) rfl rfl (by kernel_rfl) (by kernel_rfl) (by kernel_rfl) (fun _ _ _ h => h) (Or.inl ⟨by rfl, ?h3⟩) (HSX.out _ (Below.refl _ _)) ?_
                case h3 =>
                  intro w hSw
                  obtain ⟨t0, t1⟩ := hSw
                  go_simp
                  with_reducible rfl
                simp only [List.setIfInBounds_toArray, List.set_cons_zero, List.set_cons_succ]
                refine' take_at (i := 4) (d := 88) (v := _) rfl rfl (by kernel_rfl) (by kernel_rfl) (by kernel_rfl) (fun _ _ _ h => h) (Or.inl ⟨by rfl, ?h4⟩) (HSX.out _ (Below.refl _ _)) ?_
                case h4 =>
                  intro w hSw
                  obtain ⟨t0, t1⟩ := hSw
                  go_simp
                  with_reducible rfl
                simp only [List.setIfInBounds_toArray, List.set_cons_zero, List.set_cons_succ]
                refine' take_at (i := 5) (d := 89) (v := _) rfl rfl (by kernel_rfl) (by kernel_rfl) (by kernel_rfl) (fun _ _ _ h => h) (Or.inl ⟨by rfl, ?h5⟩) (HSX.out _ (Below.refl _ _)) ?_
                case h5 =>
                  intro w hSw
                  obtain ⟨t0, t1⟩ := hSw
                  go_simp
                  with_reducible rfl
                simp only [List.setIfInBounds_toArray, List.set_cons_zero, List.set_cons_succ]
                refine' take_at (i := 6) (d := 90) (v := _) rfl rfl (by kernel_rfl) (by kernel_rfl) (by kernel_rfl) (fun _ _ _ h => h) (Or.inl ⟨by rfl, ?h6⟩) (HSX.out _ (Below.refl _ _)) ?_
                case h6 =>
                  intro w hSw
                  obtain ⟨t0, t1⟩ := hSw
                  go_simp
                  with_reducible rfl
                simp only [List.setIfInBounds_toArray, List.set_cons_zero, List.set_cons_succ]
                refine' take_at (i := 7) (d := 91) (v := _) rfl rfl (by kernel_rfl) (by kernel_rfl) (by kernel_rfl) (fun _ _ _ h => h) (Or.inl ⟨by rfl, ?h7⟩) (HSX.out _ (Below.refl _ _)) ?_
                case h7 =>
                  intro w hSw
                  obtain ⟨t0, t1⟩ := hSw
                  go_simp
                  with_reducible rfl
                simp only [List.setIfInBounds_toArray, List.set_cons_zero, List.set_cons_succ]
                refine' take_at (i := 8) (d := 92) (v := _) rfl rfl (by kernel_rfl) (by kernel_rfl) (by kernel_rfl) (fun _ _ _ h => h) (Or.inl ⟨by rfl, ?h8⟩) (HSX.out _ (Below.refl _ _)) ?_
                case h8 =>
                  intro w hSw
                  obtain ⟨t0, t1⟩ := hSw
                  go_simp
                  with_reducible rfl
                simp only [List.setIfInBounds_toArray, List.set_cons_zero, List.set_cons_succ]
                refine' take_at (i := 9) (d := 93) (v := _) rfl rfl (by kernel_rfl) (by kernel_rfl) (by kernel_rfl) (fun _ _ _ h => h) (Or.inl ⟨by rfl, ?h9⟩) (HSX.out _ (Below.refl _ _)) ?_
                case h9 =>
                  intro w hSw
                  obtain ⟨t0, t1⟩ := hSw
                  go_simp
                  with_reducible rfl
                simp only [List.setIfInBounds_toArray, List.set_cons_zero, List.set_cons_succ]
                refine' take_at (i := 10) (d := 94) (v := _) rfl rfl (by kernel_rfl) (by kernel_rfl) (by kernel_rfl) (fun _ _ _ h => h) (Or.inl ⟨by rfl, ?h10⟩) (HSX.out _ (Below.refl _ _)) ?_
                case h10 =>
                  intro w hSw
                  obtain ⟨t0, t1⟩ := hSw
                  go_simp
                  with_reducible rfl
                simp only [List.setIfInBounds_toArray, List.set_cons_zero, List.set_cons_succ]
                refine' take_at (i := 11) (d := 95) (v := _) rfl rfl (by kernel_rfl) (by kernel_rfl) (by kernel_rfl) (fun _ _ _ h => h) (Or.inl ⟨by rfl, ?h11⟩) (HSX.out _ (Below.refl _ _)) ?_
                case h11 =>
                  intro w hSw
                  obtain ⟨t0, t1⟩ := hSw
                  go_simp
                  with_reducible rfl
                simp only [List.setIfInBounds_toArray, List.set_cons_zero, List.set_cons_succ]
                refine' take_at (i := 12) (d := 96) (v := _) rfl rfl (by kernel_rfl) (by kernel_rfl) (by kernel_rfl) (fun _ _ _ h => h) (Or.inl ⟨by rfl, ?h12⟩) (HSX.out _ (Below.refl _ _)) ?_
                case h12 =>
                  intro w hSw
                  obtain ⟨t0, t1⟩ := hSw
                  go_simp
                  with_reducible rfl
                simp only [List.setIfInBounds_toArray, List.set_cons_zero, List.set_cons_succ]
                refine' take_at (i := 13) (d := 97) (v := _) rfl rfl (by kernel_rfl) (by kernel_rfl) (by kernel_rfl) (fun _ _ _ h => h) (Or.inl ⟨by rfl, ?h13⟩) (HSX.out _ (Below.refl _ _)) ?_
                case h13 =>
                  intro w hSw
                  obtain ⟨t0, t1⟩ := hSw
                  go_simp
                  with_reducible rfl
                simp only [List.setIfInBounds_toArray, List.set_cons_zero, List.set_cons_succ]
                refine' take_at (i := 14) (d := 98) (v := _) rfl rfl (by kernel_rfl) (by kernel_rfl) (by kernel_rfl) (fun _ _ _ h => h) (Or.inl ⟨by rfl, ?h14⟩) (HSX.out _ (Below.refl _ _)) ?_
                case h14 =>
                  intro w hSw
                  obtain ⟨t0, t1⟩ := hSw
                  go_simp
                  with_reducible rfl
                simp only [List.setIfInBounds_toArray, List.set_cons_zero, List.set_cons_succ]
                refine' take_at (i := 15) (d := 99) (v := _) rfl rfl (by kernel_rfl) (by kernel_rfl) (by kernel_rfl) (fun _ _ _ h => h) (Or.inl ⟨by rfl, ?h15⟩) (HSX.out _ (Below.refl _ _)) ?_
                case h15 =>
                  intro w hSw
                  obtain ⟨t0, t1⟩ := hSw
                  go_simp
                  with_reducible rfl
                simp only [List.setIfInBounds_toArray, List.set_cons_zero, List.set_cons_succ]
                refine' take_at (i := 16) (d := 100) (v := _) rfl rfl (by kernel_rfl) (by kernel_rfl) (by kernel_rfl) (fun _ _ _ h => h) (Or.inl ⟨by rfl, ?h16⟩) (HSX.out _ (Below.refl _ _)) ?_
                case h16 =>
                  intro w hSw
                  obtain ⟨t0, t1⟩ := hSw
                  go_simp
                  with_reducible rfl
                simp only [List.setIfInBounds_toArray, List.set_cons_zero, List.set_cons_succ]
                refine' take_at (i := 17) (d := 101) (v := _) rfl rfl (by kernel_rfl) (by kernel_rfl) (by kernel_rfl) (fun _ _ _ h => h) (Or.inl ⟨by rfl, ?h17⟩) (HSX.out _ (Below.refl _ _)) ?_
                case h17 =>
                  intro w hSw
                  obtain ⟨t0, t1⟩ := hSw
                  go_simp
                  with_reducible rfl
                simp only [List.setIfInBounds_toArray, List.set_cons_zero, List.set_cons_succ]
                refine' take_at (i := 18) (d := 102) (v := _) rfl rfl (by kernel_rfl) (by kernel_rfl) (by kernel_rfl) (fun _ _ _ h => h) (Or.inl ⟨by rfl, ?h18⟩) (HSX.out _ (Below.refl _ _)) ?_
                case h18 =>
                  intro w hSw
                  obtain ⟨t0, t1⟩ := hSw
                  go_simp
                  with_reducible rfl
                simp only [List.setIfInBounds_toArray, List.set_cons_zero, List.set_cons_succ]
                refine' take_at (i := 19) (d := 103) (v := _) rfl rfl (by kernel_rfl) (by kernel_rfl) (by kernel_rfl) (fun _ _ _ h => h) (Or.inl ⟨by rfl, ?h19⟩) (HSX.out _ (Below.refl _ _)) ?_
                case h19 =>
                  intro w hSw
                  obtain ⟨t0, t1⟩ := hSw
                  go_simp
                  with_reducible rfl
                simp only [List.setIfInBounds_toArray, List.set_cons_zero, List.set_cons_succ]
                refine' take_at (i := 20) (d := 104) (v := _) rfl rfl (by kernel_rfl) (by kernel_rfl) (by kernel_rfl) (fun _ _ _ h => h) (Or.inl ⟨by rfl, ?h20⟩) (HSX.out _ (Below.refl _ _)) ?_
                case h20 =>
                  intro w hSw
                  obtain ⟨t0, t1⟩ := hSw
                  go_simp
                  with_reducible rfl
                simp only [List.setIfInBounds_toArray, List.set_cons_zero, List.set_cons_succ]
                refine' take_at (i := 21) (d := 105) (v := _) rfl rfl (by kernel_rfl) (by kernel_rfl) (by kernel_rfl) (fun _ _ _ h => h) (Or.inl ⟨by rfl, ?h21⟩) (HSX.out _ (Below.refl _ _)) ?_
                case h21 =>
                  intro w hSw
                  obtain ⟨t0, t1⟩ := hSw
                  go_simp
                  with_reducible rfl
                simp only [List.setIfInBounds_toArray, List.set_cons_zero, List.set_cons_succ]
                refine' take_at (i := 22) (d := 106) (v := _) rfl rfl (by kernel_rfl) (by kernel_rfl) (by kernel_rfl) (fun _ _ _ h => h) (Or.inl ⟨by rfl, ?h22⟩) (HSX.out _ (Below.refl _ _)) ?_
                case h22 =>
                  intro w hSw
                  obtain ⟨t0, t1⟩ := hSw
                  go_simp
                  with_reducible rfl
                simp only [List.setIfInBounds_toArray, List.set_cons_zero, List.set_cons_succ]
                refine' take_at (i := 23) (d := 107) (v := _) rfl rfl (by kernel_rfl) (by kernel_rfl) (by kernel_rfl) (fun _ _ _ h => h) (Or.inl ⟨by rfl, ?h23⟩) (HSX.out _ (Below.refl _ _)) ?_
                case h23 =>
                  intro w hSw
                  obtain ⟨t0, t1⟩ := hSw
                  go_simp
                  with_reducible rfl
                simp only [List.setIfInBounds_toArray, List.set_cons_zero, List.set_cons_succ]
                refine' take_at (i := 24) (d := 108) (v := _) rfl rfl (by kernel_rfl) (by kernel_rfl) (by kernel_rfl) (fun _ _ _ h => h) (Or.inl ⟨by rfl, ?h24⟩) (HSX.out _ (Below.refl _ _)) ?_
                case h24 =>
                  intro w hSw
                  obtain ⟨t0, t1⟩ := hSw
                  go_simp
                  with_reducible rfl
                simp only [List.setIfInBounds_toArray, List.set_cons_zero, List.set_cons_succ]
                refine' take_at (i := 25) (d := 109) (v := _) rfl rfl (by kernel_rfl) (by kernel_rfl) (by kernel_rfl) (fun _ _ _ h => h) (Or.inl ⟨by rfl, ?h25⟩) (HSX.out _ (Below.refl _ _)) ?_
                case h25 =>
                  intro w hSw
                  obtain ⟨t0, t1⟩ := hSw
                  go_simp
                  with_reducible rfl
                simp only [List.setIfInBounds_toArray, List.set_cons_zero, List.set_cons_succ]
                refine' take_at (i := 26) (d := 110) (v := _) rfl rfl (by kernel_rfl) (by kernel_rfl) (by kernel_rfl) (fun _ _ _ h => h) (Or.inl ⟨by rfl, ?h26⟩) (HSX.out _ (Below.refl _ _)) ?_
                case h26 =>
                  intro w hSw
                  obtain ⟨t0, t1⟩ := hSw
                  go_simp
                  with_reducible rfl
                simp only [List.setIfInBounds_toArray, List.set_cons_zero, List.set_cons_succ]
                refine' take_at (i := 27) (d := 111) (v := _) rfl rfl (by kernel_rfl) (by kernel_rfl) (by kernel_rfl) (fun _ _ _ h => h) (Or.inl ⟨by rfl, ?h27⟩) (HSX.out _ (Below.refl _ _)) ?_
                case h27 =>
                  intro w hSw
                  obtain ⟨t0, t1⟩ := hSw
                  go_simp
                  with_reducible rfl
                simp only [List.setIfInBounds_toArray, List.set_cons_zero, List.set_cons_succ]
                refine' take_at (i := 28) (d := 112) (v := _) rfl rfl (by kernel_rfl) (by kernel_rfl) (by kernel_rfl) (fun _ _ _ h => h) (Or.inl ⟨by rfl, ?h28⟩) (HSX.out _ (Below.refl _ _)) ?_
                case h28 =>
                  intro w hSw
                  obtain ⟨t0, t1⟩ := hSw
                  go_simp
                  with_reducible rfl
                simp only [List.setIfInBounds_toArray, List.set_cons_zero, List.set_cons_succ]
                refine' take_at (i := 29) (d := 113) (v := _) rfl rfl (by kernel_rfl) (by kernel_rfl) (by kernel_rfl) (fun _ _ _ h => h) (Or.inl ⟨by rfl, ?h29⟩) (HSX.out _ (Below.refl _ _)) ?_
                case h29 =>
                  intro w hSw
                  obtain ⟨t0, t1⟩ := hSw
                  go_simp
                  with_reducible rfl
                simp only [List.setIfInBounds_toArray, List.set_cons_zero, List.set_cons_succ]
                refine' take_at (i := 30) (d := 114) (v := _) rfl rfl (by kernel_rfl) (by kernel_rfl) (by kernel_rfl) (fun _ _ _ h => h) (Or.inl ⟨by rfl, ?h30⟩) (HSX.out _ (Below.refl _ _)) ?_
                case h30 =>
                  intro w hSw
                  obtain ⟨t0, t1⟩ := hSw
                  go_simp
                  with_reducible rfl
                simp only [List.setIfInBounds_toArray, List.set_cons_zero, List.set_cons_succ]
                refine' take_at (i := 31) (d := 115) (v := _) rfl rfl (by kernel_rfl) (by kernel_rfl) (by kernel_rfl) (fun _ _ _ h => h) (Or.inl ⟨by rfl, ?h31⟩) (HSX.out _ (Below.refl _ _)) ?_
                case h31 =>
                  intro w hSw
                  obtain ⟨t0, t1⟩ := hSw
                  go_simp
                  with_reducible rfl
                simp only [List.setIfInBounds_toArray, List.set_cons_zero, List.set_cons_succ]
                refine' take_at (i := 32) (d := 116) (v := _) rfl rfl (by kernel_rfl) (by kernel_rfl) (by kernel_rfl) (fun _ _ _ h => h) (Or.inl ⟨by rfl, ?h32⟩) (HSX.out _ (Below.refl _ _)) ?_
                case h32 =>
                  intro w hSw
                  obtain ⟨t0, t1⟩ := hSw
                  go_simp
                  with_reducible rfl
                simp only [List.setIfInBounds_toArray, List.set_cons_zero, List.set_cons_succ]
                refine' take_at (i := 33) (d := 117) (v := _) rfl rfl (by kernel_rfl) (by kernel_rfl) (by kernel_rfl) (fun _ _ _ h => h) (Or.inl ⟨by rfl, ?h33⟩) (HSX.out _ (Below.refl _ _)) ?_
                case h33 =>
                  intro w hSw
                  obtain ⟨t0, t1⟩ := hSw
                  go_simp
                  with_reducible rfl
                simp only [List.setIfInBounds_toArray, List.set_cons_zero, List.set_cons_succ]
                refine' take_at (i := 34) (d := 118) (v := _) rfl rfl (by kernel_rfl) (by kernel_rfl) (by kernel_rfl) (fun _ _ _ h => h) (Or.inl ⟨by rfl, ?h34⟩) (HSX.out _ (Below.refl _ _)) ?_
                case h34 =>
                  intro w hSw
                  obtain ⟨t0, t1⟩ := hSw
                  go_simp
                  with_reducible rfl
                simp only [List.setIfInBounds_toArray, List.set_cons_zero, List.set_cons_succ]
                refine wpAnyH_ready (rs := [35]) (by kernel_rfl) (by simp) ?_
                refine AllReadyH.cons (o := _) rfl (fun KQ hKQ => ?_) AllReadyH.nil
                go_simp
                refine (H9.out.1.live HS.out y.id true HL.out.1).mono ?_
                rintro e w10 ⟨rfl, hM10, hb10⟩
                have H10 : Hid (Mine15 LS W w10 q ((k : Int) + 2) s6 F6 ∧ Below w7.heap.size w7 w10 ∧ Below wX.heap.size wX w10) := ⟨hM10, H9.out.2.trans (hb10.mono H9.out.2.size), hb10⟩
                clear hM10 hb10
                refine hKQ.out _ _ (HSX.out _ H10.out.2.2) (fun _ => ?_)
                clear hKQ KQ
                refine' take_at (i := 36) (d := 120) (v := _) rfl rfl (by kernel_rfl) (by kernel_rfl) (by kernel_rfl) (fun _ _ _ h => h) (Or.inl ⟨by rfl, ?h36⟩) (HSX.out _ H10.out.2.2) ?_
                case h36 =>
                  intro w hSw
                  clear hSw
                  go_simp
                  with_reducible rfl
                simp only [List.setIfInBounds_toArray, List.set_cons_zero, List.set_cons_succ]
                refine' take_at (i := 37) (d := 121) (v := _) rfl rfl (by kernel_rfl) (by kernel_rfl) (by kernel_rfl) (fun _ _ _ h => h) (Or.inl ⟨by rfl, ?h37⟩) (HSX.out _ H10.out.2.2) ?_
                case h37 =>
                  intro w hSw
                  clear hSw
                  go_simp
                  with_reducible rfl
                simp only [List.setIfInBounds_toArray, List.set_cons_zero, List.set_cons_succ]
                refine wpAnyH_done (by kernel_rfl) ?_ _
                go_wp2
                go_roundw
                case rel => exact ⟨i + 1, by omega, by go_num, H10.out.2.1, H10.out.1⟩
                case measure => simp [intOf]; omega
              · obtain rfl : i = 0 := by omega
                rw [Nat.add_zero] at d1
                go_upto_region 26 with fail
                refine wp_region_held_drew (S := fun w' => w'.cell? ⟨ga, oa, none⟩ = some (.int .i64 y.id)) (by kernel_rfl) d1 (fun _ => ?_)
                have H9 : Hid (Mine15 LS W wr.drew q ((k : Int) + 2) s6 F6 ∧ Below w7.heap.size w7 wr.drew) := ⟨H8.out.1.later HS.out (Below.refl _ _).drew, H8.out.2.drew⟩
                have HSX : Hid (∀ w', Below wr.drew.heap.size wr.drew w' → w'.cell? ⟨ga, oa, none⟩ = some (.int .i64 y.id)) := by
                  have h : (fun w' : World => w'.cell? ⟨ga, oa, none⟩ = some (.int .i64 y.id)) wr.drew := d1
                  exact fun w' hb => Below.kept hb h
                clear d1 H8
                generalize wr.drew = wX at *
                refine' take_at (i := 0) (d := 84) (v := _) rfl rfl (by kernel_rfl) (by kernel_rfl) (by kernel_rfl) (fun _ _ _ h => h) (Or.inl ⟨by rfl, ?h0⟩) (HSX.out _ (Below.refl _ _)) ?_
                case h0 =>
                  intro w hSw
                  have t0 := hSw
                  go_simp
                  with_reducible rfl
                simp only [List.setIfInBounds_toArray, List.set_cons_zero, List.set_cons_succ]
                refine' take_at (i := 1) (d := 85) (v := _) rfl rfl (by kernel_rfl) (by kernel_rfl) (by kernel_rfl) (fun _ _ _ h => h) (Or.inl ⟨by rfl, ?h1⟩) (HSX.out _ (Below.refl _ _)) ?_
                case h1 =>
                  intro w hSw
                  have t0 := hSw
                  go_simp
                  with_reducible rfl
                simp only [List.setIfInBounds_toArray, List.set_cons_zero, List.set_cons_succ]
                refine' take_at (i := 2) (d := 86) (v := _) rfl rfl (by kernel_rfl) (by kernel_rfl) (by kernel_rfl) (fun _ _ _ h => h) (Or.inl ⟨by rfl, ?h2⟩) (HSX.out _ (Below.refl _ _)) ?_
                case h2 =>
                  intro w hSw
                  have t0 := hSw
                  go_simp
                  with_reducible rfl
                simp only [List.setIfInBounds_toArray, List.set_cons_zero, List.set_cons_succ]
                refine' take_at (i := 3) (d := 87) (v := _) rfl rfl (by kernel_rfl) (by kernel_rfl) (by kernel_rfl) (fun _ _ _ h => h) (Or.inl ⟨by rfl, ?h3⟩) (HSX.out _ (Below.refl _ _)) ?_
                case h3 =>
                  intro w hSw
                  have t0 := hSw
                  go_simp
                  with_reducible rfl
                simp only [List.setIfInBounds_toArray, List.set_cons_zero, List.set_cons_succ]
                refine' take_at (i := 4) (d := 88) (v := _) rfl rfl (by kernel_rfl) (by kernel_rfl) (by kernel_rfl) (fun _ _ _ h => h) (Or.inl ⟨by rfl, ?h4⟩) (HSX.out _ (Below.refl _ _)) ?_
                case h4 =>
                  intro w hSw
                  have t0 := hSw
                  go_simp
                  with_reducible rfl
                simp only [List.setIfInBounds_toArray, List.set_cons_zero, List.set_cons_succ]
                refine' take_at (i := 5) (d := 89) (v := _) rfl rfl (by kernel_rfl) (by kernel_rfl) (by kernel_rfl) (fun _ _ _ h => h) (Or.inl ⟨by rfl, ?h5⟩) (HSX.out _ (Below.refl _ _)) ?_
                case h5 =>
                  intro w hSw
                  have t0 := hSw
                  go_simp
                  with_reducible rfl
                simp only [List.setIfInBounds_toArray, List.set_cons_zero, List.set_cons_succ]
                refine' take_at (i := 6) (d := 90) (v := _) rfl rfl (by kernel_rfl) (by kernel_rfl) (by kernel_rfl) (fun _ _ _ h => h) (Or.inl ⟨by rfl, ?h6⟩) (HSX.out _ (Below.refl _ _)) ?_
                case h6 =>
                  intro w hSw
                  have t0 := hSw
                  go_simp
                  with_reducible rfl
                simp only [List.setIfInBounds_toArray, List.set_cons_zero, List.set_cons_succ]
                refine' take_at (i := 7) (d := 91) (v := _) rfl rfl (by kernel_rfl) (by kernel_rfl) (by kernel_rfl) (fun _ _ _ h => h) (Or.inl ⟨by rfl, ?h7⟩) (HSX.out _ (Below.refl _ _)) ?_
                case h7 =>
                  intro w hSw
                  have t0 := hSw
                  go_simp
                  with_reducible rfl
                simp only [List.setIfInBounds_toArray, List.set_cons_zero, List.set_cons_succ]
                refine' take_at (i := 8) (d := 92) (v := _) rfl rfl (by kernel_rfl) (by kernel_rfl) (by kernel_rfl) (fun _ _ _ h => h) (Or.inl ⟨by rfl, ?h8⟩) (HSX.out _ (Below.refl _ _)) ?_
                case h8 =>
                  intro w hSw
                  have t0 := hSw
                  go_simp
                  with_reducible rfl
                simp only [List.setIfInBounds_toArray, List.set_cons_zero, List.set_cons_succ]
                refine' take_at (i := 9) (d := 93) (v := _) rfl rfl (by kernel_rfl) (by kernel_rfl) (by kernel_rfl) (fun _ _ _ h => h) (Or.inl ⟨by rfl, ?h9⟩) (HSX.out _ (Below.refl _ _)) ?_
                case h9 =>
                  intro w hSw
                  have t0 := hSw
                  go_simp
                  with_reducible rfl
                simp only [List.setIfInBounds_toArray, List.set_cons_zero, List.set_cons_succ]
                refine' take_at (i := 10) (d := 94) (v := _) rfl rfl (by kernel_rfl) (by kernel_rfl) (by kernel_rfl) (fun _ _ _ h => h) (Or.inl ⟨by rfl, ?h10⟩) (HSX.out _ (Below.refl _ _)) ?_
                case h10 =>
                  intro w hSw
                  have t0 := hSw
                  go_simp
                  with_reducible rfl
                simp only [List.setIfInBounds_toArray, List.set_cons_zero, List.set_cons_succ]
                refine' take_at (i := 11) (d := 95) (v := _) rfl rfl (by kernel_rfl) (by kernel_rfl) (by kernel_rfl) (fun _ _ _ h => h) (Or.inl ⟨by rfl, ?h11⟩) (HSX.out _ (Below.refl _ _)) ?_
                case h11 =>
                  intro w hSw
                  have t0 := hSw
                  go_simp
                  with_reducible rfl
                simp only [List.setIfInBounds_toArray, List.set_cons_zero, List.set_cons_succ]
                refine' take_at (i := 12) (d := 96) (v := _) rfl rfl (by kernel_rfl) (by kernel_rfl) (by kernel_rfl) (fun _ _ _ h => h) (Or.inl ⟨by rfl, ?h12⟩) (HSX.out _ (Below.refl _ _)) ?_
                case h12 =>
                  intro w hSw
                  have t0 := hSw
                  go_simp
                  with_reducible rfl
                simp only [List.setIfInBounds_toArray, List.set_cons_zero, List.set_cons_succ]
                refine' take_at (i := 13) (d := 97) (v := _) rfl rfl (by kernel_rfl) (by kernel_rfl) (by kernel_rfl) (fun _ _ _ h => h) (Or.inl ⟨by rfl, ?h13⟩) (HSX.out _ (Below.refl _ _)) ?_
                case h13 =>
                  intro w hSw
                  have t0 := hSw
                  go_simp
                  with_reducible rfl
                simp only [List.setIfInBounds_toArray, List.set_cons_zero, List.set_cons_succ]
                refine' take_at (i := 14) (d := 98) (v := _) rfl rfl (by kernel_rfl) (by kernel_rfl) (by kernel_rfl) (fun _ _ _ h => h) (Or.inl ⟨by rfl, ?h14⟩) (HSX.out _ (Below.refl _ _)) ?_
                case h14 =>
                  intro w hSw
                  have t0 := hSw
                  go_simp
                  with_reducible rfl
                simp only [List.setIfInBounds_toArray, List.set_cons_zero, List.set_cons_succ]
                refine' take_at (i := 15) (d := 99) (v := _) rfl rfl (by kernel_rfl) (by kernel_rfl) (by kernel_rfl) (fun _ _ _ h => h) (Or.inl ⟨by rfl, ?h15⟩) (HSX.out _ (Below.refl _ _)) ?_
                case h15 =>
                  intro w hSw
                  have t0 := hSw
                  go_simp
                  with_reducible rfl
                simp only [List.setIfInBounds_toArray, List.set_cons_zero, List.set_cons_succ]
                refine' take_at (i := 16) (d := 100) (v := _) rfl rfl (by kernel_rfl) (by kernel_rfl) (by kernel_rfl) (fun _ _ _ h => h) (Or.inl ⟨by rfl, ?h16⟩) (HSX.out _ (Below.refl _ _)) ?_
                case h16 =>
                  intro w hSw
                  have t0 := hSw
                  go_simp
                  with_reducible rfl
                simp only [List.setIfInBounds_toArray, List.set_cons_zero, List.set_cons_succ]
                refine' take_at (i := 17) (d := 101) (v := undef) rfl rfl (by kernel_rfl) (by kernel_rfl) (by kernel_rfl) (fun _ _ _ h => h) (Or.inr ⟨by rfl, rfl⟩) (HSX.out _ (Below.refl _ _)) ?_
                simp only [List.setIfInBounds_toArray, List.set_cons_zero, List.set_cons_succ]
                refine' take_at (i := 18) (d := 102) (v := undef) rfl rfl (by kernel_rfl) (by kernel_rfl) (by kernel_rfl) (fun _ _ _ h => h) (Or.inr ⟨by rfl, rfl⟩) (HSX.out _ (Below.refl _ _)) ?_
                simp only [List.setIfInBounds_toArray, List.set_cons_zero, List.set_cons_succ]
                refine' take_at (i := 19) (d := 103) (v := undef) rfl rfl (by kernel_rfl) (by kernel_rfl) (by kernel_rfl) (fun _ _ _ h => h) (Or.inr ⟨by rfl, rfl⟩) (HSX.out _ (Below.refl _ _)) ?_
                simp only [List.setIfInBounds_toArray, List.set_cons_zero, List.set_cons_succ]
                refine' take_at (i := 20) (d := 104) (v := undef) rfl rfl (by kernel_rfl) (by kernel_rfl) (by kernel_rfl) (fun _ _ _ h => h) (Or.inr ⟨by rfl, rfl⟩) (HSX.out _ (Below.refl _ _)) ?_
                simp only [List.setIfInBounds_toArray, List.set_cons_zero, List.set_cons_succ]
                refine' take_at (i := 21) (d := 105) (v := undef) rfl rfl (by kernel_rfl) (by kernel_rfl) (by kernel_rfl) (fun _ _ _ h => h) (Or.inr ⟨by rfl, rfl⟩) (HSX.out _ (Below.refl _ _)) ?_
                simp only [List.setIfInBounds_toArray, List.set_cons_zero, List.set_cons_succ]
                refine' take_at (i := 22) (d := 106) (v := undef) rfl rfl (by kernel_rfl) (by kernel_rfl) (by kernel_rfl) (fun _ _ _ h => h) (Or.inr ⟨by rfl, rfl⟩) (HSX.out _ (Below.refl _ _)) ?_
                simp only [List.setIfInBounds_toArray, List.set_cons_zero, List.set_cons_succ]
                refine' take_at (i := 23) (d := 107) (v := undef) rfl rfl (by kernel_rfl) (by kernel_rfl) (by kernel_rfl) (fun _ _ _ h => h) (Or.inr ⟨by rfl, rfl⟩) (HSX.out _ (Below.refl _ _)) ?_
                simp only [List.setIfInBounds_toArray, List.set_cons_zero, List.set_cons_succ]
                refine' take_at (i := 24) (d := 108) (v := undef) rfl rfl (by kernel_rfl) (by kernel_rfl) (by kernel_rfl) (fun _ _ _ h => h) (Or.inr ⟨by rfl, rfl⟩) (HSX.out _ (Below.refl _ _)) ?_
                simp only [List.setIfInBounds_toArray, List.set_cons_zero, List.set_cons_succ]
                refine' take_at (i := 25) (d := 109) (v := undef) rfl rfl (by kernel_rfl) (by kernel_rfl) (by kernel_rfl) (fun _ _ _ h => h) (Or.inr ⟨by rfl, rfl⟩) (HSX.out _ (Below.refl _ _)) ?_
                simp only [List.setIfInBounds_toArray, List.set_cons_zero, List.set_cons_succ]
                refine' take_at (i := 26) (d := 110) (v := undef) rfl rfl (by kernel_rfl) (by kernel_rfl) (by kernel_rfl) (fun _ _ _ h => h) (Or.inr ⟨by rfl, rfl⟩) (HSX.out _ (Below.refl _ _)) ?_
                simp only [List.setIfInBounds_toArray, List.set_cons_zero, List.set_cons_succ]
                refine' take_at (i := 27) (d := 111) (v := _) rfl rfl (by kernel_rfl) (by kernel_rfl) (by kernel_rfl) (fun _ _ _ h => h) (Or.inl ⟨by rfl, ?h27⟩) (HSX.out _ (Below.refl _ _)) ?_
                case h27 =>
                  intro w hSw
                  have t0 := hSw
                  go_simp
                  with_reducible rfl
                simp only [List.setIfInBounds_toArray, List.set_cons_zero, List.set_cons_succ]
                refine' take_at (i := 28) (d := 112) (v := _) rfl rfl (by kernel_rfl) (by kernel_rfl) (by kernel_rfl) (fun _ _ _ h => h) (Or.inl ⟨by rfl, ?h28⟩) (HSX.out _ (Below.refl _ _)) ?_
                case h28 =>
                  intro w hSw
                  have t0 := hSw
                  go_simp
                  with_reducible rfl
                simp only [List.setIfInBounds_toArray, List.set_cons_zero, List.set_cons_succ]
                refine' take_at (i := 29) (d := 113) (v := _) rfl rfl (by kernel_rfl) (by kernel_rfl) (by kernel_rfl) (fun _ _ _ h => h) (Or.inl ⟨by rfl, ?h29⟩) (HSX.out _ (Below.refl _ _)) ?_
                case h29 =>
                  intro w hSw
                  have t0 := hSw
                  go_simp
                  with_reducible rfl
                simp only [List.setIfInBounds_toArray, List.set_cons_zero, List.set_cons_succ]
                refine' take_at (i := 30) (d := 114) (v := _) rfl rfl (by kernel_rfl) (by kernel_rfl) (by kernel_rfl) (fun _ _ _ h => h) (Or.inl ⟨by rfl, ?h30⟩) (HSX.out _ (Below.refl _ _)) ?_
                case h30 =>
                  intro w hSw
                  have t0 := hSw
                  go_simp
                  with_reducible rfl
                simp only [List.setIfInBounds_toArray, List.set_cons_zero, List.set_cons_succ]
                refine' take_at (i := 31) (d := 115) (v := _) rfl rfl (by kernel_rfl) (by kernel_rfl) (by kernel_rfl) (fun _ _ _ h => h) (Or.inl ⟨by rfl, ?h31⟩) (HSX.out _ (Below.refl _ _)) ?_
                case h31 =>
                  intro w hSw
                  have t0 := hSw
                  go_simp
                  with_reducible rfl
                simp only [List.setIfInBounds_toArray, List.set_cons_zero, List.set_cons_succ]
                refine' take_at (i := 32) (d := 116) (v := _) rfl rfl (by kernel_rfl) (by kernel_rfl) (by kernel_rfl) (fun _ _ _ h => h) (Or.inl ⟨by rfl, ?h32⟩) (HSX.out _ (Below.refl _ _)) ?_
                case h32 =>
                  intro w hSw
                  have t0 := hSw
                  go_simp
                  with_reducible rfl
                simp only [List.setIfInBounds_toArray, List.set_cons_zero, List.set_cons_succ]
                refine' take_at (i := 33) (d := 117) (v := _) rfl rfl (by kernel_rfl) (by kernel_rfl) (by kernel_rfl) (fun _ _ _ h => h) (Or.inl ⟨by rfl, ?h33⟩) (HSX.out _ (Below.refl _ _)) ?_
                case h33 =>
                  intro w hSw
                  have t0 := hSw
                  go_simp
                  with_reducible rfl
                simp only [List.setIfInBounds_toArray, List.set_cons_zero, List.set_cons_succ]
                refine' take_at (i := 34) (d := 118) (v := _) rfl rfl (by kernel_rfl) (by kernel_rfl) (by kernel_rfl) (fun _ _ _ h => h) (Or.inl ⟨by rfl, ?h34⟩) (HSX.out _ (Below.refl _ _)) ?_
                case h34 =>
                  intro w hSw
                  have t0 := hSw
                  go_simp
                  with_reducible rfl
                simp only [List.setIfInBounds_toArray, List.set_cons_zero, List.set_cons_succ]
                refine wpAnyH_ready (rs := [35]) (by kernel_rfl) (by simp) ?_
                refine AllReadyH.cons (o := _) rfl (fun KQ hKQ => ?_) AllReadyH.nil
                go_simp
                refine (H9.out.1.live HS.out y.id true HL.out.1).mono ?_
                rintro e w10 ⟨rfl, hM10, hb10⟩
                have H10 : Hid (Mine15 LS W w10 q ((k : Int) + 2) s6 F6 ∧ Below w7.heap.size w7 w10 ∧ Below wX.heap.size wX w10) := ⟨hM10, H9.out.2.trans (hb10.mono H9.out.2.size), hb10⟩
                clear hM10 hb10
                refine hKQ.out _ _ (HSX.out _ H10.out.2.2) (fun _ => ?_)
                clear hKQ KQ
                refine' take_at (i := 36) (d := 120) (v := _) rfl rfl (by kernel_rfl) (by kernel_rfl) (by kernel_rfl) (fun _ _ _ h => h) (Or.inl ⟨by rfl, ?h36⟩) (HSX.out _ H10.out.2.2) ?_
                case h36 =>
                  intro w hSw
                  clear hSw
                  go_simp
                  with_reducible rfl
                simp only [List.setIfInBounds_toArray, List.set_cons_zero, List.set_cons_succ]
                refine' take_at (i := 37) (d := 121) (v := _) rfl rfl (by kernel_rfl) (by kernel_rfl) (by kernel_rfl) (fun _ _ _ h => h) (Or.inl ⟨by rfl, ?h37⟩) (HSX.out _ H10.out.2.2) ?_
                case h37 =>
                  intro w hSw
                  clear hSw
                  go_simp
                  with_reducible rfl
                simp only [List.setIfInBounds_toArray, List.set_cons_zero, List.set_cons_succ]
                refine wpAnyH_done (by kernel_rfl) ?_ _
                go_wp2
                go_roundw
                case rel => exact ⟨0 + 1, by omega, by go_num, H10.out.2.1, H10.out.1⟩
                case measure => simp [intOf]; omega
            · have hin' : ¬ (i : Int) < (n3 : Int) := by omega
              have hn5 : ¬ (5 : Int) < (n3 : Int) := by omega
              go_wp2
              go_roundw
              case rel => exact ⟨k + 1, nl, s6, F6, by omega, by go_num, rfl, by rw [show ((k + 1 : Nat) : Int) + 1 = (k : Int) + 2 by omega]; exact H8.out.1, HA.out.2.1, HA.out.2.2⟩
              case measure => simp [intOf]; omega
        · have hzb : (zb == 0) = false := by simp [hb0]
          subst hs6
          have HRN : Hid (s6.room = 5 ∧ s6.next = last + 1) := H3.out.2
          clear hb0 hor H3
          clear c0 c1 c2
          obtain ⟨A, hA⟩ : ∃ A, A = s6.l.length := ⟨_, rfl⟩
          have HA : Hid (A = s6.l.length ∧ s6.room = 5 ∧ s6.next = last + 1) := ⟨hA, HRN.out.1, HRN.out.2⟩
          have hA5 : A ≤ 5 := by have h1 := H6.out.fine.len; have h2 := HA.out.2.1; omega
          clear hA
          go_wp2_with fail
          refine (H6.out.all HS.out).mono ?_
          rintro e w7 ⟨va, rfl, hia, hoa, hM7, hb7⟩
          obtain ⟨a3, n3, c3, rfl, hn3, hc3⟩ := hia
          have j0 : n3 = A := by rw [hn3, HA.out.1]; unfold Sq.all; simp
          have H7 : Hid (Mine15 LS W w7 q ((k : Int) + 2) s6 F6 ∧ Bi w7 (.slice a3 n3 c3) (Sq.all s6)) := ⟨hM7, a3, n3, c3, rfl, hn3, hc3⟩
          clear hM7 hb7 hoa hn3 hc3 H6
          subst j0
          go_wp2
          go_loopw [10] (fun j wx => ∃ i : Nat, i ≤ n3 ∧ j = .int .i64 (i : Int) ∧ Below w7.heap.size w7 wx ∧ Mine15 LS W wx q ((k : Int) + 2) s6 F6) (fun j _ => n3 - (intOf j).toNat)
          case atStart => exact ⟨0, Nat.zero_le _, rfl, Below.refl _ _, H7.out.1⟩
          case round =>
            obtain ⟨i, hi, rfl, hbw, hM8⟩ := hrel
            have H8 : Hid (Mine15 LS W wr q ((k : Int) + 2) s6 F6 ∧ Below w7.heap.size w7 wr) := ⟨hM8, hbw⟩
            clear hM8 hbw
            by_cases hin : i < n3
            · have hin' : (i : Int) < (n3 : Int) := by omega
              have hi0 : (0 : Int) ≤ (i : Int) := by omega
              have hwi : IntKind.wrap .i64 ((i : Int) + 1) = (i : Int) + 1 := by rw [IntKind.wrap_i64]; omega
              obtain ⟨y, hy⟩ : ∃ y, s6.l[i]? = some y := ⟨s6.l[i]'(by rw [← HA.out.1]; exact hin), List.getElem?_eq_getElem _⟩
              have hay : (Sq.all s6)[i]? = some y.id := by unfold Sq.all; simp [hy]
              have hyo := H7.out.1.fine.ok y (List.mem_of_getElem? hy)
              have y1 : ¬ y.id < 1 := by have := hyo.id1; omega
              have y2 : ¬ last < y.id := by have h1 := hyo.idn; have h2 := HA.out.2.2; omega
              have HL : Hid (Sq.has s6.l y.id = true ∧ s6.l[i]? = some y) := ⟨Sq.has_iff.2 ⟨y, List.mem_of_getElem? hy, rfl⟩, hy⟩
              obtain ⟨ga, oa, rfl, d0⟩ := H7.out.2.at15 hay
              clear hay hyo hy
              have d1 : wr.cell? ⟨ga, oa + i, none⟩ = some (.int .i64 y.id) := Below.kept H8.out.2 d0
              clear d0
              by_cases hi1 : 0 < i
              · have hi1' : (0 : Int) < (i : Int) := by omega
                obtain ⟨i', hi'⟩ : ∃ i', i = i' + 1 := ⟨i - 1, by omega⟩
                obtain ⟨z, hz⟩ : ∃ z, s6.l[i']? = some z := ⟨s6.l[i']'(by rw [← HA.out.1]; omega), List.getElem?_eq_getElem _⟩
                have hrs : ¬ y.id ≤ z.id := by
                  have := Sq.rise_lt H7.out.1.fine.rises hz HL.out.2 (by omega)
                  omega
                have haz : (Sq.all s6)[i']? = some z.id := by unfold Sq.all; simp [hz]
                obtain ⟨ga', oa', e9, d0⟩ := H7.out.2.at15 haz
                simp only [Option.some.injEq, Addr.mk.injEq, and_true] at e9
                obtain ⟨rfl, rfl⟩ := e9
                have d2 : wr.cell? ⟨ga, oa + i', none⟩ = some (.int .i64 z.id) := Below.kept H8.out.2 d0
                have hwj : IntKind.wrap .i64 ((i : Int) - 1) = (i' : Int) := by rw [IntKind.wrap_i64]; omega
                have i'0 : (0 : Int) ≤ (i' : Int) := by omega
                have i'n : (i' : Int) < (n3 : Int) := by omega
                clear hz haz d0 hi'
                go_upto_region 26 with fail
                refine wp_region_held_drew (S := fun w' => w'.cell? ⟨ga, oa + i, none⟩ = some (.int .i64 y.id) ∧ w'.cell? ⟨ga, oa + i', none⟩ = some (.int .i64 z.id)) (by kernel_rfl) ⟨d1, d2⟩ (fun _ => ?_)
                have H9 : Hid (Mine15 LS W wr.drew q ((k : Int) + 2) s6 F6 ∧ Below w7.heap.size w7 wr.drew) := ⟨H8.out.1.later HS.out (Below.refl _ _).drew, H8.out.2.drew⟩
                have HSX : Hid (∀ w', Below wr.drew.heap.size wr.drew w' → w'.cell? ⟨ga, oa + i, none⟩ = some (.int .i64 y.id) ∧ w'.cell? ⟨ga, oa + i', none⟩ = some (.int .i64 z.id)) := by
                  have h : (fun w' : World => w'.cell? ⟨ga, oa + i, none⟩ = some (.int .i64 y.id) ∧ w'.cell? ⟨ga, oa + i', none⟩ = some (.int .i64 z.id)) wr.drew := ⟨d1, d2⟩
                  exact fun w' hb => ⟨Below.kept hb h.1, Below.kept hb h.2⟩
                clear d1 d2 H8
                generalize wr.drew = wX at *
                refine' take_at (i := 0) (d := 84) (v := _) rfl rfl (by kernel_rfl) (by kernel_rfl) (by kernel_rfl) (fun _ _ _ h => h) (Or.inl ⟨by rfl, ?h0⟩) (HSX.out _ (Below.refl _ _)) ?_
                case h0 =>
                  intro w hSw
                  obtain ⟨t0, t1⟩ := hSw
                  go_simp
                  with_reducible rfl
                simp only [List.setIfInBounds_toArray, List.set_cons_zero, List.set_cons_succ]
                refine' take_at (i := 1) (d := 85) (v := _) rfl rfl (by kernel_rfl) (by kernel_rfl) (by kernel_rfl) (fun _ _ _ h => h) (Or.inl ⟨by rfl, ?h1⟩) (HSX.out _ (Below.refl _ _)) ?_
                case h1 =>
                  intro w hSw
                  obtain ⟨t0, t1⟩ := hSw
                  go_simp
                  with_reducible rfl
                simp only [List.setIfInBounds_toArray, List.set_cons_zero, List.set_cons_succ]
                refine' take_at (i := 2) (d := 86) (v := _) rfl rfl (by kernel_rfl) (by kernel_rfl) (by kernel_rfl) (fun _ _ _ h => h) (Or.inl ⟨by rfl, ?h2⟩) (HSX.out _ (Below.refl _ _)) ?_
                case h2 =>
                  intro w hSw
                  obtain ⟨t0, t1⟩ := hSw
                  go_simp
                  with_reducible rfl
                simp only [List.setIfInBounds_toArray, List.set_cons_zero, List.set_cons_succ]
                refine' take_at (i := 3) (d := 87) (v := _) rfl rfl (by kernel_rfl) (by kernel_rfl) (by kernel_rfl) (fun _ _ _ h => h) (Or.inl ⟨by rfl, ?h3⟩) (HSX.out _ (Below.refl _ _)) ?_
                case h3 =>
                  intro w hSw
                  obtain ⟨t0, t1⟩ := hSw
                  go_simp
                  with_reducible rfl
                simp only [List.setIfInBounds_toArray, List.set_cons_zero, List.set_cons_succ]
                refine' take_at (i := 4) (d := 88) (v := _) rfl rfl (by kernel_rfl) (by kernel_rfl) (by kernel_rfl) (fun _ _ _ h => h) (Or.inl ⟨by rfl, ?h4⟩) (HSX.out _ (Below.refl _ _)) ?_
                case h4 =>
                  intro w hSw
                  obtain ⟨t0, t1⟩ := hSw
                  go_simp
                  with_reducible rfl
                simp only [List.setIfInBounds_toArray, List.set_cons_zero, List.set_cons_succ]
                refine' take_at (i := 5) (d := 89) (v := _) rfl rfl (by kernel_rfl) (by kernel_rfl) (by kernel_rfl) (fun _ _ _ h => h) (Or.inl ⟨by rfl, ?h5⟩) (HSX.out _ (Below.refl _ _)) ?_
                case h5 =>
                  intro w hSw
                  obtain ⟨t0, t1⟩ := hSw
                  go_simp
                  with_reducible rfl
                simp only [List.setIfInBounds_toArray, List.set_cons_zero, List.set_cons_succ]
                refine' take_at (i := 6) (d := 90) (v := _) rfl rfl (by kernel_rfl) (by kernel_rfl) (by kernel_rfl) (fun _ _ _ h => h) (Or.inl ⟨by rfl, ?h6⟩) (HSX.out _ (Below.refl _ _)) ?_
                case h6 =>
                  intro w hSw
                  obtain ⟨t0, t1⟩ := hSw
                  go_simp
                  with_reducible rfl
                simp only [List.setIfInBounds_toArray, List.set_cons_zero, List.set_cons_succ]
                refine' take_at (i := 7) (d := 91) (v := _) rfl rfl (by kernel_rfl) (by kernel_rfl) (by kernel_rfl) (fun _ _ _ h => h) (Or.inl ⟨by rfl, ?h7⟩) (HSX.out _ (Below.refl _ _)) ?_
                case h7 =>
                  intro w hSw
                  obtain ⟨t0, t1⟩ := hSw
                  go_simp
                  with_reducible rfl
                simp only [List.setIfInBounds_toArray, List.set_cons_zero, List.set_cons_succ]
                refine' take_at (i := 8) (d := 92) (v := _) rfl rfl (by kernel_rfl) (by kernel_rfl) (by kernel_rfl) (fun _ _ _ h => h) (Or.inl ⟨by rfl, ?h8⟩) (HSX.out _ (Below.refl _ _)) ?_
                case h8 =>
                  intro w hSw
                  obtain ⟨t0, t1⟩ := hSw
                  go_simp
                  with_reducible rfl
                simp only [List.setIfInBounds_toArray, List.set_cons_zero, List.set_cons_succ]
                refine' take_at (i := 9) (d := 93) (v := _) rfl rfl (by kernel_rfl) (by kernel_rfl) (by kernel_rfl) (fun _ _ _ h => h) (Or.inl ⟨by rfl, ?h9⟩) (HSX.out _ (Below.refl _ _)) ?_
                case h9 =>
                  intro w hSw
                  obtain ⟨t0, t1⟩ := hSw
                  go_simp
                  with_reducible rfl
                simp only [List.setIfInBounds_toArray, List.set_cons_zero, List.set_cons_succ]
                refine' take_at (i := 10) (d := 94) (v := _) rfl rfl (by kernel_rfl) (by kernel_rfl) (by kernel_rfl) (fun _ _ _ h => h) (Or.inl ⟨by rfl, ?h10⟩) (HSX.out _ (Below.refl _ _)) ?_
                case h10 =>
                  intro w hSw
                  obtain ⟨t0, t1⟩ := hSw
                  go_simp
                  with_reducible rfl
                simp only [List.setIfInBounds_toArray, List.set_cons_zero, List.set_cons_succ]
                refine' take_at (i := 11) (d := 95) (v := _) rfl rfl (by kernel_rfl) (by kernel_rfl) (by kernel_rfl) (fun _ _ _ h => h) (Or.inl ⟨by rfl, ?h11⟩) (HSX.out _ (Below.refl _ _)) ?_
                case h11 =>
                  intro w hSw
                  obtain ⟨t0, t1⟩ := hSw
                  go_simp
                  with_reducible rfl
                simp only [List.setIfInBounds_toArray, List.set_cons_zero, List.set_cons_succ]
                refine' take_at (i := 12) (d := 96) (v := _) rfl rfl (by kernel_rfl) (by kernel_rfl) (by kernel_rfl) (fun _ _ _ h => h) (Or.inl ⟨by rfl, ?h12⟩) (HSX.out _ (Below.refl _ _)) ?_
                case h12 =>
                  intro w hSw
                  obtain ⟨t0, t1⟩ := hSw
                  go_simp
                  with_reducible rfl
                simp only [List.setIfInBounds_toArray, List.set_cons_zero, List.set_cons_succ]
                refine' take_at (i := 13) (d := 97) (v := _) rfl rfl (by kernel_rfl) (by kernel_rfl) (by kernel_rfl) (fun _ _ _ h => h) (Or.inl ⟨by rfl, ?h13⟩) (HSX.out _ (Below.refl _ _)) ?_
                case h13 =>
                  intro w hSw
                  obtain ⟨t0, t1⟩ := hSw
                  go_simp
                  with_reducible rfl
                simp only [List.setIfInBounds_toArray, List.set_cons_zero, List.set_cons_succ]
                refine' take_at (i := 14) (d := 98) (v := _) rfl rfl (by kernel_rfl) (by kernel_rfl) (by kernel_rfl) (fun _ _ _ h => h) (Or.inl ⟨by rfl, ?h14⟩) (HSX.out _ (Below.refl _ _)) ?_
                case h14 =>
                  intro w hSw
                  obtain ⟨t0, t1⟩ := hSw
                  go_simp
                  with_reducible rfl
                simp only [List.setIfInBounds_toArray, List.set_cons_zero, List.set_cons_succ]
                refine' take_at (i := 15) (d := 99) (v := _) rfl rfl (by kernel_rfl) (by kernel_rfl) (by kernel_rfl) (fun _ _ _ h => h) (Or.inl ⟨by rfl, ?h15⟩) (HSX.out _ (Below.refl _ _)) ?_
                case h15 =>
                  intro w hSw
                  obtain ⟨t0, t1⟩ := hSw
                  go_simp
                  with_reducible rfl
                simp only [List.setIfInBounds_toArray, List.set_cons_zero, List.set_cons_succ]
                refine' take_at (i := 16) (d := 100) (v := _) rfl rfl (by kernel_rfl) (by kernel_rfl) (by kernel_rfl) (fun _ _ _ h => h) (Or.inl ⟨by rfl, ?h16⟩) (HSX.out _ (Below.refl _ _)) ?_
                case h16 =>
                  intro w hSw
                  obtain ⟨t0, t1⟩ := hSw
                  go_simp
                  with_reducible rfl
                simp only [List.setIfInBounds_toArray, List.set_cons_zero, List.set_cons_succ]
                refine' take_at (i := 17) (d := 101) (v := _) rfl rfl (by kernel_rfl) (by kernel_rfl) (by kernel_rfl) (fun _ _ _ h => h) (Or.inl ⟨by rfl, ?h17⟩) (HSX.out _ (Below.refl _ _)) ?_
                case h17 =>
                  intro w hSw
                  obtain ⟨t0, t1⟩ := hSw
                  go_simp
                  with_reducible rfl
                simp only [List.setIfInBounds_toArray, List.set_cons_zero, List.set_cons_succ]
                refine' take_at (i := 18) (d := 102) (v := _) rfl rfl (by kernel_rfl) (by kernel_rfl) (by kernel_rfl) (fun _ _ _ h => h) (Or.inl ⟨by rfl, ?h18⟩) (HSX.out _ (Below.refl _ _)) ?_
                case h18 =>
                  intro w hSw
                  obtain ⟨t0, t1⟩ := hSw
                  go_simp
                  with_reducible rfl
                simp only [List.setIfInBounds_toArray, List.set_cons_zero, List.set_cons_succ]
                refine' take_at (i := 19) (d := 103) (v := _) rfl rfl (by kernel_rfl) (by kernel_rfl) (by kernel_rfl) (fun _ _ _ h => h) (Or.inl ⟨by rfl, ?h19⟩) (HSX.out _ (Below.refl _ _)) ?_
                case h19 =>
                  intro w hSw
                  obtain ⟨t0, t1⟩ := hSw
                  go_simp
                  with_reducible rfl
                simp only [List.setIfInBounds_toArray, List.set_cons_zero, List.set_cons_succ]
                refine' take_at (i := 20) (d := 104) (v := _) rfl rfl (by kernel_rfl) (by kernel_rfl) (by kernel_rfl) (fun _ _ _ h => h) (Or.inl ⟨by rfl, ?h20⟩) (HSX.out _ (Below.refl _ _)) ?_
                case h20 =>
                  intro w hSw
                  obtain ⟨t0, t1⟩ := hSw
                  go_simp
                  with_reducible rfl
                simp only [List.setIfInBounds_toArray, List.set_cons_zero, List.set_cons_succ]
                refine' take_at (i := 21) (d := 105) (v := _) rfl rfl (by kernel_rfl) (by kernel_rfl) (by kernel_rfl) (fun _ _ _ h => h) (Or.inl ⟨by rfl, ?h21⟩) (HSX.out _ (Below.refl _ _)) ?_
                case h21 =>
                  intro w hSw
                  obtain ⟨t0, t1⟩ := hSw
                  go_simp
                  with_reducible rfl
                simp only [List.setIfInBounds_toArray, List.set_cons_zero, List.set_cons_succ]
                refine' take_at (i := 22) (d := 106) (v := _) rfl rfl (by kernel_rfl) (by kernel_rfl) (by kernel_rfl) (fun _ _ _ h => h) (Or.inl ⟨by rfl, ?h22⟩) (HSX.out _ (Below.refl _ _)) ?_
                case h22 =>
                  intro w hSw
                  obtain ⟨t0, t1⟩ := hSw
                  go_simp
                  with_reducible rfl
                simp only [List.setIfInBounds_toArray, List.set_cons_zero, List.set_cons_succ]
                refine' take_at (i := 23) (d := 107) (v := _) rfl rfl (by kernel_rfl) (by kernel_rfl) (by kernel_rfl) (fun _ _ _ h => h) (Or.inl ⟨by rfl, ?h23⟩) (HSX.out _ (Below.refl _ _)) ?_
                case h23 =>
                  intro w hSw
                  obtain ⟨t0, t1⟩ := hSw
                  go_simp
                  with_reducible rfl
                simp only [List.setIfInBounds_toArray, List.set_cons_zero, List.set_cons_succ]
                refine' take_at (i := 24) (d := 108) (v := _) rfl rfl (by kernel_rfl) (by kernel_rfl) (by kernel_rfl) (fun _ _ _ h => h) (Or.inl ⟨by rfl, ?h24⟩) (HSX.out _ (Below.refl _ _)) ?_
                case h24 =>
                  intro w hSw
                  obtain ⟨t0, t1⟩ := hSw
                  go_simp
                  with_reducible rfl
                simp only [List.setIfInBounds_toArray, List.set_cons_zero, List.set_cons_succ]
                refine' take_at (i := 25) (d := 109) (v := _) rfl rfl (by kernel_rfl) (by kernel_rfl) (by kernel_rfl) (fun _ _ _ h => h) (Or.inl ⟨by rfl, ?h25⟩) (HSX.out _ (Below.refl _ _)) ?_
                case h25 =>
                  intro w hSw
                  obtain ⟨t0, t1⟩ := hSw
                  go_simp
                  with_reducible rfl
                simp only [List.setIfInBounds_toArray, List.set_cons_zero, List.set_cons_succ]
                refine' take_at (i := 26) (d := 110) (v := _) rfl rfl (by kernel_rfl) (by kernel_rfl) (by kernel_rfl) (fun _ _ _ h => h) (Or.inl ⟨by rfl, ?h26⟩) (HSX.out _ (Below.refl _ _)) ?_
                case h26 =>
                  intro w hSw
                  obtain ⟨t0, t1⟩ := hSw
                  go_simp
                  with_reducible rfl
                simp only [List.setIfInBounds_toArray, List.set_cons_zero, List.set_cons_succ]
                refine' take_at (i := 27) (d := 111) (v := _) rfl rfl (by kernel_rfl) (by kernel_rfl) (by kernel_rfl) (fun _ _ _ h => h) (Or.inl ⟨by rfl, ?h27⟩) (HSX.out _ (Below.refl _ _)) ?_
                case h27 =>
                  intro w hSw
                  obtain ⟨t0, t1⟩ := hSw
                  go_simp
                  with_reducible rfl
                simp only [List.setIfInBounds_toArray, List.set_cons_zero, List.set_cons_succ]
                refine' take_at (i := 28) (d := 112) (v := _) rfl rfl (by kernel_rfl) (by kernel_rfl) (by kernel_rfl) (fun _ _ _ h => h) (Or.inl ⟨by rfl, ?h28⟩) (HSX.out _ (Below.refl _ _)) ?_
                case h28 =>
                  intro w hSw
                  obtain ⟨t0, t1⟩ := hSw
                  go_simp
                  with_reducible rfl
                simp only [List.setIfInBounds_toArray, List.set_cons_zero, List.set_cons_succ]
                refine' take_at (i := 29) (d := 113) (v := _) rfl rfl (by kernel_rfl) (by kernel_rfl) (by kernel_rfl) (fun _ _ _ h => h) (Or.inl ⟨by rfl, ?h29⟩) (HSX.out _ (Below.refl _ _)) ?_
                case h29 =>
                  intro w hSw
                  obtain ⟨t0, t1⟩ := hSw
                  go_simp
                  with_reducible rfl
                simp only [List.setIfInBounds_toArray, List.set_cons_zero, List.set_cons_succ]
                refine' take_at (i := 30) (d := 114) (v := _) rfl rfl (by kernel_rfl) (by kernel_rfl) (by kernel_rfl) (fun _ _ _ h => h) (Or.inl ⟨by rfl, ?h30⟩) (HSX.out _ (Below.refl _ _)) ?_
                case h30 =>
                  intro w hSw
                  obtain ⟨t0, t1⟩ := hSw
                  go_simp
                  with_reducible rfl
                simp only [List.setIfInBounds_toArray, List.set_cons_zero, List.set_cons_succ]
                refine' take_at (i := 31) (d := 115) (v := _) rfl rfl (by kernel_rfl) (by kernel_rfl) (by kernel_rfl) (fun _ _ _ h => h) (Or.inl ⟨by rfl, ?h31⟩) (HSX.out _ (Below.refl _ _)) ?_
                case h31 =>
                  intro w hSw
                  obtain ⟨t0, t1⟩ := hSw
                  go_simp
                  with_reducible rfl
                simp only [List.setIfInBounds_toArray, List.set_cons_zero, List.set_cons_succ]
                refine' take_at (i := 32) (d := 116) (v := _) rfl rfl (by kernel_rfl) (by kernel_rfl) (by kernel_rfl) (fun _ _ _ h => h) (Or.inl ⟨by rfl, ?h32⟩) (HSX.out _ (Below.refl _ _)) ?_
                case h32 =>
                  intro w hSw
                  obtain ⟨t0, t1⟩ := hSw
                  go_simp
                  with_reducible rfl
                simp only [List.setIfInBounds_toArray, List.set_cons_zero, List.set_cons_succ]
                refine' take_at (i := 33) (d := 117) (v := _) rfl rfl (by kernel_rfl) (by kernel_rfl) (by kernel_rfl) (fun _ _ _ h => h) (Or.inl ⟨by rfl, ?h33⟩) (HSX.out _ (Below.refl _ _)) ?_
                case h33 =>
                  intro w hSw
                  obtain ⟨t0, t1⟩ := hSw
                  go_simp
                  with_reducible rfl
                simp only [List.setIfInBounds_toArray, List.set_cons_zero, List.set_cons_succ]
                refine' take_at (i := 34) (d := 118) (v := _) rfl rfl (by kernel_rfl) (by kernel_rfl) (by kernel_rfl) (fun _ _ _ h => h) (Or.inl ⟨by rfl, ?h34⟩) (HSX.out _ (Below.refl _ _)) ?_
                case h34 =>
                  intro w hSw
                  obtain ⟨t0, t1⟩ := hSw
                  go_simp
                  with_reducible rfl
                simp only [List.setIfInBounds_toArray, List.set_cons_zero, List.set_cons_succ]
                refine wpAnyH_ready (rs := [35]) (by kernel_rfl) (by simp) ?_
                refine AllReadyH.cons (o := _) rfl (fun KQ hKQ => ?_) AllReadyH.nil
                go_simp
                refine (H9.out.1.live HS.out y.id true HL.out.1).mono ?_
                rintro e w10 ⟨rfl, hM10, hb10⟩
                have H10 : Hid (Mine15 LS W w10 q ((k : Int) + 2) s6 F6 ∧ Below w7.heap.size w7 w10 ∧ Below wX.heap.size wX w10) := ⟨hM10, H9.out.2.trans (hb10.mono H9.out.2.size), hb10⟩
                clear hM10 hb10
                refine hKQ.out _ _ (HSX.out _ H10.out.2.2) (fun _ => ?_)
                clear hKQ KQ
                refine' take_at (i := 36) (d := 120) (v := _) rfl rfl (by kernel_rfl) (by kernel_rfl) (by kernel_rfl) (fun _ _ _ h => h) (Or.inl ⟨by rfl, ?h36⟩) (HSX.out _ H10.out.2.2) ?_
                case h36 =>
                  intro w hSw
                  clear hSw
                  go_simp
                  with_reducible rfl
                simp only [List.setIfInBounds_toArray, List.set_cons_zero, List.set_cons_succ]
                refine' take_at (i := 37) (d := 121) (v := _) rfl rfl (by kernel_rfl) (by kernel_rfl) (by kernel_rfl) (fun _ _ _ h => h) (Or.inl ⟨by rfl, ?h37⟩) (HSX.out _ H10.out.2.2) ?_
                case h37 =>
                  intro w hSw
                  clear hSw
                  go_simp
                  with_reducible rfl
                simp only [List.setIfInBounds_toArray, List.set_cons_zero, List.set_cons_succ]
                refine wpAnyH_done (by kernel_rfl) ?_ _
                go_wp2
                go_roundw
                case rel => exact ⟨i + 1, by omega, by go_num, H10.out.2.1, H10.out.1⟩
                case measure => simp [intOf]; omega
              · obtain rfl : i = 0 := by omega
                rw [Nat.add_zero] at d1
                go_upto_region 26 with fail
                refine wp_region_held_drew (S := fun w' => w'.cell? ⟨ga, oa, none⟩ = some (.int .i64 y.id)) (by kernel_rfl) d1 (fun _ => ?_)
                have H9 : Hid (Mine15 LS W wr.drew q ((k : Int) + 2) s6 F6 ∧ Below w7.heap.size w7 wr.drew) := ⟨H8.out.1.later HS.out (Below.refl _ _).drew, H8.out.2.drew⟩
                have HSX : Hid (∀ w', Below wr.drew.heap.size wr.drew w' → w'.cell? ⟨ga, oa, none⟩ = some (.int .i64 y.id)) := by
                  have h : (fun w' : World => w'.cell? ⟨ga, oa, none⟩ = some (.int .i64 y.id)) wr.drew := d1
                  exact fun w' hb => Below.kept hb h
                clear d1 H8
                generalize wr.drew = wX at *
                refine' take_at (i := 0) (d := 84) (v := _) rfl rfl (by kernel_rfl) (by kernel_rfl) (by kernel_rfl) (fun _ _ _ h => h) (Or.inl ⟨by rfl, ?h0⟩) (HSX.out _ (Below.refl _ _)) ?_
                case h0 =>
                  intro w hSw
                  have t0 := hSw
                  go_simp
                  with_reducible rfl
                simp only [List.setIfInBounds_toArray, List.set_cons_zero, List.set_cons_succ]
                refine' take_at (i := 1) (d := 85) (v := _) rfl rfl (by kernel_rfl) (by kernel_rfl) (by kernel_rfl) (fun _ _ _ h => h) (Or.inl ⟨by rfl, ?h1⟩) (HSX.out _ (Below.refl _ _)) ?_
                case h1 =>
                  intro w hSw
                  have t0 := hSw
                  go_simp
                  with_reducible rfl
                simp only [List.setIfInBounds_toArray, List.set_cons_zero, List.set_cons_succ]
                refine' take_at (i := 2) (d := 86) (v := _) rfl rfl (by kernel_rfl) (by kernel_rfl) (by kernel_rfl) (fun _ _ _ h => h) (Or.inl ⟨by rfl, ?h2⟩) (HSX.out _ (Below.refl _ _)) ?_
                case h2 =>
                  intro w hSw
                  have t0 := hSw
                  go_simp
                  with_reducible rfl
                simp only [List.setIfInBounds_toArray, List.set_cons_zero, List.set_cons_succ]
                refine' take_at (i := 3) (d := 87) (v := _) rfl rfl (by kernel_rfl) (by kernel_rfl) (by kernel_rfl) (fun _ _ _ h => h) (Or.inl ⟨by rfl, ?h3⟩) (HSX.out _ (Below.refl _ _)) ?_
                case h3 =>
                  intro w hSw
                  have t0 := hSw
                  go_simp
                  with_reducible rfl
                simp only [List.setIfInBounds_toArray, List.set_cons_zero, List.set_cons_succ]
                refine' take_at (i := 4) (d := 88) (v := _) rfl rfl (by kernel_rfl) (by kernel_rfl) (by kernel_rfl) (fun _ _ _ h => h) (Or.inl ⟨by rfl, ?h4⟩) (HSX.out _ (Below.refl _ _)) ?_
                case h4 =>
                  intro w hSw
                  have t0 := hSw
                  go_simp
                  with_reducible rfl
                simp only [List.setIfInBounds_toArray, List.set_cons_zero, List.set_cons_succ]
                refine' take_at (i := 5) (d := 89) (v := _) rfl rfl (by kernel_rfl) (by kernel_rfl) (by kernel_rfl) (fun _ _ _ h => h) (Or.inl ⟨by rfl, ?h5⟩) (HSX.out _ (Below.refl _ _)) ?_
                case h5 =>
                  intro w hSw
                  have t0 := hSw
                  go_simp
                  with_reducible rfl
                simp only [List.setIfInBounds_toArray, List.set_cons_zero, List.set_cons_succ]
                refine' take_at (i := 6) (d := 90) (v := _) rfl rfl (by kernel_rfl) (by kernel_rfl) (by kernel_rfl) (fun _ _ _ h => h) (Or.inl ⟨by rfl, ?h6⟩) (HSX.out _ (Below.refl _ _)) ?_
                case h6 =>
                  intro w hSw
                  have t0 := hSw
                  go_simp
                  with_reducible rfl
                simp only [List.setIfInBounds_toArray, List.set_cons_zero, List.set_cons_succ]
                refine' take_at (i := 7) (d := 91) (v := _) rfl rfl (by kernel_rfl) (by kernel_rfl) (by kernel_rfl) (fun _ _ _ h => h) (Or.inl ⟨by rfl, ?h7⟩) (HSX.out _ (Below.refl _ _)) ?_
                case h7 =>
                  intro w hSw
                  have t0 := hSw
                  go_simp
                  with_reducible rfl
                simp only [List.setIfInBounds_toArray, List.set_cons_zero, List.set_cons_succ]
                refine' take_at (i := 8) (d := 92) (v := _) rfl rfl (by kernel_rfl) (by kernel_rfl) (by kernel_rfl) (fun _ _ _ h => h) (Or.inl ⟨by rfl, ?h8⟩) (HSX.out _ (Below.refl _ _)) ?_
                case h8 =>
                  intro w hSw
                  have t0 := hSw
                  go_simp
                  with_reducible rfl
                simp only [List.setIfInBounds_toArray, List.set_cons_zero, List.set_cons_succ]
                refine' take_at (i := 9) (d := 93) (v := _) rfl rfl (by kernel_rfl) (by kernel_rfl) (by kernel_rfl) (fun _ _ _ h => h) (Or.inl ⟨by rfl, ?h9⟩) (HSX.out _ (Below.refl _ _)) ?_
                case h9 =>
                  intro w hSw
                  have t0 := hSw
                  go_simp
                  with_reducible rfl
                simp only [List.setIfInBounds_toArray, List.set_cons_zero, List.set_cons_succ]
                refine' take_at (i := 10) (d := 94) (v := _) rfl rfl (by kernel_rfl) (by kernel_rfl) (by kernel_rfl) (fun _ _ _ h => h) (Or.inl ⟨by rfl, ?h10⟩) (HSX.out _ (Below.refl _ _)) ?_
                case h10 =>
                  intro w hSw
                  have t0 := hSw
                  go_simp
                  with_reducible rfl
                simp only [List.setIfInBounds_toArray, List.set_cons_zero, List.set_cons_succ]
                refine' take_at (i := 11) (d := 95) (v := _) rfl rfl (by kernel_rfl) (by kernel_rfl) (by kernel_rfl) (fun _ _ _ h => h) (Or.inl ⟨by rfl, ?h11⟩) (HSX.out _ (Below.refl _ _)) ?_
                case h11 =>
                  intro w hSw
                  have t0 := hSw
                  go_simp
                  with_reducible rfl
                simp only [List.setIfInBounds_toArray, List.set_cons_zero, List.set_cons_succ]
                refine' take_at (i := 12) (d := 96) (v := _) rfl rfl (by kernel_rfl) (by kernel_rfl) (by kernel_rfl) (fun _ _ _ h => h) (Or.inl ⟨by rfl, ?h12⟩) (HSX.out _ (Below.refl _ _)) ?_
                case h12 =>
                  intro w hSw
                  have t0 := hSw
                  go_simp
                  with_reducible rfl
                simp only [List.setIfInBounds_toArray, List.set_cons_zero, List.set_cons_succ]
                refine' take_at (i := 13) (d := 97) (v := _) rfl rfl (by kernel_rfl) (by kernel_rfl) (by kernel_rfl) (fun _ _ _ h => h) (Or.inl ⟨by rfl, ?h13⟩) (HSX.out _ (Below.refl _ _)) ?_
                case h13 =>
                  intro w hSw
                  have t0 := hSw
                  go_simp
                  with_reducible rfl
                simp only [List.setIfInBounds_toArray, List.set_cons_zero, List.set_cons_succ]
                refine' take_at (i := 14) (d := 98) (v := _) rfl rfl (by kernel_rfl) (by kernel_rfl) (by kernel_rfl) (fun _ _ _ h => h) (Or.inl ⟨by rfl, ?h14⟩) (HSX.out _ (Below.refl _ _)) ?_
                case h14 =>
                  intro w hSw
                  have t0 := hSw
                  go_simp
                  with_reducible rfl
                simp only [List.setIfInBounds_toArray, List.set_cons_zero, List.set_cons_succ]
                refine' take_at (i := 15) (d := 99) (v := _) rfl rfl (by kernel_rfl) (by kernel_rfl) (by kernel_rfl) (fun _ _ _ h => h) (Or.inl ⟨by rfl, ?h15⟩) (HSX.out _ (Below.refl _ _)) ?_
                case h15 =>
                  intro w hSw
                  have t0 := hSw
                  go_simp
                  with_reducible rfl
                simp only [List.setIfInBounds_toArray, List.set_cons_zero, List.set_cons_succ]
                refine' take_at (i := 16) (d := 100) (v := _) rfl rfl (by kernel_rfl) (by kernel_rfl) (by kernel_rfl) (fun _ _ _ h => h) (Or.inl ⟨by rfl, ?h16⟩) (HSX.out _ (Below.refl _ _)) ?_
                case h16 =>
                  intro w hSw
                  have t0 := hSw
                  go_simp
                  with_reducible rfl
                simp only [List.setIfInBounds_toArray, List.set_cons_zero, List.set_cons_succ]
                refine' take_at (i := 17) (d := 101) (v := undef) rfl rfl (by kernel_rfl) (by kernel_rfl) (by kernel_rfl) (fun _ _ _ h => h) (Or.inr ⟨by rfl, rfl⟩) (HSX.out _ (Below.refl _ _)) ?_
                simp only [List.setIfInBounds_toArray, List.set_cons_zero, List.set_cons_succ]
                refine' take_at (i := 18) (d := 102) (v := undef) rfl rfl (by kernel_rfl) (by kernel_rfl) (by kernel_rfl) (fun _ _ _ h => h) (Or.inr ⟨by rfl, rfl⟩) (HSX.out _ (Below.refl _ _)) ?_
                simp only [List.setIfInBounds_toArray, List.set_cons_zero, List.set_cons_succ]
                refine' take_at (i := 19) (d := 103) (v := undef) rfl rfl (by kernel_rfl) (by kernel_rfl) (by kernel_rfl) (fun _ _ _ h => h) (Or.inr ⟨by rfl, rfl⟩) (HSX.out _ (Below.refl _ _)) ?_
                simp only [List.setIfInBounds_toArray, List.set_cons_zero, List.set_cons_succ]
                refine' take_at (i := 20) (d := 104) (v := undef) rfl rfl (by kernel_rfl) (by kernel_rfl) (by kernel_rfl) (fun _ _ _ h => h) (Or.inr ⟨by rfl, rfl⟩) (HSX.out _ (Below.refl _ _)) ?_
                simp only [List.setIfInBounds_toArray, List.set_cons_zero, List.set_cons_succ]
                refine' take_at (i := 21) (d := 105) (v := undef) rfl rfl (by kernel_rfl) (by kernel_rfl) (by kernel_rfl) (fun _ _ _ h => h) (Or.inr ⟨by rfl, rfl⟩) (HSX.out _ (Below.refl _ _)) ?_
                simp only [List.setIfInBounds_toArray, List.set_cons_zero, List.set_cons_succ]
                refine' take_at (i := 22) (d := 106) (v := undef) rfl rfl (by kernel_rfl) (by kernel_rfl) (by kernel_rfl) (fun _ _ _ h => h) (Or.inr ⟨by rfl, rfl⟩) (HSX.out _ (Below.refl _ _)) ?_
                simp only [List.setIfInBounds_toArray, List.set_cons_zero, List.set_cons_succ]
                refine' take_at (i := 23) (d := 107) (v := undef) rfl rfl (by kernel_rfl) (by kernel_rfl) (by kernel_rfl) (fun _ _ _ h => h) (Or.inr ⟨by rfl, rfl⟩) (HSX.out _ (Below.refl _ _)) ?_
                simp only [List.setIfInBounds_toArray, List.set_cons_zero, List.set_cons_succ]
                refine' take_at (i := 24) (d := 108) (v := undef) rfl rfl (by kernel_rfl) (by kernel_rfl) (by kernel_rfl) (fun _ _ _ h => h) (Or.inr ⟨by rfl, rfl⟩) (HSX.out _ (Below.refl _ _)) ?_
                simp only [List.setIfInBounds_toArray, List.set_cons_zero, List.set_cons_succ]
                refine' take_at (i := 25) (d := 109) (v := undef) rfl rfl (by kernel_rfl) (by kernel_rfl) (by kernel_rfl) (fun _ _ _ h => h) (Or.inr ⟨by rfl, rfl⟩) (HSX.out _ (Below.refl _ _)) ?_
                simp only [List.setIfInBounds_toArray, List.set_cons_zero, List.set_cons_succ]
                refine' take_at (i := 26) (d := 110) (v := undef) rfl rfl (by kernel_rfl) (by kernel_rfl) (by kernel_rfl) (fun _ _ _ h => h) (Or.inr ⟨by rfl, rfl⟩) (HSX.out _ (Below.refl _ _)) ?_
                simp only [List.setIfInBounds_toArray, List.set_cons_zero, List.set_cons_succ]
                refine' take_at (i := 27) (d := 111) (v := _) rfl rfl (by kernel_rfl) (by kernel_rfl) (by kernel_rfl) (fun _ _ _ h => h) (Or.inl ⟨by rfl, ?h27⟩) (HSX.out _ (Below.refl _ _)) ?_
                case h27 =>
                  intro w hSw
                  have t0 := hSw
                  go_simp
                  with_reducible rfl
                simp only [List.setIfInBounds_toArray, List.set_cons_zero, List.set_cons_succ]
                refine' take_at (i := 28) (d := 112) (v := _) rfl rfl (by kernel_rfl) (by kernel_rfl) (by kernel_rfl) (fun _ _ _ h => h) (Or.inl ⟨by rfl, ?h28⟩) (HSX.out _ (Below.refl _ _)) ?_
                case h28 =>
                  intro w hSw
                  have t0 := hSw
                  go_simp
                  with_reducible rfl
                simp only [List.setIfInBounds_toArray, List.set_cons_zero, List.set_cons_succ]
                refine' take_at (i := 29) (d := 113) (v := _) rfl rfl (by kernel_rfl) (by kernel_rfl) (by kernel_rfl) (fun _ _ _ h => h) (Or.inl ⟨by rfl, ?h29⟩) (HSX.out _ (Below.refl _ _)) ?_
                case h29 =>
                  intro w hSw
                  have t0 := hSw
                  go_simp
                  with_reducible rfl
                simp only [List.setIfInBounds_toArray, List.set_cons_zero, List.set_cons_succ]
                refine' take_at (i := 30) (d := 114) (v := _) rfl rfl (by kernel_rfl) (by kernel_rfl) (by kernel_rfl) (fun _ _ _ h => h) (Or.inl ⟨by rfl, ?h30⟩) (HSX.out _ (Below.refl _ _)) ?_
                case h30 =>
                  intro w hSw
                  have t0 := hSw
                  go_simp
                  with_reducible rfl
                simp only [List.setIfInBounds_toArray, List.set_cons_zero, List.set_cons_succ]
                refine' take_at (i := 31) (d := 115) (v := _) rfl rfl (by kernel_rfl) (by kernel_rfl) (by kernel_rfl) (fun _ _ _ h => h) (Or.inl ⟨by rfl, ?h31⟩) (HSX.out _ (Below.refl _ _)) ?_
                case h31 =>
                  intro w hSw
                  have t0 := hSw
                  go_simp
                  with_reducible rfl
                simp only [List.setIfInBounds_toArray, List.set_cons_zero, List.set_cons_succ]
                refine' take_at (i := 32) (d := 116) (v := _) rfl rfl (by kernel_rfl) (by kernel_rfl) (by kernel_rfl) (fun _ _ _ h => h) (Or.inl ⟨by rfl, ?h32⟩) (HSX.out _ (Below.refl _ _)) ?_
                case h32 =>
                  intro w hSw
                  have t0 := hSw
                  go_simp
                  with_reducible rfl
                simp only [List.setIfInBounds_toArray, List.set_cons_zero, List.set_cons_succ]
                refine' take_at (i := 33) (d := 117) (v := _) rfl rfl (by kernel_rfl) (by kernel_rfl) (by kernel_rfl) (fun _ _ _ h => h) (Or.inl ⟨by rfl, ?h33⟩) (HSX.out _ (Below.refl _ _)) ?_
                case h33 =>
                  intro w hSw
                  have t0 := hSw
                  go_simp
                  with_reducible rfl
                simp only [List.setIfInBounds_toArray, List.set_cons_zero, List.set_cons_succ]
                refine' take_at (i := 34) (d := 118) (v := _) rfl rfl (by kernel_rfl) (by kernel_rfl) (by kernel_rfl) (fun _ _ _ h => h) (Or.inl ⟨by rfl, ?h34⟩) (HSX.out _ (Below.refl _ _)) ?_
                case h34 =>
                  intro w hSw
                  have t0 := hSw
                  go_simp
                  with_reducible rfl
                simp only [List.setIfInBounds_toArray, List.set_cons_zero, List.set_cons_succ]
                refine wpAnyH_ready (rs := [35]) (by kernel_rfl) (by simp) ?_
                refine AllReadyH.cons (o := _) rfl (fun KQ hKQ => ?_) AllReadyH.nil
                go_simp
                refine (H9.out.1.live HS.out y.id true HL.out.1).mono ?_
                rintro e w10 ⟨rfl, hM10, hb10⟩
                have H10 : Hid (Mine15 LS W w10 q ((k : Int) + 2) s6 F6 ∧ Below w7.heap.size w7 w10 ∧ Below wX.heap.size wX w10) := ⟨hM10, H9.out.2.trans (hb10.mono H9.out.2.size), hb10⟩
                clear hM10 hb10
                refine hKQ.out _ _ (HSX.out _ H10.out.2.2) (fun _ => ?_)
                clear hKQ KQ
                refine' take_at (i := 36) (d := 120) (v := _) rfl rfl (by kernel_rfl) (by kernel_rfl) (by kernel_rfl) (fun _ _ _ h => h) (Or.inl ⟨by rfl, ?h36⟩) (HSX.out _ H10.out.2.2) ?_
                case h36 =>
                  intro w hSw
                  clear hSw
                  go_simp
                  with_reducible rfl
                simp only [List.setIfInBounds_toArray, List.set_cons_zero, List.set_cons_succ]
                refine' take_at (i := 37) (d := 121) (v := _) rfl rfl (by kernel_rfl) (by kernel_rfl) (by kernel_rfl) (fun _ _ _ h => h) (Or.inl ⟨by rfl, ?h37⟩) (HSX.out _ H10.out.2.2) ?_
                case h37 =>
                  intro w hSw
                  clear hSw
                  go_simp
                  with_reducible rfl
                simp only [List.setIfInBounds_toArray, List.set_cons_zero, List.set_cons_succ]
                refine wpAnyH_done (by kernel_rfl) ?_ _
                go_wp2
                go_roundw
                case rel => exact ⟨0 + 1, by omega, by go_num, H10.out.2.1, H10.out.1⟩
                case measure => simp [intOf]; omega
            · have hin' : ¬ (i : Int) < (n3 : Int) := by omega
              have hn5 : ¬ (5 : Int) < (n3 : Int) := by omega
              go_wp2
              go_roundw
              case rel => exact ⟨k + 1, last, s6, F6, by omega, by go_num, rfl, by rw [show ((k + 1 : Nat) : Int) + 1 = (k : Int) + 2 by omega]; exact H8.out.1, HA.out.2.1, HA.out.2.2⟩
              case measure => simp [intOf]; omega
      have hob : (x.op == 0) = false := by simp [ho0]
      by_cases ho2 : x.op = 2
      · have hob2 : (x.op == 2) = true := by simp [ho2]
        clear ho0 ho2
        obtain ⟨za, s6, hz⟩ : ∃ za s6, Sq.close s x.id = (za, s6) := ⟨_, _, rfl⟩
        have HZ : Hid (Sq.close s x.id = (za, s6)) := hz
        have HRN : Hid (s6.room = 5 ∧ s6.next = last + 1) := by
          have h := Sq.close_same s x.id
          rw [hz] at h
          exact ⟨h.1.trans H3.out.2.1, h.2.trans H3.out.2.2⟩
        clear hz
        go_wp2_with fail
        refine (H3.out.1.close HS.out hkm x.id za s6 HZ.out).mono ?_
        rintro e w6 ⟨F6, rfl, hM6, hmv⟩
        have H6 : Hid (Mine15 LS W w6 q ((k : Int) + 2) s6 F6) := hM6.mono (by omega)
        clear hM6 hmv H3
        clear c0 c1 c2
        obtain ⟨A, hA⟩ : ∃ A, A = s6.l.length := ⟨_, rfl⟩
        have HA : Hid (A = s6.l.length ∧ s6.room = 5 ∧ s6.next = last + 1) := ⟨hA, HRN.out.1, HRN.out.2⟩
        have hA5 : A ≤ 5 := by have h1 := H6.out.fine.len; have h2 := HA.out.2.1; omega
        clear hA
        go_wp2_with fail
        refine (H6.out.all HS.out).mono ?_
        rintro e w7 ⟨va, rfl, hia, hoa, hM7, hb7⟩
        obtain ⟨a3, n3, c3, rfl, hn3, hc3⟩ := hia
        have j0 : n3 = A := by rw [hn3, HA.out.1]; unfold Sq.all; simp
        have H7 : Hid (Mine15 LS W w7 q ((k : Int) + 2) s6 F6 ∧ Bi w7 (.slice a3 n3 c3) (Sq.all s6)) := ⟨hM7, a3, n3, c3, rfl, hn3, hc3⟩
        clear hM7 hb7 hoa hn3 hc3 H6
        subst j0
        go_wp2
        go_loopw [10] (fun j wx => ∃ i : Nat, i ≤ n3 ∧ j = .int .i64 (i : Int) ∧ Below w7.heap.size w7 wx ∧ Mine15 LS W wx q ((k : Int) + 2) s6 F6) (fun j _ => n3 - (intOf j).toNat)
        case atStart => exact ⟨0, Nat.zero_le _, rfl, Below.refl _ _, H7.out.1⟩
        case round =>
          obtain ⟨i, hi, rfl, hbw, hM8⟩ := hrel
          have H8 : Hid (Mine15 LS W wr q ((k : Int) + 2) s6 F6 ∧ Below w7.heap.size w7 wr) := ⟨hM8, hbw⟩
          clear hM8 hbw
          by_cases hin : i < n3
          · have hin' : (i : Int) < (n3 : Int) := by omega
            have hi0 : (0 : Int) ≤ (i : Int) := by omega
            have hwi : IntKind.wrap .i64 ((i : Int) + 1) = (i : Int) + 1 := by rw [IntKind.wrap_i64]; omega
            obtain ⟨y, hy⟩ : ∃ y, s6.l[i]? = some y := ⟨s6.l[i]'(by rw [← HA.out.1]; exact hin), List.getElem?_eq_getElem _⟩
            have hay : (Sq.all s6)[i]? = some y.id := by unfold Sq.all; simp [hy]
            have hyo := H7.out.1.fine.ok y (List.mem_of_getElem? hy)
            have y1 : ¬ y.id < 1 := by have := hyo.id1; omega
            have y2 : ¬ last < y.id := by have h1 := hyo.idn; have h2 := HA.out.2.2; omega
            have HL : Hid (Sq.has s6.l y.id = true ∧ s6.l[i]? = some y) := ⟨Sq.has_iff.2 ⟨y, List.mem_of_getElem? hy, rfl⟩, hy⟩
            obtain ⟨ga, oa, rfl, d0⟩ := H7.out.2.at15 hay
            clear hay hyo hy
            have d1 : wr.cell? ⟨ga, oa + i, none⟩ = some (.int .i64 y.id) := Below.kept H8.out.2 d0
            clear d0
            by_cases hi1 : 0 < i
            · have hi1' : (0 : Int) < (i : Int) := by omega
              obtain ⟨i', hi'⟩ : ∃ i', i = i' + 1 := ⟨i - 1, by omega⟩
              obtain ⟨z, hz⟩ : ∃ z, s6.l[i']? = some z := ⟨s6.l[i']'(by rw [← HA.out.1]; omega), List.getElem?_eq_getElem _⟩
              have hrs : ¬ y.id ≤ z.id := by
                have := Sq.rise_lt H7.out.1.fine.rises hz HL.out.2 (by omega)
                omega
              have haz : (Sq.all s6)[i']? = some z.id := by unfold Sq.all; simp [hz]
              obtain ⟨ga', oa', e9, d0⟩ := H7.out.2.at15 haz
              simp only [Option.some.injEq, Addr.mk.injEq, and_true] at e9
              obtain ⟨rfl, rfl⟩ := e9
              have d2 : wr.cell? ⟨ga, oa + i', none⟩ = some (.int .i64 z.id) := Below.kept H8.out.2 d0
              have hwj : IntKind.wrap .i64 ((i : Int) - 1) = (i' : Int) := by rw [IntKind.wrap_i64]; omega
              have i'0 : (0 : Int) ≤ (i' : Int) := by omega
              have i'n : (i' : Int) < (n3 : Int) := by omega
              clear hz haz d0 hi'
              go_upto_region 26 with fail
              refine wp_region_held_drew (S := fun w' => w'.cell? ⟨ga, oa + i, none⟩ = some (.int .i64 y.id) ∧ w'.cell? ⟨ga, oa + i', none⟩ = some (.int .i64 z.id)) (by kernel_rfl) ⟨d1, d2⟩ (fun _ => ?_)
              have H9 : Hid (Mine15 LS W wr.drew q ((k : Int) + 2) s6 F6 ∧ Below w7.heap.size w7 wr.drew) := ⟨H8.out.1.later HS.out (Below.refl _ _).drew, H8.out.2.drew⟩
              have HSX : Hid (∀ w', Below wr.drew.heap.size wr.drew w' → w'.cell? ⟨ga, oa + i, none⟩ = some (.int .i64 y.id) ∧ w'.cell? ⟨ga, oa + i', none⟩ = some (.int .i64 z.id)) := by
                have h : (fun w' : World => w'.cell? ⟨ga, oa + i, none⟩ = some (.int .i64 y.id) ∧ w'.cell? ⟨ga, oa + i', none⟩ = some (.int .i64 z.id)) wr.drew := ⟨d1, d2⟩
                exact fun w' hb => ⟨Below.kept hb h.1, Below.kept hb h.2⟩
              clear d1 d2 H8
              generalize wr.drew = wX at *
              refine' take_at (i := 0) (d := 84) (v := _) rfl rfl (by kernel_rfl) (by kernel_rfl) (by kernel_rfl) (fun _ _ _ h => h) (Or.inl ⟨by rfl, ?h0⟩) (HSX.out _ (Below.refl _ _)) ?_
              case h0 =>
                intro w hSw
                obtain ⟨t0, t1⟩ := hSw
                go_simp
                with_reducible rfl
              simp only [List.setIfInBounds_toArray, List.set_cons_zero, List.set_cons_succ]
              refine' take_at (i := 1) (d := 85) (v := _) rfl rfl (by kernel_rfl) (by kernel_rfl) (by kernel_rfl) (fun _ _ _ h => h) (Or.inl ⟨by rfl, ?h1⟩) (HSX.out _ (Below.refl _ _)) ?_
              case h1 =>
                intro w hSw
                obtain ⟨t0, t1⟩ := hSw
                go_simp
                with_reducible rfl
              simp only [List.setIfInBounds_toArray, List.set_cons_zero, List.set_cons_succ]
              refine' take_at (i := 2) (d := 86) (v := _) rfl rfl (by kernel_rfl) (by kernel_rfl) (by kernel_rfl) (fun _ _ _ h => h) (Or.inl ⟨by rfl, ?h2⟩) (HSX.out _ (Below.refl _ _)) ?_
              case h2 =>
                intro w hSw
                obtain ⟨t0, t1⟩ := hSw
                go_simp
                with_reducible rfl
              simp only [List.setIfInBounds_toArray, List.set_cons_zero, List.set_cons_succ]
              refine' take_at (i := 3) (d := 87) (v := _) rfl rfl (by kernel_rfl) (by kernel_rfl) (by kernel_rfl) (fun _ _ _ h => h) (Or.inl ⟨by rfl, ?h3⟩) (HSX.out _ (Below.refl _ _)) ?_
              case h3 =>
                intro w hSw
                obtain ⟨t0, t1⟩ := hSw
                go_simp
                with_reducible rfl
              simp only [List.setIfInBounds_toArray, List.set_cons_zero, List.set_cons_succ]
              refine' take_at (i := 4) (d := 88) (v := _) rfl rfl (by kernel_rfl) (by kernel_rfl) (by kernel_rfl) (fun _ _ _ h => h) (Or.inl ⟨by rfl, ?h4⟩) (HSX.out _ (Below.refl _ _)) ?_
              case h4 =>
                intro w hSw
                obtain ⟨t0, t1⟩ := hSw
                go_simp
                with_reducible rfl
              simp only [List.setIfInBounds_toArray, List.set_cons_zero, List.set_cons_succ]
              refine' take_at (i := 5) (d := 89) (v := _) rfl rfl (by kernel_rfl) (by kernel_rfl) (by kernel_rfl) (fun _ _ _ h => h) (Or.inl ⟨by rfl, ?h5⟩) (HSX.out _ (Below.refl _ _)) ?_
              case h5 =>
                intro w hSw
                obtain ⟨t0, t1⟩ := hSw
                go_simp
                with_reducible rfl
              simp only [List.setIfInBounds_toArray, List.set_cons_zero, List.set_cons_succ]
              refine' take_at (i := 6) (d := 90) (v := _) rfl rfl (by kernel_rfl) (by kernel_rfl) (by kernel_rfl) (fun _ _ _ h => h) (Or.inl ⟨by rfl, ?h6⟩) (HSX.out _ (Below.refl _ _)) ?_
              case h6 =>
                intro w hSw
                obtain ⟨t0, t1⟩ := hSw
                go_simp
                with_reducible rfl
              simp only [List.setIfInBounds_toArray, List.set_cons_zero, List.set_cons_succ]
              refine' take_at (i := 7) (d := 91) (v := _) rfl rfl (by kernel_rfl) (by kernel_rfl) (by kernel_rfl) (fun _ _ _ h => h) (Or.inl ⟨by rfl, ?h7⟩) (HSX.out _ (Below.refl _ _)) ?_
              case h7 =>
                intro w hSw
                obtain ⟨t0, t1⟩ := hSw
                go_simp
                with_reducible rfl
              simp only [List.setIfInBounds_toArray, List.set_cons_zero, List.set_cons_succ]
              refine' take_at (i := 8) (d := 92) (v := _) rfl rfl (by kernel_rfl) (by kernel_rfl) (by kernel_rfl) (fun _ _ _ h => h) (Or.inl ⟨by rfl, ?h8⟩) (HSX.out _ (Below.refl _ _)) ?_
              case h8 =>
                intro w hSw
                obtain ⟨t0, t1⟩ := hSw
                go_simp
                with_reducible rfl
              simp only [List.setIfInBounds_toArray, List.set_cons_zero, List.set_cons_succ]
              refine' take_at (i := 9) (d := 93) (v := _) rfl rfl (by kernel_rfl) (by kernel_rfl) (by kernel_rfl) (fun _ _ _ h => h) (Or.inl ⟨by rfl, ?h9⟩) (HSX.out _ (Below.refl _ _)) ?_
              case h9 =>
                intro w hSw
                obtain ⟨t0, t1⟩ := hSw
                go_simp
                with_reducible rfl
              simp only [List.setIfInBounds_toArray, List.set_cons_zero, List.set_cons_succ]
              refine' take_at (i := 10) (d := 94) (v := _) rfl rfl (by kernel_rfl) (by kernel_rfl) (by kernel_rfl) (fun _ _ _ h => h) (Or.inl ⟨by rfl, ?h10⟩) (HSX.out _ (Below.refl _ _)) ?_
              case h10 =>
                intro w hSw
                obtain ⟨t0, t1⟩ := hSw
                go_simp
                with_reducible rfl
              simp only [List.setIfInBounds_toArray, List.set_cons_zero, List.set_cons_succ]
              refine' take_at (i := 11) (d := 95) (v := _) rfl rfl (by kernel_rfl) (by kernel_rfl) (by kernel_rfl) (fun _ _ _ h => h) (Or.inl ⟨by rfl, ?h11⟩) (HSX.out _ (Below.refl _ _)) ?_
              case h11 =>
                intro w hSw
                obtain ⟨t0, t1⟩ := hSw
                go_simp
                with_reducible rfl
              simp only [List.setIfInBounds_toArray, List.set_cons_zero, List.set_cons_succ]
              refine' take_at (i := 12) (d := 96) (v := _) rfl rfl (by kernel_rfl) (by kernel_rfl) (by kernel_rfl) (fun _ _ _ h => h) (Or.inl ⟨by rfl, ?h12⟩) (HSX.out _ (Below.refl _ _)) ?_
              case h12 =>
                intro w hSw
                obtain ⟨t0, t1⟩ := hSw
                go_simp
                with_reducible rfl
              simp only [List.setIfInBounds_toArray, List.set_cons_zero, List.set_cons_succ]
              refine' take_at (i := 13) (d := 97) (v := _) rfl rfl (by kernel_rfl) (by kernel_rfl) (by kernel_rfl) (fun _ _ _ h => h) (Or.inl ⟨by rfl, ?h13⟩) (HSX.out _ (Below.refl _ _)) ?_
              case h13 =>
                intro w hSw
                obtain ⟨t0, t1⟩ := hSw
                go_simp
                with_reducible rfl
              simp only [List.setIfInBounds_toArray, List.set_cons_zero, List.set_cons_succ]
              refine' take_at (i := 14) (d := 98) (v := _) rfl rfl (by kernel_rfl) (by kernel_rfl) (by kernel_rfl) (fun _ _ _ h => h) (Or.inl ⟨by rfl, ?h14⟩) (HSX.out _ (Below.refl _ _)) ?_
              case h14 =>
                intro w hSw
                obtain ⟨t0, t1⟩ := hSw
                go_simp
                with_reducible rfl
              simp only [List.setIfInBounds_toArray, List.set_cons_zero, List.set_cons_succ]
              refine' take_at (i := 15) (d := 99) (v := _) rfl rfl (by kernel_rfl) (by kernel_rfl) (by kernel_rfl) (fun _ _ _ h => h) (Or.inl ⟨by rfl, ?h15⟩) (HSX.out _ (Below.refl _ _)) ?_
              case h15 =>
                intro w hSw
                obtain ⟨t0, t1⟩ := hSw
                go_simp
                with_reducible rfl
              simp only [List.setIfInBounds_toArray, List.set_cons_zero, List.set_cons_succ]
              refine' take_at (i := 16) (d := 100) (v := _) rfl rfl (by kernel_rfl) (by kernel_rfl) (by kernel_rfl) (fun _ _ _ h => h) (Or.inl ⟨by rfl, ?h16⟩) (HSX.out _ (Below.refl _ _)) ?_
              case h16 =>
                intro w hSw
                obtain ⟨t0, t1⟩ := hSw
                go_simp
                with_reducible rfl
              simp only [List.setIfInBounds_toArray, List.set_cons_zero, List.set_cons_succ]
              refine' take_at (i := 17) (d := 101) (v := _) rfl rfl (by kernel_rfl) (by kernel_rfl) (by kernel_rfl) (fun _ _ _ h => h) (Or.inl ⟨by rfl, ?h17⟩) (HSX.out _ (Below.refl _ _)) ?_
              case h17 =>
                intro w hSw
                obtain ⟨t0, t1⟩ := hSw
                go_simp
                with_reducible rfl
              simp only [List.setIfInBounds_toArray, List.set_cons_zero, List.set_cons_succ]
              refine' take_at (i := 18) (d := 102) (v := _) rfl rfl (by kernel_rfl) (by kernel_rfl) (by kernel_rfl) (fun _ _ _ h => h) (Or.inl ⟨by rfl, ?h18⟩) (HSX.out _ (Below.refl _ _)) ?_
              case h18 =>
                intro w hSw
                obtain ⟨t0, t1⟩ := hSw
                go_simp
                with_reducible rfl
              simp only [List.setIfInBounds_toArray, List.set_cons_zero, List.set_cons_succ]
              refine' take_at (i := 19) (d := 103) (v := _) rfl rfl (by kernel_rfl) (by kernel_rfl) (by kernel_rfl) (fun _ _ _ h => h) (Or.inl ⟨by rfl, ?h19⟩) (HSX.out _ (Below.refl _ _)) ?_
              case h19 =>
                intro w hSw
                obtain ⟨t0, t1⟩ := hSw
                go_simp
                with_reducible rfl
              simp only [List.setIfInBounds_toArray, List.set_cons_zero, List.set_cons_succ]
              refine' take_at (i := 20) (d := 104) (v := _) rfl rfl (by kernel_rfl) (by kernel_rfl) (by kernel_rfl) (fun _ _ _ h => h) (Or.inl ⟨by rfl, ?h20⟩) (HSX.out _ (Below.refl _ _)) ?_
              case h20 =>
                intro w hSw
                obtain ⟨t0, t1⟩ := hSw
                go_simp
                with_reducible rfl
              simp only [List.setIfInBounds_toArray, List.set_cons_zero, List.set_cons_succ]
              refine' take_at (i := 21) (d := 105) (v := _) rfl rfl (by kernel_rfl) (by kernel_rfl) (by kernel_rfl) (fun _ _ _ h => h) (Or.inl ⟨by rfl, ?h21⟩) (HSX.out _ (Below.refl _ _)) ?_
              case h21 =>
                intro w hSw
                obtain ⟨t0, t1⟩ := hSw
                go_simp
                with_reducible rfl
              simp only [List.setIfInBounds_toArray, List.set_cons_zero, List.set_cons_succ]
              refine' take_at (i := 22) (d := 106) (v := _) rfl rfl (by kernel_rfl) (by kernel_rfl) (by kernel_rfl) (fun _ _ _ h => h) (Or.inl ⟨by rfl, ?h22⟩) (HSX.out _ (Below.refl _ _)) ?_
              case h22 =>
                intro w hSw
                obtain ⟨t0, t1⟩ := hSw
                go_simp
                with_reducible rfl
              simp only [List.setIfInBounds_toArray, List.set_cons_zero, List.set_cons_succ]
              refine' take_at (i := 23) (d := 107) (v := _) rfl rfl (by kernel_rfl) (by kernel_rfl) (by kernel_rfl) (fun _ _ _ h => h) (Or.inl ⟨by rfl, ?h23⟩) (HSX.out _ (Below.refl _ _)) ?_
              case h23 =>
                intro w hSw
                obtain ⟨t0, t1⟩ := hSw
                go_simp
                with_reducible rfl
              simp only [List.setIfInBounds_toArray, List.set_cons_zero, List.set_cons_succ]
              refine' take_at (i := 24) (d := 108) (v := _) rfl rfl (by kernel_rfl) (by kernel_rfl) (by kernel_rfl) (fun _ _ _ h => h) (Or.inl ⟨by rfl, ?h24⟩) (HSX.out _ (Below.refl _ _)) ?_
              case h24 =>
                intro w hSw
                obtain ⟨t0, t1⟩ := hSw
                go_simp
                with_reducible rfl
              simp only [List.setIfInBounds_toArray, List.set_cons_zero, List.set_cons_succ]
              refine' take_at (i := 25) (d := 109) (v := _) rfl rfl (by kernel_rfl) (by kernel_rfl) (by kernel_rfl) (fun _ _ _ h => h) (Or.inl ⟨by rfl, ?h25⟩) (HSX.out _ (Below.refl _ _)) ?_
              case h25 =>
                intro w hSw
                obtain ⟨t0, t1⟩ := hSw
                go_simp
                with_reducible rfl
              simp only [List.setIfInBounds_toArray, List.set_cons_zero, List.set_cons_succ]
              refine' take_at (i := 26) (d := 110) (v := _) rfl rfl (by kernel_rfl) (by kernel_rfl) (by kernel_rfl) (fun _ _ _ h => h) (Or.inl ⟨by rfl, ?h26⟩) (HSX.out _ (Below.refl _ _)) ?_
              case h26 =>
                intro w hSw
                obtain ⟨t0, t1⟩ := hSw
                go_simp
                with_reducible rfl
              simp only [List.setIfInBounds_toArray, List.set_cons_zero, List.set_cons_succ]
              refine' take_at (i := 27) (d := 111) (v := _) rfl rfl (by kernel_rfl) (by kernel_rfl) (by kernel_rfl) (fun _ _ _ h => h) (Or.inl ⟨by rfl, ?h27⟩) (HSX.out _ (Below.refl _ _)) ?_
              case h27 =>
                intro w hSw
                obtain ⟨t0, t1⟩ := hSw
                go_simp
                with_reducible rfl
              simp only [List.setIfInBounds_toArray, List.set_cons_zero, List.set_cons_succ]
              refine' take_at (i := 28) (d := 112) (v := _) rfl rfl (by kernel_rfl) (by kernel_rfl) (by kernel_rfl) (fun _ _ _ h => h) (Or.inl ⟨by rfl, ?h28⟩) (HSX.out _ (Below.refl _ _)) ?_
              case h28 =>
                intro w hSw
                obtain ⟨t0, t1⟩ := hSw
                go_simp
                with_reducible rfl
              simp only [List.setIfInBounds_toArray, List.set_cons_zero, List.set_cons_succ]
              refine' take_at (i := 29) (d := 113) (v := _) rfl rfl (by kernel_rfl) (by kernel_rfl) (by kernel_rfl) (fun _ _ _ h => h) (Or.inl ⟨by rfl, ?h29⟩) (HSX.out _ (Below.refl _ _)) ?_
              case h29 =>
                intro w hSw
                obtain ⟨t0, t1⟩ := hSw
                go_simp
                with_reducible rfl
              simp only [List.setIfInBounds_toArray, List.set_cons_zero, List.set_cons_succ]
              refine' take_at (i := 30) (d := 114) (v := _) rfl rfl (by kernel_rfl) (by kernel_rfl) (by kernel_rfl) (fun _ _ _ h => h) (Or.inl ⟨by rfl, ?h30⟩) (HSX.out _ (Below.refl _ _)) ?_
              case h30 =>
                intro w hSw
                obtain ⟨t0, t1⟩ := hSw
                go_simp
                with_reducible rfl
              simp only [List.setIfInBounds_toArray, List.set_cons_zero, List.set_cons_succ]
              refine' take_at (i := 31) (d := 115) (v := _) rfl rfl (by kernel_rfl) (by kernel_rfl) (by kernel_rfl) (fun _ _ _ h => h) (Or.inl ⟨by rfl, ?h31⟩) (HSX.out _ (Below.refl _ _)) ?_
              case h31 =>
                intro w hSw
                obtain ⟨t0, t1⟩ := hSw
                go_simp
                with_reducible rfl
              simp only [List.setIfInBounds_toArray, List.set_cons_zero, List.set_cons_succ]
              refine' take_at (i := 32) (d := 116) (v := _) rfl rfl (by kernel_rfl) (by kernel_rfl) (by kernel_rfl) (fun _ _ _ h => h) (Or.inl ⟨by rfl, ?h32⟩) (HSX.out _ (Below.refl _ _)) ?_
              case h32 =>
                intro w hSw
                obtain ⟨t0, t1⟩ := hSw
                go_simp
                with_reducible rfl
              simp only [List.setIfInBounds_toArray, List.set_cons_zero, List.set_cons_succ]
              refine' take_at (i := 33) (d := 117) (v := _) rfl rfl (by kernel_rfl) (by kernel_rfl) (by kernel_rfl) (fun _ _ _ h => h) (Or.inl ⟨by rfl, ?h33⟩) (HSX.out _ (Below.refl _ _)) ?_
              case h33 =>
                intro w hSw
                obtain ⟨t0, t1⟩ := hSw
                go_simp
                with_reducible rfl
              simp only [List.setIfInBounds_toArray, List.set_cons_zero, List.set_cons_succ]
              refine' take_at (i := 34) (d := 118) (v := _) rfl rfl (by kernel_rfl) (by kernel_rfl) (by kernel_rfl) (fun _ _ _ h => h) (Or.inl ⟨by rfl, ?h34⟩) (HSX.out _ (Below.refl _ _)) ?_
              case h34 =>
                intro w hSw
                obtain ⟨t0, t1⟩ := hSw
                go_simp
                with_reducible rfl
              simp only [List.setIfInBounds_toArray, List.set_cons_zero, List.set_cons_succ]
              refine wpAnyH_ready (rs := [35]) (by kernel_rfl) (by simp) ?_
              refine AllReadyH.cons (o := _) rfl (fun KQ hKQ => ?_) AllReadyH.nil
              go_simp
              refine (H9.out.1.live HS.out y.id true HL.out.1).mono ?_
              rintro e w10 ⟨rfl, hM10, hb10⟩
              have H10 : Hid (Mine15 LS W w10 q ((k : Int) + 2) s6 F6 ∧ Below w7.heap.size w7 w10 ∧ Below wX.heap.size wX w10) := ⟨hM10, H9.out.2.trans (hb10.mono H9.out.2.size), hb10⟩
              clear hM10 hb10
              refine hKQ.out _ _ (HSX.out _ H10.out.2.2) (fun _ => ?_)
              clear hKQ KQ
              refine' take_at (i := 36) (d := 120) (v := _) rfl rfl (by kernel_rfl) (by kernel_rfl) (by kernel_rfl) (fun _ _ _ h => h) (Or.inl ⟨by rfl, ?h36⟩) (HSX.out _ H10.out.2.2) ?_
              case h36 =>
                intro w hSw
                clear hSw
                go_simp
                with_reducible rfl
              simp only [List.setIfInBounds_toArray, List.set_cons_zero, List.set_cons_succ]
              refine' take_at (i := 37) (d := 121) (v := _) rfl rfl (by kernel_rfl) (by kernel_rfl) (by kernel_rfl) (fun _ _ _ h => h) (Or.inl ⟨by rfl, ?h37⟩) (HSX.out _ H10.out.2.2) ?_
              case h37 =>
                intro w hSw
                clear hSw
                go_simp
                with_reducible rfl
              simp only [List.setIfInBounds_toArray, List.set_cons_zero, List.set_cons_succ]
              refine wpAnyH_done (by kernel_rfl) ?_ _
              go_wp2
              go_roundw
              case rel => exact ⟨i + 1, by omega, by go_num, H10.out.2.1, H10.out.1⟩
              case measure => simp [intOf]; omega
            · obtain rfl : i = 0 := by omega
              rw [Nat.add_zero] at d1
              go_upto_region 26 with fail
              refine wp_region_held_drew (S := fun w' => w'.cell? ⟨ga, oa, none⟩ = some (.int .i64 y.id)) (by kernel_rfl) d1 (fun _ => ?_)
              have H9 : Hid (Mine15 LS W wr.drew q ((k : Int) + 2) s6 F6 ∧ Below w7.heap.size w7 wr.drew) := ⟨H8.out.1.later HS.out (Below.refl _ _).drew, H8.out.2.drew⟩
              have HSX : Hid (∀ w', Below wr.drew.heap.size wr.drew w' → w'.cell? ⟨ga, oa, none⟩ = some (.int .i64 y.id)) := by
                have h : (fun w' : World => w'.cell? ⟨ga, oa, none⟩ = some (.int .i64 y.id)) wr.drew := d1
                exact fun w' hb => Below.kept hb h
              clear d1 H8
              generalize wr.drew = wX at *
              refine' take_at (i := 0) (d := 84) (v := _) rfl rfl (by kernel_rfl) (by kernel_rfl) (by kernel_rfl) (fun _ _ _ h => h) (Or.inl ⟨by rfl, ?h0⟩) (HSX.out _ (Below.refl _ _)) ?_
              case h0 =>
                intro w hSw
                have t0 := hSw
                go_simp
                with_reducible rfl
              simp only [List.setIfInBounds_toArray, List.set_cons_zero, List.set_cons_succ]
              refine' take_at (i := 1) (d := 85) (v := _) rfl rfl (by kernel_rfl) (by kernel_rfl) (by kernel_rfl) (fun _ _ _ h => h) (Or.inl ⟨by rfl, ?h1⟩) (HSX.out _ (Below.refl _ _)) ?_
              case h1 =>
                intro w hSw
                have t0 := hSw
                go_simp
                with_reducible rfl
              simp only [List.setIfInBounds_toArray, List.set_cons_zero, List.set_cons_succ]
              refine' take_at (i := 2) (d := 86) (v := _) rfl rfl (by kernel_rfl) (by kernel_rfl) (by kernel_rfl) (fun _ _ _ h => h) (Or.inl ⟨by rfl, ?h2⟩) (HSX.out _ (Below.refl _ _)) ?_
              case h2 =>
                intro w hSw
                have t0 := hSw
                go_simp
                with_reducible rfl
              simp only [List.setIfInBounds_toArray, List.set_cons_zero, List.set_cons_succ]
              refine' take_at (i := 3) (d := 87) (v := _) rfl rfl (by kernel_rfl) (by kernel_rfl) (by kernel_rfl) (fun _ _ _ h => h) (Or.inl ⟨by rfl, ?h3⟩) (HSX.out _ (Below.refl _ _)) ?_
              case h3 =>
                intro w hSw
                have t0 := hSw
                go_simp
                with_reducible rfl
              simp only [List.setIfInBounds_toArray, List.set_cons_zero, List.set_cons_succ]
              refine' take_at (i := 4) (d := 88) (v := _) rfl rfl (by kernel_rfl) (by kernel_rfl) (by kernel_rfl) (fun _ _ _ h => h) (Or.inl ⟨by rfl, ?h4⟩) (HSX.out _ (Below.refl _ _)) ?_
              case h4 =>
                intro w hSw
                have t0 := hSw
                go_simp
                with_reducible rfl
              simp only [List.setIfInBounds_toArray, List.set_cons_zero, List.set_cons_succ]
              refine' take_at (i := 5) (d := 89) (v := _) rfl rfl (by kernel_rfl) (by kernel_rfl) (by kernel_rfl) (fun _ _ _ h => h) (Or.inl ⟨by rfl, ?h5⟩) (HSX.out _ (Below.refl _ _)) ?_
              case h5 =>
                intro w hSw
                have t0 := hSw
                go_simp
                with_reducible rfl
              simp only [List.setIfInBounds_toArray, List.set_cons_zero, List.set_cons_succ]
              refine' take_at (i := 6) (d := 90) (v := _) rfl rfl (by kernel_rfl) (by kernel_rfl) (by kernel_rfl) (fun _ _ _ h => h) (Or.inl ⟨by rfl, ?h6⟩) (HSX.out _ (Below.refl _ _)) ?_
              case h6 =>
                intro w hSw
                have t0 := hSw
                go_simp
                with_reducible rfl
              simp only [List.setIfInBounds_toArray, List.set_cons_zero, List.set_cons_succ]
              refine' take_at (i := 7) (d := 91) (v := _) rfl rfl (by kernel_rfl) (by kernel_rfl) (by kernel_rfl) (fun _ _ _ h => h) (Or.inl ⟨by rfl, ?h7⟩) (HSX.out _ (Below.refl _ _)) ?_
              case h7 =>
                intro w hSw
                have t0 := hSw
                go_simp
                with_reducible rfl
              simp only [List.setIfInBounds_toArray, List.set_cons_zero, List.set_cons_succ]
              refine' take_at (i := 8) (d := 92) (v := _) rfl rfl (by kernel_rfl) (by kernel_rfl) (by kernel_rfl) (fun _ _ _ h => h) (Or.inl ⟨by rfl, ?h8⟩) (HSX.out _ (Below.refl _ _)) ?_
              case h8 =>
                intro w hSw
                have t0 := hSw
                go_simp
                with_reducible rfl
              simp only [List.setIfInBounds_toArray, List.set_cons_zero, List.set_cons_succ]
              refine' take_at (i := 9) (d := 93) (v := _) rfl rfl (by kernel_rfl) (by kernel_rfl) (by kernel_rfl) (fun _ _ _ h => h) (Or.inl ⟨by rfl, ?h9⟩) (HSX.out _ (Below.refl _ _)) ?_
              case h9 =>
                intro w hSw
                have t0 := hSw
                go_simp
                with_reducible rfl
              simp only [List.setIfInBounds_toArray, List.set_cons_zero, List.set_cons_succ]
              refine' take_at (i := 10) (d := 94) (v := _) rfl rfl (by kernel_rfl) (by kernel_rfl) (by kernel_rfl) (fun _ _ _ h => h) (Or.inl ⟨by rfl, ?h10⟩) (HSX.out _ (Below.refl _ _)) ?_
              case h10 =>
                intro w hSw
                have t0 := hSw
                go_simp
                with_reducible rfl
              simp only [List.setIfInBounds_toArray, List.set_cons_zero, List.set_cons_succ]
              refine' take_at (i := 11) (d := 95) (v := _) rfl rfl (by kernel_rfl) (by kernel_rfl) (by kernel_rfl) (fun _ _ _ h => h) (Or.inl ⟨by rfl, ?h11⟩) (HSX.out _ (Below.refl _ _)) ?_
              case h11 =>
                intro w hSw
                have t0 := hSw
                go_simp
                with_reducible rfl
              simp only [List.setIfInBounds_toArray, List.set_cons_zero, List.set_cons_succ]
              refine' take_at (i := 12) (d := 96) (v := _) rfl rfl (by kernel_rfl) (by kernel_rfl) (by kernel_rfl) (fun _ _ _ h => h) (Or.inl ⟨by rfl, ?h12⟩) (HSX.out _ (Below.refl _ _)) ?_
              case h12 =>
                intro w hSw
                have t0 := hSw
                go_simp
                with_reducible rfl
              simp only [List.setIfInBounds_toArray, List.set_cons_zero, List.set_cons_succ]
              refine' take_at (i := 13) (d := 97) (v := _) rfl rfl (by kernel_rfl) (by kernel_rfl) (by kernel_rfl) (fun _ _ _ h => h) (Or.inl ⟨by rfl, ?h13⟩) (HSX.out _ (Below.refl _ _)) ?_
              case h13 =>
                intro w hSw
                have t0 := hSw
                go_simp
                with_reducible rfl
              simp only [List.setIfInBounds_toArray, List.set_cons_zero, List.set_cons_succ]
              refine' take_at (i := 14) (d := 98) (v := _) rfl rfl (by kernel_rfl) (by kernel_rfl) (by kernel_rfl) (fun _ _ _ h => h) (Or.inl ⟨by rfl, ?h14⟩) (HSX.out _ (Below.refl _ _)) ?_
              case h14 =>
                intro w hSw
                have t0 := hSw
                go_simp
                with_reducible rfl
              simp only [List.setIfInBounds_toArray, List.set_cons_zero, List.set_cons_succ]
              refine' take_at (i := 15) (d := 99) (v := _) rfl rfl (by kernel_rfl) (by kernel_rfl) (by kernel_rfl) (fun _ _ _ h => h) (Or.inl ⟨by rfl, ?h15⟩) (HSX.out _ (Below.refl _ _)) ?_
              case h15 =>
                intro w hSw
                have t0 := hSw
                go_simp
                with_reducible rfl
              simp only [List.setIfInBounds_toArray, List.set_cons_zero, List.set_cons_succ]
              refine' take_at (i := 16) (d := 100) (v := _) rfl rfl (by kernel_rfl) (by kernel_rfl) (by kernel_rfl) (fun _ _ _ h => h) (Or.inl ⟨by rfl, ?h16⟩) (HSX.out _ (Below.refl _ _)) ?_
              case h16 =>
                intro w hSw
                have t0 := hSw
                go_simp
                with_reducible rfl
              simp only [List.setIfInBounds_toArray, List.set_cons_zero, List.set_cons_succ]
              refine' take_at (i := 17) (d := 101) (v := undef) rfl rfl (by kernel_rfl) (by kernel_rfl) (by kernel_rfl) (fun _ _ _ h => h) (Or.inr ⟨by rfl, rfl⟩) (HSX.out _ (Below.refl _ _)) ?_
              simp only [List.setIfInBounds_toArray, List.set_cons_zero, List.set_cons_succ]
              refine' take_at (i := 18) (d := 102) (v := undef) rfl rfl (by kernel_rfl) (by kernel_rfl) (by kernel_rfl) (fun _ _ _ h => h) (Or.inr ⟨by rfl, rfl⟩) (HSX.out _ (Below.refl _ _)) ?_
              simp only [List.setIfInBounds_toArray, List.set_cons_zero, List.set_cons_succ]
              refine' take_at (i := 19) (d := 103) (v := undef) rfl rfl (by kernel_rfl) (by kernel_rfl) (by kernel_rfl) (fun _ _ _ h => h) (Or.inr ⟨by rfl, rfl⟩) (HSX.out _ (Below.refl _ _)) ?_
              simp only [List.setIfInBounds_toArray, List.set_cons_zero, List.set_cons_succ]
              refine' take_at (i := 20) (d := 104) (v := undef) rfl rfl (by kernel_rfl) (by kernel_rfl) (by kernel_rfl) (fun _ _ _ h => h) (Or.inr ⟨by rfl, rfl⟩) (HSX.out _ (Below.refl _ _)) ?_
              simp only [List.setIfInBounds_toArray, List.set_cons_zero, List.set_cons_succ]
              refine' take_at (i := 21) (d := 105) (v := undef) rfl rfl (by kernel_rfl) (by kernel_rfl) (by kernel_rfl) (fun _ _ _ h => h) (Or.inr ⟨by rfl, rfl⟩) (HSX.out _ (Below.refl _ _)) ?_
              simp only [List.setIfInBounds_toArray, List.set_cons_zero, List.set_cons_succ]
              refine' take_at (i := 22) (d := 106) (v := undef) rfl rfl (by kernel_rfl) (by kernel_rfl) (by kernel_rfl) (fun _ _ _ h => h) (Or.inr ⟨by rfl, rfl⟩) (HSX.out _ (Below.refl _ _)) ?_
              simp only [List.setIfInBounds_toArray, List.set_cons_zero, List.set_cons_succ]
              refine' take_at (i := 23) (d := 107) (v := undef) rfl rfl (by kernel_rfl) (by kernel_rfl) (by kernel_rfl) (fun _ _ _ h => h) (Or.inr ⟨by rfl, rfl⟩) (HSX.out _ (Below.refl _ _)) ?_
              simp only [List.setIfInBounds_toArray, List.set_cons_zero, List.set_cons_succ]
              refine' take_at (i := 24) (d := 108) (v := undef) rfl rfl (by kernel_rfl) (by kernel_rfl) (by kernel_rfl) (fun _ _ _ h => h) (Or.inr ⟨by rfl, rfl⟩) (HSX.out _ (Below.refl _ _)) ?_
              simp only [List.setIfInBounds_toArray, List.set_cons_zero, List.set_cons_succ]
              refine' take_at (i := 25) (d := 109) (v := undef) rfl rfl (by kernel_rfl) (by kernel_rfl) (by kernel_rfl) (fun _ _ _ h => h) (Or.inr ⟨by rfl, rfl⟩) (HSX.out _ (Below.refl _ _)) ?_
              simp only [List.setIfInBounds_toArray, List.set_cons_zero, List.set_cons_succ]
              refine' take_at (i := 26) (d := 110) (v := undef) rfl rfl (by kernel_rfl) (by kernel_rfl) (by kernel_rfl) (fun _ _ _ h => h) (Or.inr ⟨by rfl, rfl⟩) (HSX.out _ (Below.refl _ _)) ?_
              simp only [List.setIfInBounds_toArray, List.set_cons_zero, List.set_cons_succ]
              refine' take_at (i := 27) (d := 111) (v := _) rfl rfl (by kernel_rfl) (by kernel_rfl) (by kernel_rfl) (fun _ _ _ h => h) (Or.inl ⟨by rfl, ?h27⟩) (HSX.out _ (Below.refl _ _)) ?_
              case h27 =>
                intro w hSw
                have t0 := hSw
                go_simp
                with_reducible rfl
              simp only [List.setIfInBounds_toArray, List.set_cons_zero, List.set_cons_succ]
              refine' take_at (i := 28) (d := 112) (v := _) rfl rfl (by kernel_rfl) (by kernel_rfl) (by kernel_rfl) (fun _ _ _ h => h) (Or.inl ⟨by rfl, ?h28⟩) (HSX.out _ (Below.refl _ _)) ?_
              case h28 =>
                intro w hSw
                have t0 := hSw
                go_simp
                with_reducible rfl
              simp only [List.setIfInBounds_toArray, List.set_cons_zero, List.set_cons_succ]
              refine' take_at (i := 29) (d := 113) (v := _) rfl rfl (by kernel_rfl) (by kernel_rfl) (by kernel_rfl) (fun _ _ _ h => h) (Or.inl ⟨by rfl, ?h29⟩) (HSX.out _ (Below.refl _ _)) ?_
              case h29 =>
                intro w hSw
                have t0 := hSw
                go_simp
                with_reducible rfl
              simp only [List.setIfInBounds_toArray, List.set_cons_zero, List.set_cons_succ]
              refine' take_at (i := 30) (d := 114) (v := _) rfl rfl (by kernel_rfl) (by kernel_rfl) (by kernel_rfl) (fun _ _ _ h => h) (Or.inl ⟨by rfl, ?h30⟩) (HSX.out _ (Below.refl _ _)) ?_
              case h30 =>
                intro w hSw
                have t0 := hSw
                go_simp
                with_reducible rfl
              simp only [List.setIfInBounds_toArray, List.set_cons_zero, List.set_cons_succ]
              refine' take_at (i := 31) (d := 115) (v := _) rfl rfl (by kernel_rfl) (by kernel_rfl) (by kernel_rfl) (fun _ _ _ h => h) (Or.inl ⟨by rfl, ?h31⟩) (HSX.out _ (Below.refl _ _)) ?_
              case h31 =>
                intro w hSw
                have t0 := hSw
                go_simp
                with_reducible rfl
              simp only [List.setIfInBounds_toArray, List.set_cons_zero, List.set_cons_succ]
              refine' take_at (i := 32) (d := 116) (v := _) rfl rfl (by kernel_rfl) (by kernel_rfl) (by kernel_rfl) (fun _ _ _ h => h) (Or.inl ⟨by rfl, ?h32⟩) (HSX.out _ (Below.refl _ _)) ?_
              case h32 =>
                intro w hSw
                have t0 := hSw
                go_simp
                with_reducible rfl
              simp only [List.setIfInBounds_toArray, List.set_cons_zero, List.set_cons_succ]
              refine' take_at (i := 33) (d := 117) (v := _) rfl rfl (by kernel_rfl) (by kernel_rfl) (by kernel_rfl) (fun _ _ _ h => h) (Or.inl ⟨by rfl, ?h33⟩) (HSX.out _ (Below.refl _ _)) ?_
              case h33 =>
                intro w hSw
                have t0 := hSw
                go_simp
                with_reducible rfl
              simp only [List.setIfInBounds_toArray, List.set_cons_zero, List.set_cons_succ]
              refine' take_at (i := 34) (d := 118) (v := _) rfl rfl (by kernel_rfl) (by kernel_rfl) (by kernel_rfl) (fun _ _ _ h => h) (Or.inl ⟨by rfl, ?h34⟩) (HSX.out _ (Below.refl _ _)) ?_
              case h34 =>
                intro w hSw
                have t0 := hSw
                go_simp
                with_reducible rfl
              simp only [List.setIfInBounds_toArray, List.set_cons_zero, List.set_cons_succ]
              refine wpAnyH_ready (rs := [35]) (by kernel_rfl) (by simp) ?_
              refine AllReadyH.cons (o := _) rfl (fun KQ hKQ => ?_) AllReadyH.nil
              go_simp
              refine (H9.out.1.live HS.out y.id true HL.out.1).mono ?_
              rintro e w10 ⟨rfl, hM10, hb10⟩
              have H10 : Hid (Mine15 LS W w10 q ((k : Int) + 2) s6 F6 ∧ Below w7.heap.size w7 w10 ∧ Below wX.heap.size wX w10) := ⟨hM10, H9.out.2.trans (hb10.mono H9.out.2.size), hb10⟩
              clear hM10 hb10
              refine hKQ.out _ _ (HSX.out _ H10.out.2.2) (fun _ => ?_)
              clear hKQ KQ
              refine' take_at (i := 36) (d := 120) (v := _) rfl rfl (by kernel_rfl) (by kernel_rfl) (by kernel_rfl) (fun _ _ _ h => h) (Or.inl ⟨by rfl, ?h36⟩) (HSX.out _ H10.out.2.2) ?_
              case h36 =>
                intro w hSw
                clear hSw
                go_simp
                with_reducible rfl
              simp only [List.setIfInBounds_toArray, List.set_cons_zero, List.set_cons_succ]
              refine' take_at (i := 37) (d := 121) (v := _) rfl rfl (by kernel_rfl) (by kernel_rfl) (by kernel_rfl) (fun _ _ _ h => h) (Or.inl ⟨by rfl, ?h37⟩) (HSX.out _ H10.out.2.2) ?_
              case h37 =>
                intro w hSw
                clear hSw
                go_simp
                with_reducible rfl
              simp only [List.setIfInBounds_toArray, List.set_cons_zero, List.set_cons_succ]
              refine wpAnyH_done (by kernel_rfl) ?_ _
              go_wp2
              go_roundw
              case rel => exact ⟨0 + 1, by omega, by go_num, H10.out.2.1, H10.out.1⟩
              case measure => simp [intOf]; omega
          · have hin' : ¬ (i : Int) < (n3 : Int) := by omega
            have hn5 : ¬ (5 : Int) < (n3 : Int) := by omega
            go_wp2
            go_roundw
            case rel => exact ⟨k + 1, last, s6, F6, by omega, by go_num, rfl, by rw [show ((k + 1 : Nat) : Int) + 1 = (k : Int) + 2 by omega]; exact H8.out.1, HA.out.2.1, HA.out.2.2⟩
            case measure => simp [intOf]; omega
      have hob2 : (x.op == 2) = false := by simp [ho2]
      by_cases ho3 : x.op = 3
      · have hob3 : (x.op == 3) = true := by simp [ho3]
        clear ho0 ho2 ho3
        obtain ⟨s6, hs6⟩ : ∃ s6, s6 = Sq.tick s := ⟨_, rfl⟩
        have HZ : Hid (s6 = Sq.tick s) := hs6
        have HRN : Hid (s6.room = 5 ∧ s6.next = last + 1) := by
          rw [hs6]
          exact H3.out.2
        clear hs6
        go_wp2_with fail
        refine (H3.out.1.tick HS.out hkm (Sq.over s) s6 rfl HZ.out.symm).mono ?_
        rintro e w6 ⟨F6, vt, rfl, hit, hot, hM6, hmv⟩
        have H6 : Hid (Mine15 LS W w6 q ((k : Int) + 2) s6 F6) := by rw [show (k : Int) + 2 = (k : Int) + 1 + 1 by omega]; exact hM6
        obtain ⟨at3, nt3, ct3, rfl, hnt3, hct3⟩ := hit
        clear hM6 hmv H3 hot hnt3 hct3
        clear c0 c1 c2
        obtain ⟨A, hA⟩ : ∃ A, A = s6.l.length := ⟨_, rfl⟩
        have HA : Hid (A = s6.l.length ∧ s6.room = 5 ∧ s6.next = last + 1) := ⟨hA, HRN.out.1, HRN.out.2⟩
        have hA5 : A ≤ 5 := by have h1 := H6.out.fine.len; have h2 := HA.out.2.1; omega
        clear hA
        go_wp2_with fail
        refine (H6.out.all HS.out).mono ?_
        rintro e w7 ⟨va, rfl, hia, hoa, hM7, hb7⟩
        obtain ⟨a3, n3, c3, rfl, hn3, hc3⟩ := hia
        have j0 : n3 = A := by rw [hn3, HA.out.1]; unfold Sq.all; simp
        have H7 : Hid (Mine15 LS W w7 q ((k : Int) + 2) s6 F6 ∧ Bi w7 (.slice a3 n3 c3) (Sq.all s6)) := ⟨hM7, a3, n3, c3, rfl, hn3, hc3⟩
        clear hM7 hb7 hoa hn3 hc3 H6
        subst j0
        go_wp2
        go_loopw [10] (fun j wx => ∃ i : Nat, i ≤ n3 ∧ j = .int .i64 (i : Int) ∧ Below w7.heap.size w7 wx ∧ Mine15 LS W wx q ((k : Int) + 2) s6 F6) (fun j _ => n3 - (intOf j).toNat)
        case atStart => exact ⟨0, Nat.zero_le _, rfl, Below.refl _ _, H7.out.1⟩
        case round =>
          obtain ⟨i, hi, rfl, hbw, hM8⟩ := hrel
          have H8 : Hid (Mine15 LS W wr q ((k : Int) + 2) s6 F6 ∧ Below w7.heap.size w7 wr) := ⟨hM8, hbw⟩
          clear hM8 hbw
          by_cases hin : i < n3
          · have hin' : (i : Int) < (n3 : Int) := by omega
            have hi0 : (0 : Int) ≤ (i : Int) := by omega
            have hwi : IntKind.wrap .i64 ((i : Int) + 1) = (i : Int) + 1 := by rw [IntKind.wrap_i64]; omega
            obtain ⟨y, hy⟩ : ∃ y, s6.l[i]? = some y := ⟨s6.l[i]'(by rw [← HA.out.1]; exact hin), List.getElem?_eq_getElem _⟩
            have hay : (Sq.all s6)[i]? = some y.id := by unfold Sq.all; simp [hy]
            have hyo := H7.out.1.fine.ok y (List.mem_of_getElem? hy)
            have y1 : ¬ y.id < 1 := by have := hyo.id1; omega
            have y2 : ¬ last < y.id := by have h1 := hyo.idn; have h2 := HA.out.2.2; omega
            have HL : Hid (Sq.has s6.l y.id = true ∧ s6.l[i]? = some y) := ⟨Sq.has_iff.2 ⟨y, List.mem_of_getElem? hy, rfl⟩, hy⟩
            obtain ⟨ga, oa, rfl, d0⟩ := H7.out.2.at15 hay
            clear hay hyo hy
            have d1 : wr.cell? ⟨ga, oa + i, none⟩ = some (.int .i64 y.id) := Below.kept H8.out.2 d0
            clear d0
            by_cases hi1 : 0 < i
            · have hi1' : (0 : Int) < (i : Int) := by omega
              obtain ⟨i', hi'⟩ : ∃ i', i = i' + 1 := ⟨i - 1, by omega⟩
              obtain ⟨z, hz⟩ : ∃ z, s6.l[i']? = some z := ⟨s6.l[i']'(by rw [← HA.out.1]; omega), List.getElem?_eq_getElem _⟩
              have hrs : ¬ y.id ≤ z.id := by
                have := Sq.rise_lt H7.out.1.fine.rises hz HL.out.2 (by omega)
                omega
              have haz : (Sq.all s6)[i']? = some z.id := by unfold Sq.all; simp [hz]
              obtain ⟨ga', oa', e9, d0⟩ := H7.out.2.at15 haz
              simp only [Option.some.injEq, Addr.mk.injEq, and_true] at e9
              obtain ⟨rfl, rfl⟩ := e9
              have d2 : wr.cell? ⟨ga, oa + i', none⟩ = some (.int .i64 z.id) := Below.kept H8.out.2 d0
              have hwj : IntKind.wrap .i64 ((i : Int) - 1) = (i' : Int) := by rw [IntKind.wrap_i64]; omega
              have i'0 : (0 : Int) ≤ (i' : Int) := by omega
              have i'n : (i' : Int) < (n3 : Int) := by omega
              clear hz haz d0 hi'
              go_upto_region 26 with fail
              refine wp_region_held_drew (S := fun w' => w'.cell? ⟨ga, oa + i, none⟩ = some (.int .i64 y.id) ∧ w'.cell? ⟨ga, oa + i', none⟩ = some (.int .i64 z.id)) (by kernel_rfl) ⟨d1, d2⟩ (fun _ => ?_)
              have H9 : Hid (Mine15 LS W wr.drew q ((k : Int) + 2) s6 F6 ∧ Below w7.heap.size w7 wr.drew) := ⟨H8.out.1.later HS.out (Below.refl _ _).drew, H8.out.2.drew⟩
              have HSX : Hid (∀ w', Below wr.drew.heap.size wr.drew w' → w'.cell? ⟨ga, oa + i, none⟩ = some (.int .i64 y.id) ∧ w'.cell? ⟨ga, oa + i', none⟩ = some (.int .i64 z.id)) := by
                have h : (fun w' : World => w'.cell? ⟨ga, oa + i, none⟩ = some (.int .i64 y.id) ∧ w'.cell? ⟨ga, oa + i', none⟩ = some (.int .i64 z.id)) wr.drew := ⟨d1, d2⟩
                exact fun w' hb => ⟨Below.kept hb h.1, Below.kept hb h.2⟩
              clear d1 d2 H8
              generalize wr.drew = wX at *
              refine' take_at (i := 0) (d := 84) (v := _) rfl rfl (by kernel_rfl) (by kernel_rfl) (by kernel_rfl) (fun _ _ _ h => h) (Or.inl ⟨by rfl, ?h0⟩) (HSX.out _ (Below.refl _ _)) ?_
              case h0 =>
                intro w hSw
                obtain ⟨t0, t1⟩ := hSw
                go_simp
                with_reducible rfl
              simp only [List.setIfInBounds_toArray, List.set_cons_zero, List.set_cons_succ]
              refine' take_at (i := 1) (d := 85) (v := _) rfl rfl (by kernel_rfl) (by kernel_rfl) (by kernel_rfl) (fun _ _ _ h => h) (Or.inl ⟨by rfl, ?h1⟩) (HSX.out _ (Below.refl _ _)) ?_
              case h1 =>
                intro w hSw
                obtain ⟨t0, t1⟩ := hSw
                go_simp
                with_reducible rfl
              simp only [List.setIfInBounds_toArray, List.set_cons_zero, List.set_cons_succ]
              refine' take_at (i := 2) (d := 86) (v := _) rfl rfl (by kernel_rfl) (by kernel_rfl) (by kernel_rfl) (fun _ _ _ h => h) (Or.inl ⟨by rfl, ?h2⟩) (HSX.out _ (Below.refl _ _)) ?_
              case h2 =>
                intro w hSw
                obtain ⟨t0, t1⟩ := hSw
                go_simp
                with_reducible rfl
              simp only [List.setIfInBounds_toArray, List.set_cons_zero, List.set_cons_succ]
              refine' take_at (i := 3) (d := 87) (v := _) rfl rfl (by kernel_rfl) (by kernel_rfl) (by kernel_rfl) (fun _ _ _ h => h) (Or.inl ⟨by rfl, ?h3⟩) (HSX.out _ (Below.refl _ _)) ?_
              case h3 =>
                intro w hSw
                obtain ⟨t0, t1⟩ := hSw
                go_simp
                with_reducible rfl
              simp only [List.setIfInBounds_toArray, List.set_cons_zero, List.set_cons_succ]
              refine' take_at (i := 4) (d := 88) (v := _) rfl rfl (by kernel_rfl) (by kernel_rfl) (by kernel_rfl) (fun _ _ _ h => h) (Or.inl ⟨by rfl, ?h4⟩) (HSX.out _ (Below.refl _ _)) ?_
              case h4 =>
                intro w hSw
                obtain ⟨t0, t1⟩ := hSw
                go_simp
                with_reducible rfl
              simp only [List.setIfInBounds_toArray, List.set_cons_zero, List.set_cons_succ]
              refine' take_at (i := 5) (d := 89) (v := _) rfl rfl (by kernel_rfl) (by kernel_rfl) (by kernel_rfl) (fun _ _ _ h => h) (Or.inl ⟨by rfl, ?h5⟩) (HSX.out _ (Below.refl _ _)) ?_
              case h5 =>
                intro w hSw
                obtain ⟨t0, t1⟩ := hSw
                go_simp
                with_reducible rfl
              simp only [List.setIfInBounds_toArray, List.set_cons_zero, List.set_cons_succ]
              refine' take_at (i := 6) (d := 90) (v := _) rfl rfl (by kernel_rfl) (by kernel_rfl) (by kernel_rfl) (fun _ _ _ h => h) (Or.inl ⟨by rfl, ?h6⟩) (HSX.out _ (Below.refl _ _)) ?_
              case h6 =>
                intro w hSw
                obtain ⟨t0, t1⟩ := hSw
                go_simp
                with_reducible rfl
              simp only [List.setIfInBounds_toArray, List.set_cons_zero, List.set_cons_succ]
              refine' take_at (i := 7) (d := 91) (v := _) rfl rfl (by kernel_rfl) (by kernel_rfl) (by kernel_rfl) (fun _ _ _ h => h) (Or.inl ⟨by rfl, ?h7⟩) (HSX.out _ (Below.refl _ _)) ?_
              case h7 =>
                intro w hSw
                obtain ⟨t0, t1⟩ := hSw
                go_simp
                with_reducible rfl
              simp only [List.setIfInBounds_toArray, List.set_cons_zero, List.set_cons_succ]
              refine' take_at (i := 8) (d := 92) (v := _) rfl rfl (by kernel_rfl) (by kernel_rfl) (by kernel_rfl) (fun _ _ _ h => h) (Or.inl ⟨by rfl, ?h8⟩) (HSX.out _ (Below.refl _ _)) ?_
              case h8 =>
                intro w hSw
                obtain ⟨t0, t1⟩ := hSw
                go_simp
                with_reducible rfl
              simp only [List.setIfInBounds_toArray, List.set_cons_zero, List.set_cons_succ]
              refine' take_at (i := 9) (d := 93) (v := _) rfl rfl (by kernel_rfl) (by kernel_rfl) (by kernel_rfl) (fun _ _ _ h => h) (Or.inl ⟨by rfl, ?h9⟩) (HSX.out _ (Below.refl _ _)) ?_
              case h9 =>
                intro w hSw
                obtain ⟨t0, t1⟩ := hSw
                go_simp
                with_reducible rfl
              simp only [List.setIfInBounds_toArray, List.set_cons_zero, List.set_cons_succ]
              refine' take_at (i := 10) (d := 94) (v := _) rfl rfl (by kernel_rfl) (by kernel_rfl) (by kernel_rfl) (fun _ _ _ h => h) (Or.inl ⟨by rfl, ?h10⟩) (HSX.out _ (Below.refl _ _)) ?_
              case h10 =>
                intro w hSw
                obtain ⟨t0, t1⟩ := hSw
                go_simp
                with_reducible rfl
              simp only [List.setIfInBounds_toArray, List.set_cons_zero, List.set_cons_succ]
              refine' take_at (i := 11) (d := 95) (v := _) rfl rfl (by kernel_rfl) (by kernel_rfl) (by kernel_rfl) (fun _ _ _ h => h) (Or.inl ⟨by rfl, ?h11⟩) (HSX.out _ (Below.refl _ _)) ?_
              case h11 =>
                intro w hSw
                obtain ⟨t0, t1⟩ := hSw
                go_simp
                with_reducible rfl
              simp only [List.setIfInBounds_toArray, List.set_cons_zero, List.set_cons_succ]
              refine' take_at (i := 12) (d := 96) (v := _) rfl rfl (by kernel_rfl) (by kernel_rfl) (by kernel_rfl) (fun _ _ _ h => h) (Or.inl ⟨by rfl, ?h12⟩) (HSX.out _ (Below.refl _ _)) ?_
              case h12 =>
                intro w hSw
                obtain ⟨t0, t1⟩ := hSw
                go_simp
                with_reducible rfl
              simp only [List.setIfInBounds_toArray, List.set_cons_zero, List.set_cons_succ]
              refine' take_at (i := 13) (d := 97) (v := _) rfl rfl (by kernel_rfl) (by kernel_rfl) (by kernel_rfl) (fun _ _ _ h => h) (Or.inl ⟨by rfl, ?h13⟩) (HSX.out _ (Below.refl _ _)) ?_
              case h13 =>
                intro w hSw
                obtain ⟨t0, t1⟩ := hSw
                go_simp
                with_reducible rfl
              simp only [List.setIfInBounds_toArray, List.set_cons_zero, List.set_cons_succ]
              refine' take_at (i := 14) (d := 98) (v := _) rfl rfl (by kernel_rfl) (by kernel_rfl) (by kernel_rfl) (fun _ _ _ h => h) (Or.inl ⟨by rfl, ?h14⟩) (HSX.out _ (Below.refl _ _)) ?_
              case h14 =>
                intro w hSw
                obtain ⟨t0, t1⟩ := hSw
                go_simp
                with_reducible rfl
              simp only [List.setIfInBounds_toArray, List.set_cons_zero, List.set_cons_succ]
              refine' take_at (i := 15) (d := 99) (v := _) rfl rfl (by kernel_rfl) (by kernel_rfl) (by kernel_rfl) (fun _ _ _ h => h) (Or.inl ⟨by rfl, ?h15⟩) (HSX.out _ (Below.refl _ _)) ?_
              case h15 =>
                intro w hSw
                obtain ⟨t0, t1⟩ := hSw
                go_simp
                with_reducible rfl
              simp only [List.setIfInBounds_toArray, List.set_cons_zero, List.set_cons_succ]
              refine' take_at (i := 16) (d := 100) (v := _) rfl rfl (by kernel_rfl) (by kernel_rfl) (by kernel_rfl) (fun _ _ _ h => h) (Or.inl ⟨by rfl, ?h16⟩) (HSX.out _ (Below.refl _ _)) ?_
              case h16 =>
                intro w hSw
                obtain ⟨t0, t1⟩ := hSw
                go_simp
                with_reducible rfl
              simp only [List.setIfInBounds_toArray, List.set_cons_zero, List.set_cons_succ]
              refine' take_at (i := 17) (d := 101) (v := _) rfl rfl (by kernel_rfl) (by kernel_rfl) (by kernel_rfl) (fun _ _ _ h => h) (Or.inl ⟨by rfl, ?h17⟩) (HSX.out _ (Below.refl _ _)) ?_
              case h17 =>
                intro w hSw
                obtain ⟨t0, t1⟩ := hSw
                go_simp
                with_reducible rfl
              simp only [List.setIfInBounds_toArray, List.set_cons_zero, List.set_cons_succ]
              refine' take_at (i := 18) (d := 102) (v := _) rfl rfl (by kernel_rfl) (by kernel_rfl) (by kernel_rfl) (fun _ _ _ h => h) (Or.inl ⟨by rfl, ?h18⟩) (HSX.out _ (Below.refl _ _)) ?_
              case h18 =>
                intro w hSw
                obtain ⟨t0, t1⟩ := hSw
                go_simp
                with_reducible rfl
              simp only [List.setIfInBounds_toArray, List.set_cons_zero, List.set_cons_succ]
              refine' take_at (i := 19) (d := 103) (v := _) rfl rfl (by kernel_rfl) (by kernel_rfl) (by kernel_rfl) (fun _ _ _ h => h) (Or.inl ⟨by rfl, ?h19⟩) (HSX.out _ (Below.refl _ _)) ?_
              case h19 =>
                intro w hSw
                obtain ⟨t0, t1⟩ := hSw
                go_simp
                with_reducible rfl
              simp only [List.setIfInBounds_toArray, List.set_cons_zero, List.set_cons_succ]
              refine' take_at (i := 20) (d := 104) (v := _) rfl rfl (by kernel_rfl) (by kernel_rfl) (by kernel_rfl) (fun _ _ _ h => h) (Or.inl ⟨by rfl, ?h20⟩) (HSX.out _ (Below.refl _ _)) ?_
              case h20 =>
                intro w hSw
                obtain ⟨t0, t1⟩ := hSw
                go_simp
                with_reducible rfl
              simp only [List.setIfInBounds_toArray, List.set_cons_zero, List.set_cons_succ]
              refine' take_at (i := 21) (d := 105) (v := _) rfl rfl (by kernel_rfl) (by kernel_rfl) (by kernel_rfl) (fun _ _ _ h => h) (Or.inl ⟨by rfl, ?h21⟩) (HSX.out _ (Below.refl _ _)) ?_
              case h21 =>
                intro w hSw
                obtain ⟨t0, t1⟩ := hSw
                go_simp
                with_reducible rfl
              simp only [List.setIfInBounds_toArray, List.set_cons_zero, List.set_cons_succ]
              refine' take_at (i := 22) (d := 106) (v := _) rfl rfl (by kernel_rfl) (by kernel_rfl) (by kernel_rfl) (fun _ _ _ h => h) (Or.inl ⟨by rfl, ?h22⟩) (HSX.out _ (Below.refl _ _)) ?_
              case h22 =>
                intro w hSw
                obtain ⟨t0, t1⟩ := hSw
                go_simp
                with_reducible rfl
              simp only [List.setIfInBounds_toArray, List.set_cons_zero, List.set_cons_succ]
              refine' take_at (i := 23) (d := 107) (v := _) rfl rfl (by kernel_rfl) (by kernel_rfl) (by kernel_rfl) (fun _ _ _ h => h) (Or.inl ⟨by rfl, ?h23⟩) (HSX.out _ (Below.refl _ _)) ?_
              case h23 =>
                intro w hSw
                obtain ⟨t0, t1⟩ := hSw
                go_simp
                with_reducible rfl
              simp only [List.setIfInBounds_toArray, List.set_cons_zero, List.set_cons_succ]
              refine' take_at (i := 24) (d := 108) (v := _) rfl rfl (by kernel_rfl) (by kernel_rfl) (by kernel_rfl) (fun _ _ _ h => h) (Or.inl ⟨by rfl, ?h24⟩) (HSX.out _ (Below.refl _ _)) ?_
              case h24 =>
                intro w hSw
                obtain ⟨t0, t1⟩ := hSw
                go_simp
                with_reducible rfl
              simp only [List.setIfInBounds_toArray, List.set_cons_zero, List.set_cons_succ]
              refine' take_at (i := 25) (d := 109) (v := _) rfl rfl (by kernel_rfl) (by kernel_rfl) (by kernel_rfl) (fun _ _ _ h => h) (Or.inl ⟨by rfl, ?h25⟩) (HSX.out _ (Below.refl _ _)) ?_
              case h25 =>
                intro w hSw
                obtain ⟨t0, t1⟩ := hSw
                go_simp
                with_reducible rfl
              simp only [List.setIfInBounds_toArray, List.set_cons_zero, List.set_cons_succ]
              refine' take_at (i := 26) (d := 110) (v := _) rfl rfl (by kernel_rfl) (by kernel_rfl) (by kernel_rfl) (fun _ _ _ h => h) (Or.inl ⟨by rfl, ?h26⟩) (HSX.out _ (Below.refl _ _)) ?_
              case h26 =>
                intro w hSw
                obtain ⟨t0, t1⟩ := hSw
                go_simp
                with_reducible rfl
              simp only [List.setIfInBounds_toArray, List.set_cons_zero, List.set_cons_succ]
              refine' take_at (i := 27) (d := 111) (v := _) rfl rfl (by kernel_rfl) (by kernel_rfl) (by kernel_rfl) (fun _ _ _ h => h) (Or.inl ⟨by rfl, ?h27⟩) (HSX.out _ (Below.refl _ _)) ?_
              case h27 =>
                intro w hSw
                obtain ⟨t0, t1⟩ := hSw
                go_simp
                with_reducible rfl
              simp only [List.setIfInBounds_toArray, List.set_cons_zero, List.set_cons_succ]
              refine' take_at (i := 28) (d := 112) (v := _) rfl rfl (by kernel_rfl) (by kernel_rfl) (by kernel_rfl) (fun _ _ _ h => h) (Or.inl ⟨by rfl, ?h28⟩) (HSX.out _ (Below.refl _ _)) ?_
              case h28 =>
                intro w hSw
                obtain ⟨t0, t1⟩ := hSw
                go_simp
                with_reducible rfl
              simp only [List.setIfInBounds_toArray, List.set_cons_zero, List.set_cons_succ]
              refine' take_at (i := 29) (d := 113) (v := _) rfl rfl (by kernel_rfl) (by kernel_rfl) (by kernel_rfl) (fun _ _ _ h => h) (Or.inl ⟨by rfl, ?h29⟩) (HSX.out _ (Below.refl _ _)) ?_
              case h29 =>
                intro w hSw
                obtain ⟨t0, t1⟩ := hSw
                go_simp
                with_reducible rfl
              simp only [List.setIfInBounds_toArray, List.set_cons_zero, List.set_cons_succ]
              refine' take_at (i := 30) (d := 114) (v := _) rfl rfl (by kernel_rfl) (by kernel_rfl) (by kernel_rfl) (fun _ _ _ h => h) (Or.inl ⟨by rfl, ?h30⟩) (HSX.out _ (Below.refl _ _)) ?_
              case h30 =>
                intro w hSw
                obtain ⟨t0, t1⟩ := hSw
                go_simp
                with_reducible rfl
              simp only [List.setIfInBounds_toArray, List.set_cons_zero, List.set_cons_succ]
              refine' take_at (i := 31) (d := 115) (v := _) rfl rfl (by kernel_rfl) (by kernel_rfl) (by kernel_rfl) (fun _ _ _ h => h) (Or.inl ⟨by rfl, ?h31⟩) (HSX.out _ (Below.refl _ _)) ?_
              case h31 =>
                intro w hSw
                obtain ⟨t0, t1⟩ := hSw
                go_simp
                with_reducible rfl
              simp only [List.setIfInBounds_toArray, List.set_cons_zero, List.set_cons_succ]
              refine' take_at (i := 32) (d := 116) (v := _) rfl rfl (by kernel_rfl) (by kernel_rfl) (by kernel_rfl) (fun _ _ _ h => h) (Or.inl ⟨by rfl, ?h32⟩) (HSX.out _ (Below.refl _ _)) ?_
              case h32 =>
                intro w hSw
                obtain ⟨t0, t1⟩ := hSw
                go_simp
                with_reducible rfl
              simp only [List.setIfInBounds_toArray, List.set_cons_zero, List.set_cons_succ]
              refine' take_at (i := 33) (d := 117) (v := _) rfl rfl (by kernel_rfl) (by kernel_rfl) (by kernel_rfl) (fun _ _ _ h => h) (Or.inl ⟨by rfl, ?h33⟩) (HSX.out _ (Below.refl _ _)) ?_
              case h33 =>
                intro w hSw
                obtain ⟨t0, t1⟩ := hSw
                go_simp
                with_reducible rfl
              simp only [List.setIfInBounds_toArray, List.set_cons_zero, List.set_cons_succ]
              refine' take_at (i := 34) (d := 118) (v := _) rfl rfl (by kernel_rfl) (by kernel_rfl) (by kernel_rfl) (fun _ _ _ h => h) (Or.inl ⟨by rfl, ?h34⟩) (HSX.out _ (Below.refl _ _)) ?_
              case h34 =>
                intro w hSw
                obtain ⟨t0, t1⟩ := hSw
                go_simp
                with_reducible rfl
              simp only [List.setIfInBounds_toArray, List.set_cons_zero, List.set_cons_succ]
              refine wpAnyH_ready (rs := [35]) (by kernel_rfl) (by simp) ?_
              refine AllReadyH.cons (o := _) rfl (fun KQ hKQ => ?_) AllReadyH.nil
              go_simp
              refine (H9.out.1.live HS.out y.id true HL.out.1).mono ?_
              rintro e w10 ⟨rfl, hM10, hb10⟩
              have H10 : Hid (Mine15 LS W w10 q ((k : Int) + 2) s6 F6 ∧ Below w7.heap.size w7 w10 ∧ Below wX.heap.size wX w10) := ⟨hM10, H9.out.2.trans (hb10.mono H9.out.2.size), hb10⟩
              clear hM10 hb10
              refine hKQ.out _ _ (HSX.out _ H10.out.2.2) (fun _ => ?_)
              clear hKQ KQ
              refine' take_at (i := 36) (d := 120) (v := _) rfl rfl (by kernel_rfl) (by kernel_rfl) (by kernel_rfl) (fun _ _ _ h => h) (Or.inl ⟨by rfl, ?h36⟩) (HSX.out _ H10.out.2.2) ?_
              case h36 =>
                intro w hSw
                clear hSw
                go_simp
                with_reducible rfl
              simp only [List.setIfInBounds_toArray, List.set_cons_zero, List.set_cons_succ]
              refine' take_at (i := 37) (d := 121) (v := _) rfl rfl (by kernel_rfl) (by kernel_rfl) (by kernel_rfl) (fun _ _ _ h => h) (Or.inl ⟨by rfl, ?h37⟩) (HSX.out _ H10.out.2.2) ?_
              case h37 =>
                intro w hSw
                clear hSw
                go_simp
                with_reducible rfl
              simp only [List.setIfInBounds_toArray, List.set_cons_zero, List.set_cons_succ]
              refine wpAnyH_done (by kernel_rfl) ?_ _
              go_wp2
              go_roundw
              case rel => exact ⟨i + 1, by omega, by go_num, H10.out.2.1, H10.out.1⟩
              case measure => simp [intOf]; omega
            · obtain rfl : i = 0 := by omega
              rw [Nat.add_zero] at d1
              go_upto_region 26 with fail
              refine wp_region_held_drew (S := fun w' => w'.cell? ⟨ga, oa, none⟩ = some (.int .i64 y.id)) (by kernel_rfl) d1 (fun _ => ?_)
              have H9 : Hid (Mine15 LS W wr.drew q ((k : Int) + 2) s6 F6 ∧ Below w7.heap.size w7 wr.drew) := ⟨H8.out.1.later HS.out (Below.refl _ _).drew, H8.out.2.drew⟩
              have HSX : Hid (∀ w', Below wr.drew.heap.size wr.drew w' → w'.cell? ⟨ga, oa, none⟩ = some (.int .i64 y.id)) := by
                have h : (fun w' : World => w'.cell? ⟨ga, oa, none⟩ = some (.int .i64 y.id)) wr.drew := d1
                exact fun w' hb => Below.kept hb h
              clear d1 H8
              generalize wr.drew = wX at *
              refine' take_at (i := 0) (d := 84) (v := _) rfl rfl (by kernel_rfl) (by kernel_rfl) (by kernel_rfl) (fun _ _ _ h => h) (Or.inl ⟨by rfl, ?h0⟩) (HSX.out _ (Below.refl _ _)) ?_
              case h0 =>
                intro w hSw
                have t0 := hSw
                go_simp
                with_reducible rfl
              simp only [List.setIfInBounds_toArray, List.set_cons_zero, List.set_cons_succ]
              refine' take_at (i := 1) (d := 85) (v := _) rfl rfl (by kernel_rfl) (by kernel_rfl) (by kernel_rfl) (fun _ _ _ h => h) (Or.inl ⟨by rfl, ?h1⟩) (HSX.out _ (Below.refl _ _)) ?_
              case h1 =>
                intro w hSw
                have t0 := hSw
                go_simp
                with_reducible rfl
              simp only [List.setIfInBounds_toArray, List.set_cons_zero, List.set_cons_succ]
              refine' take_at (i := 2) (d := 86) (v := _) rfl rfl (by kernel_rfl) (by kernel_rfl) (by kernel_rfl) (fun _ _ _ h => h) (Or.inl ⟨by rfl, ?h2⟩) (HSX.out _ (Below.refl _ _)) ?_
              case h2 =>
                intro w hSw
                have t0 := hSw
                go_simp
                with_reducible rfl
              simp only [List.setIfInBounds_toArray, List.set_cons_zero, List.set_cons_succ]
              refine' take_at (i := 3) (d := 87) (v := _) rfl rfl (by kernel_rfl) (by kernel_rfl) (by kernel_rfl) (fun _ _ _ h => h) (Or.inl ⟨by rfl, ?h3⟩) (HSX.out _ (Below.refl _ _)) ?_
              case h3 =>
                intro w hSw
                have t0 := hSw
                go_simp
                with_reducible rfl
              simp only [List.setIfInBounds_toArray, List.set_cons_zero, List.set_cons_succ]
              refine' take_at (i := 4) (d := 88) (v := _) rfl rfl (by kernel_rfl) (by kernel_rfl) (by kernel_rfl) (fun _ _ _ h => h) (Or.inl ⟨by rfl, ?h4⟩) (HSX.out _ (Below.refl _ _)) ?_
              case h4 =>
                intro w hSw
                have t0 := hSw
                go_simp
                with_reducible rfl
              simp only [List.setIfInBounds_toArray, List.set_cons_zero, List.set_cons_succ]
              refine' take_at (i := 5) (d := 89) (v := _) rfl rfl (by kernel_rfl) (by kernel_rfl) (by kernel_rfl) (fun _ _ _ h => h) (Or.inl ⟨by rfl, ?h5⟩) (HSX.out _ (Below.refl _ _)) ?_
              case h5 =>
                intro w hSw
                have t0 := hSw
                go_simp
                with_reducible rfl
              simp only [List.setIfInBounds_toArray, List.set_cons_zero, List.set_cons_succ]
              refine' take_at (i := 6) (d := 90) (v := _) rfl rfl (by kernel_rfl) (by kernel_rfl) (by kernel_rfl) (fun _ _ _ h => h) (Or.inl ⟨by rfl, ?h6⟩) (HSX.out _ (Below.refl _ _)) ?_
              case h6 =>
                intro w hSw
                have t0 := hSw
                go_simp
                with_reducible rfl
              simp only [List.setIfInBounds_toArray, List.set_cons_zero, List.set_cons_succ]
              refine' take_at (i := 7) (d := 91) (v := _) rfl rfl (by kernel_rfl) (by kernel_rfl) (by kernel_rfl) (fun _ _ _ h => h) (Or.inl ⟨by rfl, ?h7⟩) (HSX.out _ (Below.refl _ _)) ?_
              case h7 =>
                intro w hSw
                have t0 := hSw
                go_simp
                with_reducible rfl
              simp only [List.setIfInBounds_toArray, List.set_cons_zero, List.set_cons_succ]
              refine' take_at (i := 8) (d := 92) (v := _) rfl rfl (by kernel_rfl) (by kernel_rfl) (by kernel_rfl) (fun _ _ _ h => h) (Or.inl ⟨by rfl, ?h8⟩) (HSX.out _ (Below.refl _ _)) ?_
              case h8 =>
                intro w hSw
                have t0 := hSw
                go_simp
                with_reducible rfl
              simp only [List.setIfInBounds_toArray, List.set_cons_zero, List.set_cons_succ]
              refine' take_at (i := 9) (d := 93) (v := _) rfl rfl (by kernel_rfl) (by kernel_rfl) (by kernel_rfl) (fun _ _ _ h => h) (Or.inl ⟨by rfl, ?h9⟩) (HSX.out _ (Below.refl _ _)) ?_
              case h9 =>
                intro w hSw
                have t0 := hSw
                go_simp
                with_reducible rfl
              simp only [List.setIfInBounds_toArray, List.set_cons_zero, List.set_cons_succ]
              refine' take_at (i := 10) (d := 94) (v := _) rfl rfl (by kernel_rfl) (by kernel_rfl) (by kernel_rfl) (fun _ _ _ h => h) (Or.inl ⟨by rfl, ?h10⟩) (HSX.out _ (Below.refl _ _)) ?_
              case h10 =>
                intro w hSw
                have t0 := hSw
                go_simp
                with_reducible rfl
              simp only [List.setIfInBounds_toArray, List.set_cons_zero, List.set_cons_succ]
              refine' take_at (i := 11) (d := 95) (v := _) rfl rfl (by kernel_rfl) (by kernel_rfl) (by kernel_rfl) (fun _ _ _ h => h) (Or.inl ⟨by rfl, ?h11⟩) (HSX.out _ (Below.refl _ _)) ?_
              case h11 =>
                intro w hSw
                have t0 := hSw
                go_simp
                with_reducible rfl
              simp only [List.setIfInBounds_toArray, List.set_cons_zero, List.set_cons_succ]
              refine' take_at (i := 12) (d := 96) (v := _) rfl rfl (by kernel_rfl) (by kernel_rfl) (by kernel_rfl) (fun _ _ _ h => h) (Or.inl ⟨by rfl, ?h12⟩) (HSX.out _ (Below.refl _ _)) ?_
              case h12 =>
                intro w hSw
                have t0 := hSw
                go_simp
                with_reducible rfl
              simp only [List.setIfInBounds_toArray, List.set_cons_zero, List.set_cons_succ]
              refine' take_at (i := 13) (d := 97) (v := _) rfl rfl (by kernel_rfl) (by kernel_rfl) (by kernel_rfl) (fun _ _ _ h => h) (Or.inl ⟨by rfl, ?h13⟩) (HSX.out _ (Below.refl _ _)) ?_
              case h13 =>
                intro w hSw
                have t0 := hSw
                go_simp
                with_reducible rfl
              simp only [List.setIfInBounds_toArray, List.set_cons_zero, List.set_cons_succ]
              refine' take_at (i := 14) (d := 98) (v := _) rfl rfl (by kernel_rfl) (by kernel_rfl) (by kernel_rfl) (fun _ _ _ h => h) (Or.inl ⟨by rfl, ?h14⟩) (HSX.out _ (Below.refl _ _)) ?_
              case h14 =>
                intro w hSw
                have t0 := hSw
                go_simp
                with_reducible rfl
              simp only [List.setIfInBounds_toArray, List.set_cons_zero, List.set_cons_succ]
              refine' take_at (i := 15) (d := 99) (v := _) rfl rfl (by kernel_rfl) (by kernel_rfl) (by kernel_rfl) (fun _ _ _ h => h) (Or.inl ⟨by rfl, ?h15⟩) (HSX.out _ (Below.refl _ _)) ?_
              case h15 =>
                intro w hSw
                have t0 := hSw
                go_simp
                with_reducible rfl
              simp only [List.setIfInBounds_toArray, List.set_cons_zero, List.set_cons_succ]
              refine' take_at (i := 16) (d := 100) (v := _) rfl rfl (by kernel_rfl) (by kernel_rfl) (by kernel_rfl) (fun _ _ _ h => h) (Or.inl ⟨by rfl, ?h16⟩) (HSX.out _ (Below.refl _ _)) ?_
              case h16 =>
                intro w hSw
                have t0 := hSw
                go_simp
                with_reducible rfl
              simp only [List.setIfInBounds_toArray, List.set_cons_zero, List.set_cons_succ]
              refine' take_at (i := 17) (d := 101) (v := undef) rfl rfl (by kernel_rfl) (by kernel_rfl) (by kernel_rfl) (fun _ _ _ h => h) (Or.inr ⟨by rfl, rfl⟩) (HSX.out _ (Below.refl _ _)) ?_
              simp only [List.setIfInBounds_toArray, List.set_cons_zero, List.set_cons_succ]
              refine' take_at (i := 18) (d := 102) (v := undef) rfl rfl (by kernel_rfl) (by kernel_rfl) (by kernel_rfl) (fun _ _ _ h => h) (Or.inr ⟨by rfl, rfl⟩) (HSX.out _ (Below.refl _ _)) ?_
              simp only [List.setIfInBounds_toArray, List.set_cons_zero, List.set_cons_succ]
              refine' take_at (i := 19) (d := 103) (v := undef) rfl rfl (by kernel_rfl) (by kernel_rfl) (by kernel_rfl) (fun _ _ _ h => h) (Or.inr ⟨by rfl, rfl⟩) (HSX.out _ (Below.refl _ _)) ?_
              simp only [List.setIfInBounds_toArray, List.set_cons_zero, List.set_cons_succ]
              refine' take_at (i := 20) (d := 104) (v := undef) rfl rfl (by kernel_rfl) (by kernel_rfl) (by kernel_rfl) (fun _ _ _ h => h) (Or.inr ⟨by rfl, rfl⟩) (HSX.out _ (Below.refl _ _)) ?_
              simp only [List.setIfInBounds_toArray, List.set_cons_zero, List.set_cons_succ]
              refine' take_at (i := 21) (d := 105) (v := undef) rfl rfl (by kernel_rfl) (by kernel_rfl) (by kernel_rfl) (fun _ _ _ h => h) (Or.inr ⟨by rfl, rfl⟩) (HSX.out _ (Below.refl _ _)) ?_
              simp only [List.setIfInBounds_toArray, List.set_cons_zero, List.set_cons_succ]
              refine' take_at (i := 22) (d := 106) (v := undef) rfl rfl (by kernel_rfl) (by kernel_rfl) (by kernel_rfl) (fun _ _ _ h => h) (Or.inr ⟨by rfl, rfl⟩) (HSX.out _ (Below.refl _ _)) ?_
              simp only [List.setIfInBounds_toArray, List.set_cons_zero, List.set_cons_succ]
              refine' take_at (i := 23) (d := 107) (v := undef) rfl rfl (by kernel_rfl) (by kernel_rfl) (by kernel_rfl) (fun _ _ _ h => h) (Or.inr ⟨by rfl, rfl⟩) (HSX.out _ (Below.refl _ _)) ?_
              simp only [List.setIfInBounds_toArray, List.set_cons_zero, List.set_cons_succ]
              refine' take_at (i := 24) (d := 108) (v := undef) rfl rfl (by kernel_rfl) (by kernel_rfl) (by kernel_rfl) (fun _ _ _ h => h) (Or.inr ⟨by rfl, rfl⟩) (HSX.out _ (Below.refl _ _)) ?_
              simp only [List.setIfInBounds_toArray, List.set_cons_zero, List.set_cons_succ]
              refine' take_at (i := 25) (d := 109) (v := undef) rfl rfl (by kernel_rfl) (by kernel_rfl) (by kernel_rfl) (fun _ _ _ h => h) (Or.inr ⟨by rfl, rfl⟩) (HSX.out _ (Below.refl _ _)) ?_
              simp only [List.setIfInBounds_toArray, List.set_cons_zero, List.set_cons_succ]
              refine' take_at (i := 26) (d := 110) (v := undef) rfl rfl (by kernel_rfl) (by kernel_rfl) (by kernel_rfl) (fun _ _ _ h => h) (Or.inr ⟨by rfl, rfl⟩) (HSX.out _ (Below.refl _ _)) ?_
              simp only [List.setIfInBounds_toArray, List.set_cons_zero, List.set_cons_succ]
              refine' take_at (i := 27) (d := 111) (v := _) rfl rfl (by kernel_rfl) (by kernel_rfl) (by kernel_rfl) (fun _ _ _ h => h) (Or.inl ⟨by rfl, ?h27⟩) (HSX.out _ (Below.refl _ _)) ?_
              case h27 =>
                intro w hSw
                have t0 := hSw
                go_simp
                with_reducible rfl
              simp only [List.setIfInBounds_toArray, List.set_cons_zero, List.set_cons_succ]
              refine' take_at (i := 28) (d := 112) (v := _) rfl rfl (by kernel_rfl) (by kernel_rfl) (by kernel_rfl) (fun _ _ _ h => h) (Or.inl ⟨by rfl, ?h28⟩) (HSX.out _ (Below.refl _ _)) ?_
              case h28 =>
                intro w hSw
                have t0 := hSw
                go_simp
                with_reducible rfl
              simp only [List.setIfInBounds_toArray, List.set_cons_zero, List.set_cons_succ]
              refine' take_at (i := 29) (d := 113) (v := _) rfl rfl (by kernel_rfl) (by kernel_rfl) (by kernel_rfl) (fun _ _ _ h => h) (Or.inl ⟨by rfl, ?h29⟩) (HSX.out _ (Below.refl _ _)) ?_
              case h29 =>
                intro w hSw
                have t0 := hSw
                go_simp
                with_reducible rfl
              simp only [List.setIfInBounds_toArray, List.set_cons_zero, List.set_cons_succ]
              refine' take_at (i := 30) (d := 114) (v := _) rfl rfl (by kernel_rfl) (by kernel_rfl) (by kernel_rfl) (fun _ _ _ h => h) (Or.inl ⟨by rfl, ?h30⟩) (HSX.out _ (Below.refl _ _)) ?_
              case h30 =>
                intro w hSw
                have t0 := hSw
                go_simp
                with_reducible rfl
              simp only [List.setIfInBounds_toArray, List.set_cons_zero, List.set_cons_succ]
              refine' take_at (i := 31) (d := 115) (v := _) rfl rfl (by kernel_rfl) (by kernel_rfl) (by kernel_rfl) (fun _ _ _ h => h) (Or.inl ⟨by rfl, ?h31⟩) (HSX.out _ (Below.refl _ _)) ?_
              case h31 =>
                intro w hSw
                have t0 := hSw
                go_simp
                with_reducible rfl
              simp only [List.setIfInBounds_toArray, List.set_cons_zero, List.set_cons_succ]
              refine' take_at (i := 32) (d := 116) (v := _) rfl rfl (by kernel_rfl) (by kernel_rfl) (by kernel_rfl) (fun _ _ _ h => h) (Or.inl ⟨by rfl, ?h32⟩) (HSX.out _ (Below.refl _ _)) ?_
              case h32 =>
                intro w hSw
                have t0 := hSw
                go_simp
                with_reducible rfl
              simp only [List.setIfInBounds_toArray, List.set_cons_zero, List.set_cons_succ]
              refine' take_at (i := 33) (d := 117) (v := _) rfl rfl (by kernel_rfl) (by kernel_rfl) (by kernel_rfl) (fun _ _ _ h => h) (Or.inl ⟨by rfl, ?h33⟩) (HSX.out _ (Below.refl _ _)) ?_
              case h33 =>
                intro w hSw
                have t0 := hSw
                go_simp
                with_reducible rfl
              simp only [List.setIfInBounds_toArray, List.set_cons_zero, List.set_cons_succ]
              refine' take_at (i := 34) (d := 118) (v := _) rfl rfl (by kernel_rfl) (by kernel_rfl) (by kernel_rfl) (fun _ _ _ h => h) (Or.inl ⟨by rfl, ?h34⟩) (HSX.out _ (Below.refl _ _)) ?_
              case h34 =>
                intro w hSw
                have t0 := hSw
                go_simp
                with_reducible rfl
              simp only [List.setIfInBounds_toArray, List.set_cons_zero, List.set_cons_succ]
              refine wpAnyH_ready (rs := [35]) (by kernel_rfl) (by simp) ?_
              refine AllReadyH.cons (o := _) rfl (fun KQ hKQ => ?_) AllReadyH.nil
              go_simp
              refine (H9.out.1.live HS.out y.id true HL.out.1).mono ?_
              rintro e w10 ⟨rfl, hM10, hb10⟩
              have H10 : Hid (Mine15 LS W w10 q ((k : Int) + 2) s6 F6 ∧ Below w7.heap.size w7 w10 ∧ Below wX.heap.size wX w10) := ⟨hM10, H9.out.2.trans (hb10.mono H9.out.2.size), hb10⟩
              clear hM10 hb10
              refine hKQ.out _ _ (HSX.out _ H10.out.2.2) (fun _ => ?_)
              clear hKQ KQ
              refine' take_at (i := 36) (d := 120) (v := _) rfl rfl (by kernel_rfl) (by kernel_rfl) (by kernel_rfl) (fun _ _ _ h => h) (Or.inl ⟨by rfl, ?h36⟩) (HSX.out _ H10.out.2.2) ?_
              case h36 =>
                intro w hSw
                clear hSw
                go_simp
                with_reducible rfl
              simp only [List.setIfInBounds_toArray, List.set_cons_zero, List.set_cons_succ]
              refine' take_at (i := 37) (d := 121) (v := _) rfl rfl (by kernel_rfl) (by kernel_rfl) (by kernel_rfl) (fun _ _ _ h => h) (Or.inl ⟨by rfl, ?h37⟩) (HSX.out _ H10.out.2.2) ?_
              case h37 =>
                intro w hSw
                clear hSw
                go_simp
                with_reducible rfl
              simp only [List.setIfInBounds_toArray, List.set_cons_zero, List.set_cons_succ]
              refine wpAnyH_done (by kernel_rfl) ?_ _
              go_wp2
              go_roundw
              case rel => exact ⟨0 + 1, by omega, by go_num, H10.out.2.1, H10.out.1⟩
              case measure => simp [intOf]; omega
          · have hin' : ¬ (i : Int) < (n3 : Int) := by omega
            have hn5 : ¬ (5 : Int) < (n3 : Int) := by omega
            go_wp2
            go_roundw
            case rel => exact ⟨k + 1, last, s6, F6, by omega, by go_num, rfl, by rw [show ((k + 1 : Nat) : Int) + 1 = (k : Int) + 2 by omega]; exact H8.out.1, HA.out.2.1, HA.out.2.2⟩
            case measure => simp [intOf]; omega
      · have hob3 : (x.op == 3) = false := by simp [ho3]
        clear ho0 ho2 ho3
        obtain ⟨za, s6, hz⟩ : ∃ za s6, Sq.touch s x.id = (za, s6) := ⟨_, _, rfl⟩
        have HZ : Hid (Sq.touch s x.id = (za, s6)) := hz
        have HRN : Hid (s6.room = 5 ∧ s6.next = last + 1) := by
          have h := Sq.touch_same s x.id
          rw [hz] at h
          exact ⟨h.1.trans H3.out.2.1, h.2.trans H3.out.2.2⟩
        clear hz
        go_wp2_with fail
        refine (H3.out.1.touch HS.out hkm x.id za s6 HZ.out).mono ?_
        rintro e w6 ⟨F6, rfl, hM6, hmv⟩
        have H6 : Hid (Mine15 LS W w6 q ((k : Int) + 2) s6 F6) := hM6.mono (by omega)
        clear hM6 hmv H3
        clear c0 c1 c2
        obtain ⟨A, hA⟩ : ∃ A, A = s6.l.length := ⟨_, rfl⟩
        have HA : Hid (A = s6.l.length ∧ s6.room = 5 ∧ s6.next = last + 1) := ⟨hA, HRN.out.1, HRN.out.2⟩
        have hA5 : A ≤ 5 := by have h1 := H6.out.fine.len; have h2 := HA.out.2.1; omega
        clear hA
        go_wp2_with fail
        refine (H6.out.all HS.out).mono ?_
        rintro e w7 ⟨va, rfl, hia, hoa, hM7, hb7⟩
        obtain ⟨a3, n3, c3, rfl, hn3, hc3⟩ := hia
        have j0 : n3 = A := by rw [hn3, HA.out.1]; unfold Sq.all; simp
        have H7 : Hid (Mine15 LS W w7 q ((k : Int) + 2) s6 F6 ∧ Bi w7 (.slice a3 n3 c3) (Sq.all s6)) := ⟨hM7, a3, n3, c3, rfl, hn3, hc3⟩
        clear hM7 hb7 hoa hn3 hc3 H6
        subst j0
        go_wp2
        go_loopw [10] (fun j wx => ∃ i : Nat, i ≤ n3 ∧ j = .int .i64 (i : Int) ∧ Below w7.heap.size w7 wx ∧ Mine15 LS W wx q ((k : Int) + 2) s6 F6) (fun j _ => n3 - (intOf j).toNat)
        case atStart => exact ⟨0, Nat.zero_le _, rfl, Below.refl _ _, H7.out.1⟩
        case round =>
          obtain ⟨i, hi, rfl, hbw, hM8⟩ := hrel
          have H8 : Hid (Mine15 LS W wr q ((k : Int) + 2) s6 F6 ∧ Below w7.heap.size w7 wr) := ⟨hM8, hbw⟩
          clear hM8 hbw
          by_cases hin : i < n3
          · have hin' : (i : Int) < (n3 : Int) := by omega
            have hi0 : (0 : Int) ≤ (i : Int) := by omega
            have hwi : IntKind.wrap .i64 ((i : Int) + 1) = (i : Int) + 1 := by rw [IntKind.wrap_i64]; omega
            obtain ⟨y, hy⟩ : ∃ y, s6.l[i]? = some y := ⟨s6.l[i]'(by rw [← HA.out.1]; exact hin), List.getElem?_eq_getElem _⟩
            have hay : (Sq.all s6)[i]? = some y.id := by unfold Sq.all; simp [hy]
            have hyo := H7.out.1.fine.ok y (List.mem_of_getElem? hy)
            have y1 : ¬ y.id < 1 := by have := hyo.id1; omega
            have y2 : ¬ last < y.id := by have h1 := hyo.idn; have h2 := HA.out.2.2; omega
            have HL : Hid (Sq.has s6.l y.id = true ∧ s6.l[i]? = some y) := ⟨Sq.has_iff.2 ⟨y, List.mem_of_getElem? hy, rfl⟩, hy⟩
            obtain ⟨ga, oa, rfl, d0⟩ := H7.out.2.at15 hay
            clear hay hyo hy
            have d1 : wr.cell? ⟨ga, oa + i, none⟩ = some (.int .i64 y.id) := Below.kept H8.out.2 d0
            clear d0
            by_cases hi1 : 0 < i
            · have hi1' : (0 : Int) < (i : Int) := by omega
              obtain ⟨i', hi'⟩ : ∃ i', i = i' + 1 := ⟨i - 1, by omega⟩
              obtain ⟨z, hz⟩ : ∃ z, s6.l[i']? = some z := ⟨s6.l[i']'(by rw [← HA.out.1]; omega), List.getElem?_eq_getElem _⟩
              have hrs : ¬ y.id ≤ z.id := by
                have := Sq.rise_lt H7.out.1.fine.rises hz HL.out.2 (by omega)
                omega
              have haz : (Sq.all s6)[i']? = some z.id := by unfold Sq.all; simp [hz]
              obtain ⟨ga', oa', e9, d0⟩ := H7.out.2.at15 haz
              simp only [Option.some.injEq, Addr.mk.injEq, and_true] at e9
              obtain ⟨rfl, rfl⟩ := e9
              have d2 : wr.cell? ⟨ga, oa + i', none⟩ = some (.int .i64 z.id) := Below.kept H8.out.2 d0
              have hwj : IntKind.wrap .i64 ((i : Int) - 1) = (i' : Int) := by rw [IntKind.wrap_i64]; omega
              have i'0 : (0 : Int) ≤ (i' : Int) := by omega
              have i'n : (i' : Int) < (n3 : Int) := by omega
              clear hz haz d0 hi'
              go_upto_region 26 with fail
              refine wp_region_held_drew (S := fun w' => w'.cell? ⟨ga, oa + i, none⟩ = some (.int .i64 y.id) ∧ w'.cell? ⟨ga, oa + i', none⟩ = some (.int .i64 z.id)) (by kernel_rfl) ⟨d1, d2⟩ (fun _ => ?_)
              have H9 : Hid (Mine15 LS W wr.drew q ((k : Int) + 2) s6 F6 ∧ Below w7.heap.size w7 wr.drew) := ⟨H8.out.1.later HS.out (Below.refl _ _).drew, H8.out.2.drew⟩
              have HSX : Hid (∀ w', Below wr.drew.heap.size wr.drew w' → w'.cell? ⟨ga, oa + i, none⟩ = some (.int .i64 y.id) ∧ w'.cell? ⟨ga, oa + i', none⟩ = some (.int .i64 z.id)) := by
                have h : (fun w' : World => w'.cell? ⟨ga, oa + i, none⟩ = some (.int .i64 y.id) ∧ w'.cell? ⟨ga, oa + i', none⟩ = some (.int .i64 z.id)) wr.drew := ⟨d1, d2⟩
                exact fun w' hb => ⟨Below.kept hb h.1, Below.kept hb h.2⟩
              clear d1 d2 H8
              generalize wr.drew = wX at *
              refine' take_at (i := 0) (d := 84) (v := _) rfl rfl (by kernel_rfl) (by kernel_rfl) (by kernel_rfl) (fun _ _ _ h => h) (Or.inl ⟨by rfl, ?h0⟩) (HSX.out _ (Below.refl _ _)) ?_
              case h0 =>
                intro w hSw
                obtain ⟨t0, t1⟩ := hSw
                go_simp
                with_reducible rfl
              simp only [List.setIfInBounds_toArray, List.set_cons_zero, List.set_cons_succ]
              refine' take_at (i := 1) (d := 85) (v := _) rfl rfl (by kernel_rfl) (by kernel_rfl) (by kernel_rfl) (fun _ _ _ h => h) (Or.inl ⟨by rfl, ?h1⟩) (HSX.out _ (Below.refl _ _)) ?_
              case h1 =>
                intro w hSw
                obtain ⟨t0, t1⟩ := hSw
                go_simp
                with_reducible rfl
              simp only [List.setIfInBounds_toArray, List.set_cons_zero, List.set_cons_succ]
              refine' take_at (i := 2) (d := 86) (v := _) rfl rfl (by kernel_rfl) (by kernel_rfl) (by kernel_rfl) (fun _ _ _ h => h) (Or.inl ⟨by rfl, ?h2⟩) (HSX.out _ (Below.refl _ _)) ?_
              case h2 =>
                intro w hSw
                obtain ⟨t0, t1⟩ := hSw
                go_simp
                with_reducible rfl
              simp only [List.setIfInBounds_toArray, List.set_cons_zero, List.set_cons_succ]
              refine' take_at (i := 3) (d := 87) (v := _) rfl rfl (by kernel_rfl) (by kernel_rfl) (by kernel_rfl) (fun _ _ _ h => h) (Or.inl ⟨by rfl, ?h3⟩) (HSX.out _ (Below.refl _ _)) ?_
              case h3 =>
                intro w hSw
                obtain ⟨t0, t1⟩ := hSw
                go_simp
                with_reducible rfl
              simp only [List.setIfInBounds_toArray, List.set_cons_zero, List.set_cons_succ]
              refine' take_at (i := 4) (d := 88) (v := _) rfl rfl (by kernel_rfl) (by kernel_rfl) (by kernel_rfl) (fun _ _ _ h => h) (Or.inl ⟨by rfl, ?h4⟩) (HSX.out _ (Below.refl _ _)) ?_
              case h4 =>
                intro w hSw
                obtain ⟨t0, t1⟩ := hSw
                go_simp
                with_reducible rfl
              simp only [List.setIfInBounds_toArray, List.set_cons_zero, List.set_cons_succ]
              refine' take_at (i := 5) (d := 89) (v := _) rfl rfl (by kernel_rfl) (by kernel_rfl) (by kernel_rfl) (fun _ _ _ h => h) (Or.inl ⟨by rfl, ?h5⟩) (HSX.out _ (Below.refl _ _)) ?_
              case h5 =>
                intro w hSw
                obtain ⟨t0, t1⟩ := hSw
                go_simp
                with_reducible rfl
              simp only [List.setIfInBounds_toArray, List.set_cons_zero, List.set_cons_succ]
              refine' take_at (i := 6) (d := 90) (v := _) rfl rfl (by kernel_rfl) (by kernel_rfl) (by kernel_rfl) (fun _ _ _ h => h) (Or.inl ⟨by rfl, ?h6⟩) (HSX.out _ (Below.refl _ _)) ?_
              case h6 =>
                intro w hSw
                obtain ⟨t0, t1⟩ := hSw
                go_simp
                with_reducible rfl
              simp only [List.setIfInBounds_toArray, List.set_cons_zero, List.set_cons_succ]
              refine' take_at (i := 7) (d := 91) (v := _) rfl rfl (by kernel_rfl) (by kernel_rfl) (by kernel_rfl) (fun _ _ _ h => h) (Or.inl ⟨by rfl, ?h7⟩) (HSX.out _ (Below.refl _ _)) ?_
              case h7 =>
                intro w hSw
                obtain ⟨t0, t1⟩ := hSw
                go_simp
                with_reducible rfl
              simp only [List.setIfInBounds_toArray, List.set_cons_zero, List.set_cons_succ]
              refine' take_at (i := 8) (d := 92) (v := _) rfl rfl (by kernel_rfl) (by kernel_rfl) (by kernel_rfl) (fun _ _ _ h => h) (Or.inl ⟨by rfl, ?h8⟩) (HSX.out _ (Below.refl _ _)) ?_
              case h8 =>
                intro w hSw
                obtain ⟨t0, t1⟩ := hSw
                go_simp
                with_reducible rfl
              simp only [List.setIfInBounds_toArray, List.set_cons_zero, List.set_cons_succ]
              refine' take_at (i := 9) (d := 93) (v := _) rfl rfl (by kernel_rfl) (by kernel_rfl) (by kernel_rfl) (fun _ _ _ h => h) (Or.inl ⟨by rfl, ?h9⟩) (HSX.out _ (Below.refl _ _)) ?_
              case h9 =>
                intro w hSw
                obtain ⟨t0, t1⟩ := hSw
                go_simp
                with_reducible rfl
              simp only [List.setIfInBounds_toArray, List.set_cons_zero, List.set_cons_succ]
              refine' take_at (i := 10) (d := 94) (v := _) rfl rfl (by kernel_rfl) (by kernel_rfl) (by kernel_rfl) (fun _ _ _ h => h) (Or.inl ⟨by rfl, ?h10⟩) (HSX.out _ (Below.refl _ _)) ?_
              case h10 =>
                intro w hSw
                obtain ⟨t0, t1⟩ := hSw
                go_simp
                with_reducible rfl
              simp only [List.setIfInBounds_toArray, List.set_cons_zero, List.set_cons_succ]
              refine' take_at (i := 11) (d := 95) (v := _) rfl rfl (by kernel_rfl) (by kernel_rfl) (by kernel_rfl) (fun _ _ _ h => h) (Or.inl ⟨by rfl, ?h11⟩) (HSX.out _ (Below.refl _ _)) ?_
              case h11 =>
                intro w hSw
                obtain ⟨t0, t1⟩ := hSw
                go_simp
                with_reducible rfl
              simp only [List.setIfInBounds_toArray, List.set_cons_zero, List.set_cons_succ]
              refine' take_at (i := 12) (d := 96) (v := _) rfl rfl (by kernel_rfl) (by kernel_rfl) (by kernel_rfl) (fun _ _ _ h => h) (Or.inl ⟨by rfl, ?h12⟩) (HSX.out _ (Below.refl _ _)) ?_
              case h12 =>
                intro w hSw
                obtain ⟨t0, t1⟩ := hSw
                go_simp
                with_reducible rfl
              simp only [List.setIfInBounds_toArray, List.set_cons_zero, List.set_cons_succ]
              refine' take_at (i := 13) (d := 97) (v := _) rfl rfl (by kernel_rfl) (by kernel_rfl) (by kernel_rfl) (fun _ _ _ h => h) (Or.inl ⟨by rfl, ?h13⟩) (HSX.out _ (Below.refl _ _)) ?_
              case h13 =>
                intro w hSw
                obtain ⟨t0, t1⟩ := hSw
                go_simp
                with_reducible rfl
              simp only [List.setIfInBounds_toArray, List.set_cons_zero, List.set_cons_succ]
              refine' take_at (i := 14) (d := 98) (v := _) rfl rfl (by kernel_rfl) (by kernel_rfl) (by kernel_rfl) (fun _ _ _ h => h) (Or.inl ⟨by rfl, ?h14⟩) (HSX.out _ (Below.refl _ _)) ?_
              case h14 =>
                intro w hSw
                obtain ⟨t0, t1⟩ := hSw
                go_simp
                with_reducible rfl
              simp only [List.setIfInBounds_toArray, List.set_cons_zero, List.set_cons_succ]
              refine' take_at (i := 15) (d := 99) (v := _) rfl rfl (by kernel_rfl) (by kernel_rfl) (by kernel_rfl) (fun _ _ _ h => h) (Or.inl ⟨by rfl, ?h15⟩) (HSX.out _ (Below.refl _ _)) ?_
              case h15 =>
                intro w hSw
                obtain ⟨t0, t1⟩ := hSw
                go_simp
                with_reducible rfl
              simp only [List.setIfInBounds_toArray, List.set_cons_zero, List.set_cons_succ]
              refine' take_at (i := 16) (d := 100) (v := _) rfl rfl (by kernel_rfl) (by kernel_rfl) (by kernel_rfl) (fun _ _ _ h => h) (Or.inl ⟨by rfl, ?h16⟩) (HSX.out _ (Below.refl _ _)) ?_
              case h16 =>
                intro w hSw
                obtain ⟨t0, t1⟩ := hSw
                go_simp
                with_reducible rfl
              simp only [List.setIfInBounds_toArray, List.set_cons_zero, List.set_cons_succ]
              refine' take_at (i := 17) (d := 101) (v := _) rfl rfl (by kernel_rfl) (by kernel_rfl) (by kernel_rfl) (fun _ _ _ h => h) (Or.inl ⟨by rfl, ?h17⟩) (HSX.out _ (Below.refl _ _)) ?_
              case h17 =>
                intro w hSw
                obtain ⟨t0, t1⟩ := hSw
                go_simp
                with_reducible rfl
              simp only [List.setIfInBounds_toArray, List.set_cons_zero, List.set_cons_succ]
              refine' take_at (i := 18) (d := 102) (v := _) rfl rfl (by kernel_rfl) (by kernel_rfl) (by kernel_rfl) (fun _ _ _ h => h) (Or.inl ⟨by rfl, ?h18⟩) (HSX.out _ (Below.refl _ _)) ?_
              case h18 =>
                intro w hSw
                obtain ⟨t0, t1⟩ := hSw
                go_simp
                with_reducible rfl
              simp only [List.setIfInBounds_toArray, List.set_cons_zero, List.set_cons_succ]
              refine' take_at (i := 19) (d := 103) (v := _) rfl rfl (by kernel_rfl) (by kernel_rfl) (by kernel_rfl) (fun _ _ _ h => h) (Or.inl ⟨by rfl, ?h19⟩) (HSX.out _ (Below.refl _ _)) ?_
              case h19 =>
                intro w hSw
                obtain ⟨t0, t1⟩ := hSw
                go_simp
                with_reducible rfl
              simp only [List.setIfInBounds_toArray, List.set_cons_zero, List.set_cons_succ]
              refine' take_at (i := 20) (d := 104) (v := _) rfl rfl (by kernel_rfl) (by kernel_rfl) (by kernel_rfl) (fun _ _ _ h => h) (Or.inl ⟨by rfl, ?h20⟩) (HSX.out _ (Below.refl _ _)) ?_
              case h20 =>
                intro w hSw
                obtain ⟨t0, t1⟩ := hSw
                go_simp
                with_reducible rfl
              simp only [List.setIfInBounds_toArray, List.set_cons_zero, List.set_cons_succ]
              refine' take_at (i := 21) (d := 105) (v := _) rfl rfl (by kernel_rfl) (by kernel_rfl) (by kernel_rfl) (fun _ _ _ h => h) (Or.inl ⟨by rfl, ?h21⟩) (HSX.out _ (Below.refl _ _)) ?_
              case h21 =>
                intro w hSw
                obtain ⟨t0, t1⟩ := hSw
                go_simp
                with_reducible rfl
              simp only [List.setIfInBounds_toArray, List.set_cons_zero, List.set_cons_succ]
              refine' take_at (i := 22) (d := 106) (v := _) rfl rfl (by kernel_rfl) (by kernel_rfl) (by kernel_rfl) (fun _ _ _ h => h) (Or.inl ⟨by rfl, ?h22⟩) (HSX.out _ (Below.refl _ _)) ?_
              case h22 =>
                intro w hSw
                obtain ⟨t0, t1⟩ := hSw
                go_simp
                with_reducible rfl
              simp only [List.setIfInBounds_toArray, List.set_cons_zero, List.set_cons_succ]
              refine' take_at (i := 23) (d := 107) (v := _) rfl rfl (by kernel_rfl) (by kernel_rfl) (by kernel_rfl) (fun _ _ _ h => h) (Or.inl ⟨by rfl, ?h23⟩) (HSX.out _ (Below.refl _ _)) ?_
              case h23 =>
                intro w hSw
                obtain ⟨t0, t1⟩ := hSw
                go_simp
                with_reducible rfl
              simp only [List.setIfInBounds_toArray, List.set_cons_zero, List.set_cons_succ]
              refine' take_at (i := 24) (d := 108) (v := _) rfl rfl (by kernel_rfl) (by kernel_rfl) (by kernel_rfl) (fun _ _ _ h => h) (Or.inl ⟨by rfl, ?h24⟩) (HSX.out _ (Below.refl _ _)) ?_
              case h24 =>
                intro w hSw
                obtain ⟨t0, t1⟩ := hSw
                go_simp
                with_reducible rfl
              simp only [List.setIfInBounds_toArray, List.set_cons_zero, List.set_cons_succ]
              refine' take_at (i := 25) (d := 109) (v := _) rfl rfl (by kernel_rfl) (by kernel_rfl) (by kernel_rfl) (fun _ _ _ h => h) (Or.inl ⟨by rfl, ?h25⟩) (HSX.out _ (Below.refl _ _)) ?_
              case h25 =>
                intro w hSw
                obtain ⟨t0, t1⟩ := hSw
                go_simp
                with_reducible rfl
              simp only [List.setIfInBounds_toArray, List.set_cons_zero, List.set_cons_succ]
              refine' take_at (i := 26) (d := 110) (v := _) rfl rfl (by kernel_rfl) (by kernel_rfl) (by kernel_rfl) (fun _ _ _ h => h) (Or.inl ⟨by rfl, ?h26⟩) (HSX.out _ (Below.refl _ _)) ?_
              case h26 =>
                intro w hSw
                obtain ⟨t0, t1⟩ := hSw
                go_simp
                with_reducible rfl
              simp only [List.setIfInBounds_toArray, List.set_cons_zero, List.set_cons_succ]
              refine' take_at (i := 27) (d := 111) (v := _) rfl rfl (by kernel_rfl) (by kernel_rfl) (by kernel_rfl) (fun _ _ _ h => h) (Or.inl ⟨by rfl, ?h27⟩) (HSX.out _ (Below.refl _ _)) ?_
              case h27 =>
                intro w hSw
                obtain ⟨t0, t1⟩ := hSw
                go_simp
                with_reducible rfl
              simp only [List.setIfInBounds_toArray, List.set_cons_zero, List.set_cons_succ]
              refine' take_at (i := 28) (d := 112) (v := _) rfl rfl (by kernel_rfl) (by kernel_rfl) (by kernel_rfl) (fun _ _ _ h => h) (Or.inl ⟨by rfl, ?h28⟩) (HSX.out _ (Below.refl _ _)) ?_
              case h28 =>
                intro w hSw
                obtain ⟨t0, t1⟩ := hSw
                go_simp
                with_reducible rfl
              simp only [List.setIfInBounds_toArray, List.set_cons_zero, List.set_cons_succ]
              refine' take_at (i := 29) (d := 113) (v := _) rfl rfl (by kernel_rfl) (by kernel_rfl) (by kernel_rfl) (fun _ _ _ h => h) (Or.inl ⟨by rfl, ?h29⟩) (HSX.out _ (Below.refl _ _)) ?_
              case h29 =>
                intro w hSw
                obtain ⟨t0, t1⟩ := hSw
                go_simp
                with_reducible rfl
              simp only [List.setIfInBounds_toArray, List.set_cons_zero, List.set_cons_succ]
              refine' take_at (i := 30) (d := 114) (v := _) rfl rfl (by kernel_rfl) (by kernel_rfl) (by kernel_rfl) (fun _ _ _ h => h) (Or.inl ⟨by rfl, ?h30⟩) (HSX.out _ (Below.refl _ _)) ?_
              case h30 =>
                intro w hSw
                obtain ⟨t0, t1⟩ := hSw
                go_simp
                with_reducible rfl
              simp only [List.setIfInBounds_toArray, List.set_cons_zero, List.set_cons_succ]
              refine' take_at (i := 31) (d := 115) (v := _) rfl rfl (by kernel_rfl) (by kernel_rfl) (by kernel_rfl) (fun _ _ _ h => h) (Or.inl ⟨by rfl, ?h31⟩) (HSX.out _ (Below.refl _ _)) ?_
              case h31 =>
                intro w hSw
                obtain ⟨t0, t1⟩ := hSw
                go_simp
                with_reducible rfl
              simp only [List.setIfInBounds_toArray, List.set_cons_zero, List.set_cons_succ]
              refine' take_at (i := 32) (d := 116) (v := _) rfl rfl (by kernel_rfl) (by kernel_rfl) (by kernel_rfl) (fun _ _ _ h => h) (Or.inl ⟨by rfl, ?h32⟩) (HSX.out _ (Below.refl _ _)) ?_
              case h32 =>
                intro w hSw
                obtain ⟨t0, t1⟩ := hSw
                go_simp
                with_reducible rfl
              simp only [List.setIfInBounds_toArray, List.set_cons_zero, List.set_cons_succ]
              refine' take_at (i := 33) (d := 117) (v := _) rfl rfl (by kernel_rfl) (by kernel_rfl) (by kernel_rfl) (fun _ _ _ h => h) (Or.inl ⟨by rfl, ?h33⟩) (HSX.out _ (Below.refl _ _)) ?_
              case h33 =>
                intro w hSw
                obtain ⟨t0, t1⟩ := hSw
                go_simp
                with_reducible rfl
              simp only [List.setIfInBounds_toArray, List.set_cons_zero, List.set_cons_succ]
              refine' take_at (i := 34) (d := 118) (v := _) rfl rfl (by kernel_rfl) (by kernel_rfl) (by kernel_rfl) (fun _ _ _ h => h) (Or.inl ⟨by rfl, ?h34⟩) (HSX.out _ (Below.refl _ _)) ?_
              case h34 =>
                intro w hSw
                obtain ⟨t0, t1⟩ := hSw
                go_simp
                with_reducible rfl
              simp only [List.setIfInBounds_toArray, List.set_cons_zero, List.set_cons_succ]
              refine wpAnyH_ready (rs := [35]) (by kernel_rfl) (by simp) ?_
              refine AllReadyH.cons (o := _) rfl (fun KQ hKQ => ?_) AllReadyH.nil
              go_simp
              refine (H9.out.1.live HS.out y.id true HL.out.1).mono ?_
              rintro e w10 ⟨rfl, hM10, hb10⟩
              have H10 : Hid (Mine15 LS W w10 q ((k : Int) + 2) s6 F6 ∧ Below w7.heap.size w7 w10 ∧ Below wX.heap.size wX w10) := ⟨hM10, H9.out.2.trans (hb10.mono H9.out.2.size), hb10⟩
              clear hM10 hb10
              refine hKQ.out _ _ (HSX.out _ H10.out.2.2) (fun _ => ?_)
              clear hKQ KQ
              refine' take_at (i := 36) (d := 120) (v := _) rfl rfl (by kernel_rfl) (by kernel_rfl) (by kernel_rfl) (fun _ _ _ h => h) (Or.inl ⟨by rfl, ?h36⟩) (HSX.out _ H10.out.2.2) ?_
              case h36 =>
                intro w hSw
                clear hSw
                go_simp
                with_reducible rfl
              simp only [List.setIfInBounds_toArray, List.set_cons_zero, List.set_cons_succ]
              refine' take_at (i := 37) (d := 121) (v := _) rfl rfl (by kernel_rfl) (by kernel_rfl) (by kernel_rfl) (fun _ _ _ h => h) (Or.inl ⟨by rfl, ?h37⟩) (HSX.out _ H10.out.2.2) ?_
              case h37 =>
                intro w hSw
                clear hSw
                go_simp
                with_reducible rfl
              simp only [List.setIfInBounds_toArray, List.set_cons_zero, List.set_cons_succ]
              refine wpAnyH_done (by kernel_rfl) ?_ _
              go_wp2
              go_roundw
              case rel => exact ⟨i + 1, by omega, by go_num, H10.out.2.1, H10.out.1⟩
              case measure => simp [intOf]; omega
            · obtain rfl : i = 0 := by omega
              rw [Nat.add_zero] at d1
              go_upto_region 26 with fail
              refine wp_region_held_drew (S := fun w' => w'.cell? ⟨ga, oa, none⟩ = some (.int .i64 y.id)) (by kernel_rfl) d1 (fun _ => ?_)
              have H9 : Hid (Mine15 LS W wr.drew q ((k : Int) + 2) s6 F6 ∧ Below w7.heap.size w7 wr.drew) := ⟨H8.out.1.later HS.out (Below.refl _ _).drew, H8.out.2.drew⟩
              have HSX : Hid (∀ w', Below wr.drew.heap.size wr.drew w' → w'.cell? ⟨ga, oa, none⟩ = some (.int .i64 y.id)) := by
                have h : (fun w' : World => w'.cell? ⟨ga, oa, none⟩ = some (.int .i64 y.id)) wr.drew := d1
                exact fun w' hb => Below.kept hb h
              clear d1 H8
              generalize wr.drew = wX at *
              refine' take_at (i := 0) (d := 84) (v := _) rfl rfl (by kernel_rfl) (by kernel_rfl) (by kernel_rfl) (fun _ _ _ h => h) (Or.inl ⟨by rfl, ?h0⟩) (HSX.out _ (Below.refl _ _)) ?_
              case h0 =>
                intro w hSw
                have t0 := hSw
                go_simp
                with_reducible rfl
              simp only [List.setIfInBounds_toArray, List.set_cons_zero, List.set_cons_succ]
              refine' take_at (i := 1) (d := 85) (v := _) rfl rfl (by kernel_rfl) (by kernel_rfl) (by kernel_rfl) (fun _ _ _ h => h) (Or.inl ⟨by rfl, ?h1⟩) (HSX.out _ (Below.refl _ _)) ?_
              case h1 =>
                intro w hSw
                have t0 := hSw
                go_simp
                with_reducible rfl
              simp only [List.setIfInBounds_toArray, List.set_cons_zero, List.set_cons_succ]
              refine' take_at (i := 2) (d := 86) (v := _) rfl rfl (by kernel_rfl) (by kernel_rfl) (by kernel_rfl) (fun _ _ _ h => h) (Or.inl ⟨by rfl, ?h2⟩) (HSX.out _ (Below.refl _ _)) ?_
              case h2 =>
                intro w hSw
                have t0 := hSw
                go_simp
                with_reducible rfl
              simp only [List.setIfInBounds_toArray, List.set_cons_zero, List.set_cons_succ]
              refine' take_at (i := 3) (d := 87) (v := _) rfl rfl (by kernel_rfl) (by kernel_rfl) (by kernel_rfl) (fun _ _ _ h => h) (Or.inl ⟨by rfl, ?h3⟩) (HSX.out _ (Below.refl _ _)) ?_
              case h3 =>
                intro w hSw
                have t0 := hSw
                go_simp
                with_reducible rfl
              simp only [List.setIfInBounds_toArray, List.set_cons_zero, List.set_cons_succ]
              refine' take_at (i := 4) (d := 88) (v := _) rfl rfl (by kernel_rfl) (by kernel_rfl) (by kernel_rfl) (fun _ _ _ h => h) (Or.inl ⟨by rfl, ?h4⟩) (HSX.out _ (Below.refl _ _)) ?_
              case h4 =>
                intro w hSw
                have t0 := hSw
                go_simp
                with_reducible rfl
              simp only [List.setIfInBounds_toArray, List.set_cons_zero, List.set_cons_succ]
              refine' take_at (i := 5) (d := 89) (v := _) rfl rfl (by kernel_rfl) (by kernel_rfl) (by kernel_rfl) (fun _ _ _ h => h) (Or.inl ⟨by rfl, ?h5⟩) (HSX.out _ (Below.refl _ _)) ?_
              case h5 =>
                intro w hSw
                have t0 := hSw
                go_simp
                with_reducible rfl
              simp only [List.setIfInBounds_toArray, List.set_cons_zero, List.set_cons_succ]
              refine' take_at (i := 6) (d := 90) (v := _) rfl rfl (by kernel_rfl) (by kernel_rfl) (by kernel_rfl) (fun _ _ _ h => h) (Or.inl ⟨by rfl, ?h6⟩) (HSX.out _ (Below.refl _ _)) ?_
              case h6 =>
                intro w hSw
                have t0 := hSw
                go_simp
                with_reducible rfl
              simp only [List.setIfInBounds_toArray, List.set_cons_zero, List.set_cons_succ]
              refine' take_at (i := 7) (d := 91) (v := _) rfl rfl (by kernel_rfl) (by kernel_rfl) (by kernel_rfl) (fun _ _ _ h => h) (Or.inl ⟨by rfl, ?h7⟩) (HSX.out _ (Below.refl _ _)) ?_
              case h7 =>
                intro w hSw
                have t0 := hSw
                go_simp
                with_reducible rfl
              simp only [List.setIfInBounds_toArray, List.set_cons_zero, List.set_cons_succ]
              refine' take_at (i := 8) (d := 92) (v := _) rfl rfl (by kernel_rfl) (by kernel_rfl) (by kernel_rfl) (fun _ _ _ h => h) (Or.inl ⟨by rfl, ?h8⟩) (HSX.out _ (Below.refl _ _)) ?_
              case h8 =>
                intro w hSw
                have t0 := hSw
                go_simp
                with_reducible rfl
              simp only [List.setIfInBounds_toArray, List.set_cons_zero, List.set_cons_succ]
              refine' take_at (i := 9) (d := 93) (v := _) rfl rfl (by kernel_rfl) (by kernel_rfl) (by kernel_rfl) (fun _ _ _ h => h) (Or.inl ⟨by rfl, ?h9⟩) (HSX.out _ (Below.refl _ _)) ?_
              case h9 =>
                intro w hSw
                have t0 := hSw
                go_simp
                with_reducible rfl
              simp only [List.setIfInBounds_toArray, List.set_cons_zero, List.set_cons_succ]
              refine' take_at (i := 10) (d := 94) (v := _) rfl rfl (by kernel_rfl) (by kernel_rfl) (by kernel_rfl) (fun _ _ _ h => h) (Or.inl ⟨by rfl, ?h10⟩) (HSX.out _ (Below.refl _ _)) ?_
              case h10 =>
                intro w hSw
                have t0 := hSw
                go_simp
                with_reducible rfl
              simp only [List.setIfInBounds_toArray, List.set_cons_zero, List.set_cons_succ]
              refine' take_at (i := 11) (d := 95) (v := _) rfl rfl (by kernel_rfl) (by kernel_rfl) (by kernel_rfl) (fun _ _ _ h => h) (Or.inl ⟨by rfl, ?h11⟩) (HSX.out _ (Below.refl _ _)) ?_
              case h11 =>
                intro w hSw
                have t0 := hSw
                go_simp
                with_reducible rfl
              simp only [List.setIfInBounds_toArray, List.set_cons_zero, List.set_cons_succ]
              refine' take_at (i := 12) (d := 96) (v := _) rfl rfl (by kernel_rfl) (by kernel_rfl) (by kernel_rfl) (fun _ _ _ h => h) (Or.inl ⟨by rfl, ?h12⟩) (HSX.out _ (Below.refl _ _)) ?_
              case h12 =>
                intro w hSw
                have t0 := hSw
                go_simp
                with_reducible rfl
              simp only [List.setIfInBounds_toArray, List.set_cons_zero, List.set_cons_succ]
              refine' take_at (i := 13) (d := 97) (v := _) rfl rfl (by kernel_rfl) (by kernel_rfl) (by kernel_rfl) (fun _ _ _ h => h) (Or.inl ⟨by rfl, ?h13⟩) (HSX.out _ (Below.refl _ _)) ?_
              case h13 =>
                intro w hSw
                have t0 := hSw
                go_simp
                with_reducible rfl
              simp only [List.setIfInBounds_toArray, List.set_cons_zero, List.set_cons_succ]
              refine' take_at (i := 14) (d := 98) (v := _) rfl rfl (by kernel_rfl) (by kernel_rfl) (by kernel_rfl) (fun _ _ _ h => h) (Or.inl ⟨by rfl, ?h14⟩) (HSX.out _ (Below.refl _ _)) ?_
              case h14 =>
                intro w hSw
                have t0 := hSw
                go_simp
                with_reducible rfl
              simp only [List.setIfInBounds_toArray, List.set_cons_zero, List.set_cons_succ]
              refine' take_at (i := 15) (d := 99) (v := _) rfl rfl (by kernel_rfl) (by kernel_rfl) (by kernel_rfl) (fun _ _ _ h => h) (Or.inl ⟨by rfl, ?h15⟩) (HSX.out _ (Below.refl _ _)) ?_
              case h15 =>
                intro w hSw
                have t0 := hSw
                go_simp
                with_reducible rfl
              simp only [List.setIfInBounds_toArray, List.set_cons_zero, List.set_cons_succ]
              refine' take_at (i := 16) (d := 100) (v := _) rfl rfl (by kernel_rfl) (by kernel_rfl) (by kernel_rfl) (fun _ _ _ h => h) (Or.inl ⟨by rfl, ?h16⟩) (HSX.out _ (Below.refl _ _)) ?_
              case h16 =>
                intro w hSw
                have t0 := hSw
                go_simp
                with_reducible rfl
              simp only [List.setIfInBounds_toArray, List.set_cons_zero, List.set_cons_succ]
              refine' take_at (i := 17) (d := 101) (v := undef) rfl rfl (by kernel_rfl) (by kernel_rfl) (by kernel_rfl) (fun _ _ _ h => h) (Or.inr ⟨by rfl, rfl⟩) (HSX.out _ (Below.refl _ _)) ?_
              simp only [List.setIfInBounds_toArray, List.set_cons_zero, List.set_cons_succ]
              refine' take_at (i := 18) (d := 102) (v := undef) rfl rfl (by kernel_rfl) (by kernel_rfl) (by kernel_rfl) (fun _ _ _ h => h) (Or.inr ⟨by rfl, rfl⟩) (HSX.out _ (Below.refl _ _)) ?_
              simp only [List.setIfInBounds_toArray, List.set_cons_zero, List.set_cons_succ]
              refine' take_at (i := 19) (d := 103) (v := undef) rfl rfl (by kernel_rfl) (by kernel_rfl) (by kernel_rfl) (fun _ _ _ h => h) (Or.inr ⟨by rfl, rfl⟩) (HSX.out _ (Below.refl _ _)) ?_
              simp only [List.setIfInBounds_toArray, List.set_cons_zero, List.set_cons_succ]
              refine' take_at (i := 20) (d := 104) (v := undef) rfl rfl (by kernel_rfl) (by kernel_rfl) (by kernel_rfl) (fun _ _ _ h => h) (Or.inr ⟨by rfl, rfl⟩) (HSX.out _ (Below.refl _ _)) ?_
              simp only [List.setIfInBounds_toArray, List.set_cons_zero, List.set_cons_succ]
              refine' take_at (i := 21) (d := 105) (v := undef) rfl rfl (by kernel_rfl) (by kernel_rfl) (by kernel_rfl) (fun _ _ _ h => h) (Or.inr ⟨by rfl, rfl⟩) (HSX.out _ (Below.refl _ _)) ?_
              simp only [List.setIfInBounds_toArray, List.set_cons_zero, List.set_cons_succ]
              refine' take_at (i := 22) (d := 106) (v := undef) rfl rfl (by kernel_rfl) (by kernel_rfl) (by kernel_rfl) (fun _ _ _ h => h) (Or.inr ⟨by rfl, rfl⟩) (HSX.out _ (Below.refl _ _)) ?_
              simp only [List.setIfInBounds_toArray, List.set_cons_zero, List.set_cons_succ]
              refine' take_at (i := 23) (d := 107) (v := undef) rfl rfl (by kernel_rfl) (by kernel_rfl) (by kernel_rfl) (fun _ _ _ h => h) (Or.inr ⟨by rfl, rfl⟩) (HSX.out _ (Below.refl _ _)) ?_
              simp only [List.setIfInBounds_toArray, List.set_cons_zero, List.set_cons_succ]
              refine' take_at (i := 24) (d := 108) (v := undef) rfl rfl (by kernel_rfl) (by kernel_rfl) (by kernel_rfl) (fun _ _ _ h => h) (Or.inr ⟨by rfl, rfl⟩) (HSX.out _ (Below.refl _ _)) ?_
              simp only [List.setIfInBounds_toArray, List.set_cons_zero, List.set_cons_succ]
              refine' take_at (i := 25) (d := 109) (v := undef) rfl rfl (by kernel_rfl) (by kernel_rfl) (by kernel_rfl) (fun _ _ _ h => h) (Or.inr ⟨by rfl, rfl⟩) (HSX.out _ (Below.refl _ _)) ?_
              simp only [List.setIfInBounds_toArray, List.set_cons_zero, List.set_cons_succ]
              refine' take_at (i := 26) (d := 110) (v := undef) rfl rfl (by kernel_rfl) (by kernel_rfl) (by kernel_rfl) (fun _ _ _ h => h) (Or.inr ⟨by rfl, rfl⟩) (HSX.out _ (Below.refl _ _)) ?_
              simp only [List.setIfInBounds_toArray, List.set_cons_zero, List.set_cons_succ]
              refine' take_at (i := 27) (d := 111) (v := _) rfl rfl (by kernel_rfl) (by kernel_rfl) (by kernel_rfl) (fun _ _ _ h => h) (Or.inl ⟨by rfl, ?h27⟩) (HSX.out _ (Below.refl _ _)) ?_
              case h27 =>
                intro w hSw
                have t0 := hSw
                go_simp
                with_reducible rfl
              simp only [List.setIfInBounds_toArray, List.set_cons_zero, List.set_cons_succ]
              refine' take_at (i := 28) (d := 112) (v := _) rfl rfl (by kernel_rfl) (by kernel_rfl) (by kernel_rfl) (fun _ _ _ h => h) (Or.inl ⟨by rfl, ?h28⟩) (HSX.out _ (Below.refl _ _)) ?_
              case h28 =>
                intro w hSw
                have t0 := hSw
                go_simp
                with_reducible rfl
              simp only [List.setIfInBounds_toArray, List.set_cons_zero, List.set_cons_succ]
              refine' take_at (i := 29) (d := 113) (v := _) rfl rfl (by kernel_rfl) (by kernel_rfl) (by kernel_rfl) (fun _ _ _ h => h) (Or.inl ⟨by rfl, ?h29⟩) (HSX.out _ (Below.refl _ _)) ?_
              case h29 =>
                intro w hSw
                have t0 := hSw
                go_simp
                with_reducible rfl
              simp only [List.setIfInBounds_toArray, List.set_cons_zero, List.set_cons_succ]
              refine' take_at (i := 30) (d := 114) (v := _) rfl rfl (by kernel_rfl) (by kernel_rfl) (by kernel_rfl) (fun _ _ _ h => h) (Or.inl ⟨by rfl, ?h30⟩) (HSX.out _ (Below.refl _ _)) ?_
              case h30 =>
                intro w hSw
                have t0 := hSw
                go_simp
                with_reducible rfl
              simp only [List.setIfInBounds_toArray, List.set_cons_zero, List.set_cons_succ]
              refine' take_at (i := 31) (d := 115) (v := _) rfl rfl (by kernel_rfl) (by kernel_rfl) (by kernel_rfl) (fun _ _ _ h => h) (Or.inl ⟨by rfl, ?h31⟩) (HSX.out _ (Below.refl _ _)) ?_
              case h31 =>
                intro w hSw
                have t0 := hSw
                go_simp
                with_reducible rfl
              simp only [List.setIfInBounds_toArray, List.set_cons_zero, List.set_cons_succ]
              refine' take_at (i := 32) (d := 116) (v := _) rfl rfl (by kernel_rfl) (by kernel_rfl) (by kernel_rfl) (fun _ _ _ h => h) (Or.inl ⟨by rfl, ?h32⟩) (HSX.out _ (Below.refl _ _)) ?_
              case h32 =>
                intro w hSw
                have t0 := hSw
                go_simp
                with_reducible rfl
              simp only [List.setIfInBounds_toArray, List.set_cons_zero, List.set_cons_succ]
              refine' take_at (i := 33) (d := 117) (v := _) rfl rfl (by kernel_rfl) (by kernel_rfl) (by kernel_rfl) (fun _ _ _ h => h) (Or.inl ⟨by rfl, ?h33⟩) (HSX.out _ (Below.refl _ _)) ?_
              case h33 =>
                intro w hSw
                have t0 := hSw
                go_simp
                with_reducible rfl
              simp only [List.setIfInBounds_toArray, List.set_cons_zero, List.set_cons_succ]
              refine' take_at (i := 34) (d := 118) (v := _) rfl rfl (by kernel_rfl) (by kernel_rfl) (by kernel_rfl) (fun _ _ _ h => h) (Or.inl ⟨by rfl, ?h34⟩) (HSX.out _ (Below.refl _ _)) ?_
              case h34 =>
                intro w hSw
                have t0 := hSw
                go_simp
                with_reducible rfl
              simp only [List.setIfInBounds_toArray, List.set_cons_zero, List.set_cons_succ]
              refine wpAnyH_ready (rs := [35]) (by kernel_rfl) (by simp) ?_
              refine AllReadyH.cons (o := _) rfl (fun KQ hKQ => ?_) AllReadyH.nil
              go_simp
              refine (H9.out.1.live HS.out y.id true HL.out.1).mono ?_
              rintro e w10 ⟨rfl, hM10, hb10⟩
              have H10 : Hid (Mine15 LS W w10 q ((k : Int) + 2) s6 F6 ∧ Below w7.heap.size w7 w10 ∧ Below wX.heap.size wX w10) := ⟨hM10, H9.out.2.trans (hb10.mono H9.out.2.size), hb10⟩
              clear hM10 hb10
              refine hKQ.out _ _ (HSX.out _ H10.out.2.2) (fun _ => ?_)
              clear hKQ KQ
              refine' take_at (i := 36) (d := 120) (v := _) rfl rfl (by kernel_rfl) (by kernel_rfl) (by kernel_rfl) (fun _ _ _ h => h) (Or.inl ⟨by rfl, ?h36⟩) (HSX.out _ H10.out.2.2) ?_
              case h36 =>
                intro w hSw
                clear hSw
                go_simp
                with_reducible rfl
              simp only [List.setIfInBounds_toArray, List.set_cons_zero, List.set_cons_succ]
              refine' take_at (i := 37) (d := 121) (v := _) rfl rfl (by kernel_rfl) (by kernel_rfl) (by kernel_rfl) (fun _ _ _ h => h) (Or.inl ⟨by rfl, ?h37⟩) (HSX.out _ H10.out.2.2) ?_
              case h37 =>
                intro w hSw
                clear hSw
                go_simp
                with_reducible rfl
              simp only [List.setIfInBounds_toArray, List.set_cons_zero, List.set_cons_succ]
              refine wpAnyH_done (by kernel_rfl) ?_ _
              go_wp2
              go_roundw
              case rel => exact ⟨0 + 1, by omega, by go_num, H10.out.2.1, H10.out.1⟩
              case measure => simp [intOf]; omega
          · have hin' : ¬ (i : Int) < (n3 : Int) := by omega
            have hn5 : ¬ (5 : Int) < (n3 : Int) := by omega
            go_wp2
            go_roundw
            case rel => exact ⟨k + 1, last, s6, F6, by omega, by go_num, rfl, by rw [show ((k + 1 : Nat) : Int) + 1 = (k : Int) + 2 by omega]; exact H8.out.1, HA.out.2.1, HA.out.2.2⟩
            case measure => simp [intOf]; omega
    · have hlt' : ¬ (k : Int) < (N : Int) := by omega
      go_wp2
      go_ret
      exact ⟨rfl, H3.out.1.below⟩
end Go.Proofs.Ytlabdhllindenaa
