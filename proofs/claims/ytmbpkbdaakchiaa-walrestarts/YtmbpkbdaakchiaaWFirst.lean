/- What frame.value and frame.first answer. -/
import Derived.Test.YtmbpkbdaakchiaaWPut
namespace Go.Proofs.Ytmbpkbdaakchiaa
open Go.RowKit

theorem one_sum {rs : List UInt8} {N : Nat} (hN : Pk.val (rs.take 4) = N) (h12 : 12 ≤ rs.length) (hM : Pk.val ((rs.drop 4).take 4) = 4294967295 - N) (hl : 12 + N ≤ rs.length) (hb : N ≤ 20000) :
    Fr.frame ((rs.drop 12).take N) = rs.take (12 + N) ↔ Pk.val ((rs.drop 8).take 4) = (Cr.sum (rs.take 8 ++ (rs.drop 12).take N)).toNat := by
  obtain ⟨A, B, S, T, rfl, hA, hB, hS⟩ : ∃ A B S T, rs = A ++ (B ++ (S ++ T)) ∧ A.length = 4 ∧ B.length = 4 ∧ S.length = 4 := by
    refine ⟨rs.take 4, (rs.drop 4).take 4, (rs.drop 8).take 4, rs.drop 12, ?_, ?_, ?_, ?_⟩
    · have e1 : (rs.drop 8).take 4 ++ rs.drop 12 = rs.drop 8 := by
        have := List.take_append_drop 4 (rs.drop 8)
        rw [List.drop_drop] at this
        exact this
      have e2 : (rs.drop 4).take 4 ++ rs.drop 8 = rs.drop 4 := by
        have := List.take_append_drop 4 (rs.drop 4)
        rw [List.drop_drop] at this
        exact this
      rw [e1, e2, List.take_append_drop]
    · rw [List.length_take]; omega
    · rw [List.length_take, List.length_drop]; omega
    · rw [List.length_take, List.length_drop]; omega
  have e1 : (A ++ (B ++ (S ++ T))).take 4 = A := List.take_left' hA
  have e2 : ((A ++ (B ++ (S ++ T))).drop 4).take 4 = B := by rw [List.drop_left' hA]; exact List.take_left' hB
  have e8 : (A ++ (B ++ (S ++ T))).take 8 = A ++ B := by rw [← List.append_assoc]; exact List.take_left' (by rw [List.length_append]; omega)
  have e3 : ((A ++ (B ++ (S ++ T))).drop 8).take 4 = S := by
    rw [← List.append_assoc, List.drop_left' (by rw [List.length_append]; omega)]
    exact List.take_left' hS
  have e12 : (A ++ (B ++ (S ++ T))).drop 12 = T := by
    have e : A ++ (B ++ (S ++ T)) = (A ++ B ++ S) ++ T := by simp only [List.append_assoc]
    rw [e]
    exact List.drop_left' (by rw [List.length_append, List.length_append]; omega)
  have eT : (A ++ (B ++ (S ++ T))).take (12 + N) = A ++ B ++ S ++ T.take N := by
    have e : A ++ (B ++ (S ++ T)) = (A ++ B ++ S) ++ T := by simp only [List.append_assoc]
    have el : (A ++ B ++ S).length = 12 := by rw [List.length_append, List.length_append]; omega
    rw [e, List.take_append, el, Nat.add_sub_cancel_left, List.take_of_length_le (by omega)]
  rw [e1] at hN
  rw [e2] at hM
  rw [e12, eT, e3, e8]
  have hAe : A = Fr.be4 N := Fr.val_inj4 hA (Fr.be4_len _) (by rw [hN, Fr.val_be4 _ (by omega)])
  have hBe : B = Fr.be4 (4294967295 - N) := Fr.val_inj4 hB (Fr.be4_len _) (by rw [hM, Fr.val_be4 _ (by omega)])
  have hAB : A ++ B = Fr.head N := by rw [hAe, hBe]; rfl
  have hTl : (T.take N).length = N := by
    simp only [List.length_append] at hl
    rw [List.length_take]; omega
  rw [hAB]
  unfold Fr.frame
  rw [hTl]
  constructor
  · intro h
    have h2 := (Fr.app_len_eq (Fr.app_len_eq h (by rw [List.length_append, List.length_append, Fr.be4_len, hS])).1 rfl).2
    rw [← h2, Fr.val_be4 _ (sum_lt _)]
  · intro h
    have : S = Fr.be4 (Cr.sum (Fr.head N ++ T.take N)).toNat := Fr.val_inj4 hS (Fr.be4_len _) (by rw [h, Fr.val_be4 _ (sum_lt _)])
    rw [this]

set_option maxHeartbeats 1000000 in
theorem value_any (v : Value) (xs : List UInt8) (N : Nat) (w : World) (hb : Bs w v xs) (h4 : 4 ≤ xs.length) (hN : Pk.val (xs.take 4) = N) (hL : xs.length ≤ 1000000) :
    Calls Try.prog 51 #[v] w fun e w' => e = .returned (.int .u32 (N : Int)) ∧ ∃ m, w' = w.drewN m := by
  obtain ⟨g, o, n, c, rfl, hn, _, hcs⟩ := hb.plain (by omega)
  obtain ⟨x0, x1, x2, x3, ht, q0, q1, q2, q3⟩ := take4 h4
  rw [← hN, ht]
  have h0 := hcs 0 x0 q0
  have h1 := hcs 1 x1 q1
  have h2 := hcs 2 x2 q2
  have h3 := hcs 3 x3 q3
  simp only [Nat.add_zero] at h0
  have t0 : (0 : Int) < (n : Int) := by omega
  have t1 : (1 : Int) < (n : Int) := by omega
  have t2 : (2 : Int) < (n : Int) := by omega
  have t3 : (3 : Int) < (n : Int) := by omega
  clear hb hcs hn ht q0 q1 q2 q3 hN h4 hL
  go_enter Try.func51, Try.ntmps51
  go_wp2
  go_quiet (fail)
  rw [at32_mod]
  go_wp2
  go_ret
  exact ⟨rfl, nq, rfl⟩

set_option maxRecDepth 20000 in
set_option maxHeartbeats 4000000 in
theorem first_any (v : Value) (rs : List UInt8) (w : World) (hb : Bs w v rs) (h0 : 0 < rs.length) (hN : rs.length ≤ 100000) :
    Calls Try.prog 40 #[v] w fun e w' => Below w.heap.size w w' ∧ ((∃ h : Nat, Fr.one rs = .error h ∧ (h = 1 ∨ h = 2) ∧ e = .returned (.tuple #[.slice none 0 0, .int .i64 (h : Int)])) ∨ ∃ u r, Fr.one rs = .ok r ∧ Bs w' u r ∧ r.length ≤ rs.length ∧ e = .returned (.tuple #[u, .int .i64 0])) := by
  have HV : Hid (Bs w v rs) := hb
  obtain ⟨g, o, n, c, rfl, hn, hnc, _⟩ := hb.plain h0
  have HL : Hid (n = rs.length) := hn
  have hn1 : n ≤ 100000 := by omega
  clear hb h0 hN hn
  go_enter Try.func40, Try.ntmps40
  by_cases h12 : n < 12
  · have h12' : (n : Int) < 12 := by omega
    have HO : Hid (Fr.one rs = .error 1) := by
      have h : Fr.one rs = .error 1 := by unfold Fr.one; rw [if_pos (by rw [← HL.out]; exact h12)]
      exact h
    go_wp2
    go_ret2
    exact ⟨Below.refl _ _, Or.inl ⟨1, HO.out, Or.inl rfl, rfl⟩⟩
  · have h12' : ¬ (n : Int) < 12 := by omega
    obtain ⟨N, hNe⟩ : ∃ N, Pk.val (rs.take 4) = N := ⟨_, rfl⟩
    obtain ⟨M, hMe⟩ : ∃ M, Pk.val ((rs.drop 4).take 4) = M := ⟨_, rfl⟩
    obtain ⟨Z, hZe⟩ : ∃ Z, Pk.val ((rs.drop 8).take 4) = Z := ⟨_, rfl⟩
    have HNM : Hid (Pk.val (rs.take 4) = N ∧ Pk.val ((rs.drop 4).take 4) = M ∧ Pk.val ((rs.drop 8).take 4) = Z) := ⟨hNe, hMe, hZe⟩
    have hN32 : N < 4294967296 := by
      have := Pk.val_lt (rs.take 4)
      rw [List.length_take, ← HL.out, Nat.min_eq_left (by omega), hNe] at this
      omega
    clear hNe hMe hZe
    have hc4 : ¬ c = 4 := by omega
    have hc8 : ¬ c = 8 := by omega
    have hc8' : (8 : Int) ≤ (c : Int) := by omega
    have hc4' : (4 : Int) ≤ (c : Int) := by omega
    have t4 : (4 : Int) ≤ (n : Int) := by omega
    have t8 : (8 : Int) ≤ (n : Int) := by omega
    have HV4 : Hid (∀ q, Bs (w.drewN q) (.slice (some ⟨g, o + 4, none⟩) (n - 4) (c - 4)) (rs.drop 4)) := fun q => (HV.out.below (below_drewN (Below.refl _ w) q)).drop (by omega)
    have HV8 : Hid (∀ q, Bs (w.drewN q) (.slice (some ⟨g, o + 8, none⟩) (n - 8) (c - 8)) (rs.drop 8)) := fun q => (HV.out.below (below_drewN (Below.refl _ w) q)).drop (by omega)
    have HV0 : Hid (∀ q, Bs (w.drewN q) (.slice (some ⟨g, o, none⟩) n c) rs) := fun q => HV.out.below (below_drewN (Below.refl _ w) q)
    go_wp2
    go_quiet (first
      | (go_at_call 51; refine Calls.quiet_of (v := .int .u32 (N : Int)) ?_; exact value_any _ rs N _ (HV0.out _) (by rw [← HL.out]; omega) HNM.out.1 (by rw [← HL.out]; omega))
      | (go_at_call 51; refine Calls.quiet_of (v := .int .u32 (M : Int)) ?_; exact value_any _ (rs.drop 4) M _ (HV4.out _) (by rw [List.length_drop, ← HL.out]; omega) HNM.out.2.1 (by rw [List.length_drop, ← HL.out]; omega))
      | (go_at_call 51; refine Calls.quiet_of (v := .int .u32 (Z : Int)) ?_; exact value_any _ (rs.drop 8) Z _ (HV8.out _) (by rw [List.length_drop, ← HL.out]; omega) HNM.out.2.2 (by rw [List.length_drop, ← HL.out]; omega)))
    have HB1 : Hid (Below w.heap.size w (w.drewN nq)) := below_drewN (Below.refl _ w) nq
    have HV1 := HV0.out nq
    have HV1 : Hid (Bs (w.drewN nq) (.slice (some ⟨g, o, none⟩) n c) rs) := HV1
    clear HV0 HV4 HV8
    generalize w.drewN nq = w1 at *
    have hturn := turn32m N hN32
    obtain ⟨T, hT⟩ : ∃ T : Nat, T = 4294967295 - N := ⟨_, rfl⟩
    rw [← hT] at hturn
    have HT : Hid (T = 4294967295 - N) := hT
    have HTU : Hid (bits .xor .u32 (IntKind.max .u32) (N : Int) = (T : Int)) := hturn
    clear hT hturn
    have HO : Hid (Fr.one rs = if M ≠ T ∨ 20000 < N then .error 2 else if rs.length < 12 + N then .error 1 else if Fr.frame ((rs.drop 12).take N) ≠ rs.take (12 + N) then .error 2 else .ok ((rs.drop 12).take N)) := by
      have h : Fr.one rs = if M ≠ T ∨ 20000 < N then .error 2 else if rs.length < 12 + N then .error 1 else if Fr.frame ((rs.drop 12).take N) ≠ rs.take (12 + N) then .error 2 else .ok ((rs.drop 12).take N) := by
        unfold Fr.one
        rw [if_neg (by rw [← HL.out]; exact h12), HNM.out.1, HNM.out.2.1, HT.out]
      exact h
    by_cases hMT : M = T
    · have hne2 : (M : Int) = bits .xor .u32 (IntKind.max .u32) (N : Int) := by rw [HTU.out, hMT]
      by_cases hbig : 20000 < N
      · have hbig' : (20000 : Int) < (N : Int) := by omega
        have HE : Hid (Fr.one rs = .error 2) := by
          have h := HO.out
          rw [if_pos (Or.inr hbig)] at h
          exact h
        clear hMT
        go_wp2
        go_ret2
        exact ⟨HB1.out, Or.inl ⟨2, HE.out, Or.inr rfl, rfl⟩⟩
      · have hbig' : ¬ (20000 : Int) < (N : Int) := by omega
        have HO2 : Hid (Fr.one rs = if rs.length < 12 + N then .error 1 else if Fr.frame ((rs.drop 12).take N) ≠ rs.take (12 + N) then .error 2 else .ok ((rs.drop 12).take N)) := by
          have h := HO.out
          rw [if_neg (by omega)] at h
          exact h
        have HMT : Hid (M = T) := hMT
        clear hMT
        by_cases hfew : n < 12 + N
        · have hfew' : (n : Int) - 12 < (N : Int) := by omega
          have HE : Hid (Fr.one rs = .error 1) := by
            have h := HO2.out
            rw [if_pos (by rw [← HL.out]; exact hfew)] at h
            exact h
          go_wp2
          go_ret2
          exact ⟨HB1.out, Or.inl ⟨1, HE.out, Or.inl rfl, rfl⟩⟩
        · have hfew' : ¬ (n : Int) - 12 < (N : Int) := by omega
          obtain ⟨rc, hrc⟩ : ∃ rc, rc = (rs.drop 12).take N := ⟨_, rfl⟩
          have HRC : Hid (rc = (rs.drop 12).take N ∧ rc.length = N) := ⟨hrc, by rw [hrc, List.length_take, List.length_drop, ← HL.out]; omega⟩
          clear hrc
          by_cases hc12 : c = 12
          · have hN0 : N = 0 := by omega
            have hr0 : n = 12 := by omega
            subst hN0 hr0 hc12
            clear hbig' hfew'
            have HSV : Hid (Bs w1 (.slice (some ⟨g, o, none⟩) 0 0) rc) := by
              have h : Bs w1 (.slice (some ⟨g, o, none⟩) 0 0) rc := by
                have e : rc = [] := by rw [HRC.out.1, List.take_zero]
                rw [e]
                exact Bs.none _ _ _ _
              exact h
            have HSV8 : Hid (Bs w1 (.slice (some ⟨g, o, none⟩) 8 12) (rs.take 8)) := HV1.out.cut (by omega)
            go_wp2_with fail
            refine (of_any _ [rs.take 8, rc] _ (Bl.two 31 HSV8.out HSV.out) (by simp) (fun y hy => ?_)).mono ?_
            · have h1 := HRC.out.2
              unfold maxLen
              simp at hy
              rcases hy with rfl | rfl
              · rw [List.length_take]; omega
              · omega
            rintro e w2 ⟨rfl, hw⟩
            have HB2 : Hid (Below w.heap.size w w2) := by rw [hw]; exact HB1.out.alloc HB1.out.size _
            have HS2 : Hid (Bs w2 (.slice (some ⟨g, o, none⟩) 0 0) rc) := by rw [hw]; exact HSV.out.below ((Below.refl _ w1).alloc (Nat.le_refl _) _)
            have e5 : [rs.take 8, rc].flatten = rs.take 8 ++ rc := by simp
            rw [e5]
            obtain ⟨Y, hY⟩ : ∃ Y, (Cr.sum (rs.take 8 ++ rc)).toNat = Y := ⟨_, rfl⟩
            have HQ : Hid (Fr.frame rc = rs.take (12 + 0) ↔ Z = Y) := by
              have h := one_sum HNM.out.1 (by rw [← HL.out]; omega) (by rw [HNM.out.2.1, HMT.out, HT.out]) (by rw [← HL.out]; omega) (by omega)
              rw [← HRC.out.1, HNM.out.2.2, hY] at h
              exact h
            rw [hY]
            clear hw e5 hY
            by_cases hZY : Z = Y
            · have HE : Hid (Fr.one rs = .ok rc) := by
                have h := HO2.out
                rw [if_neg (by rw [← HL.out]; exact hfew), ← HRC.out.1, if_neg (fun e => e (HQ.out.2 hZY))] at h
                exact h
              subst hZY
              go_wp2
              go_ret2
              exact ⟨HB2.out, Or.inr ⟨_, rc, HE.out, HS2.out, by have := HRC.out.2; have := HL.out; omega, rfl⟩⟩
            · have HE : Hid (Fr.one rs = .error 2) := by
                have h := HO2.out
                rw [if_neg (by rw [← HL.out]; exact hfew), ← HRC.out.1, if_pos (fun e => hZY (HQ.out.1 e))] at h
                exact h
              have hZY' : ¬ (Z : Int) = (Y : Int) := by omega
              clear hZY
              go_wp2
              go_ret2
              exact ⟨HB2.out, Or.inl ⟨2, HE.out, Or.inr rfl, rfl⟩⟩
          · have hcap : (12 : Int) + (N : Int) ≤ (c : Int) := by omega
            have hcap3 : (12 : Int) ≤ (c : Int) := by omega
            have HSV : Hid (Bs w1 (.slice (some ⟨g, o + 12, none⟩) N (c - 12)) rc) := by
              have h := (HV1.out.drop (k := 12) (by omega)).cut (k := N) (by omega)
              rw [← HRC.out.1] at h
              exact h
            have hNi : (N : Int) % 18446744073709551616 = (N : Int) := by omega
            have HSV8 : Hid (Bs w1 (.slice (some ⟨g, o, none⟩) 8 c) (rs.take 8)) := HV1.out.cut (by omega)
            have hcap8 : (8 : Int) ≤ (c : Int) := by omega
            go_wp2_with fail
            refine (of_any _ [rs.take 8, rc] _ (Bl.two 31 HSV8.out HSV.out) (by simp) (fun y hy => ?_)).mono ?_
            · have h1 := HRC.out.2
              unfold maxLen
              simp at hy
              rcases hy with rfl | rfl
              · rw [List.length_take]; omega
              · omega
            rintro e w2 ⟨rfl, hw⟩
            have HB2 : Hid (Below w.heap.size w w2) := by rw [hw]; exact HB1.out.alloc HB1.out.size _
            have HS2 : Hid (Bs w2 (.slice (some ⟨g, o + 12, none⟩) N (c - 12)) rc) := by rw [hw]; exact HSV.out.below ((Below.refl _ w1).alloc (Nat.le_refl _) _)
            have e5 : [rs.take 8, rc].flatten = rs.take 8 ++ rc := by simp
            rw [e5]
            obtain ⟨Y, hY⟩ : ∃ Y, (Cr.sum (rs.take 8 ++ rc)).toNat = Y := ⟨_, rfl⟩
            have HQ : Hid (Fr.frame rc = rs.take (12 + N) ↔ Z = Y) := by
              have h := one_sum HNM.out.1 (by rw [← HL.out]; omega) (by rw [HNM.out.2.1, HMT.out, HT.out]) (by rw [← HL.out]; omega) (by omega)
              rw [← HRC.out.1, HNM.out.2.2, hY] at h
              exact h
            rw [hY]
            clear hw e5 hY
            by_cases hZY : Z = Y
            · have HE : Hid (Fr.one rs = .ok rc) := by
                have h := HO2.out
                rw [if_neg (by rw [← HL.out]; exact hfew), ← HRC.out.1, if_neg (fun e => e (HQ.out.2 hZY))] at h
                exact h
              subst hZY
              go_wp2
              go_ret2
              exact ⟨HB2.out, Or.inr ⟨_, rc, HE.out, HS2.out, by have := HRC.out.2; have := HL.out; omega, rfl⟩⟩
            · have HE : Hid (Fr.one rs = .error 2) := by
                have h := HO2.out
                rw [if_neg (by rw [← HL.out]; exact hfew), ← HRC.out.1, if_pos (fun e => hZY (HQ.out.1 e))] at h
                exact h
              have hZY' : ¬ (Z : Int) = (Y : Int) := by omega
              clear hZY
              go_wp2
              go_ret2
              exact ⟨HB2.out, Or.inl ⟨2, HE.out, Or.inr rfl, rfl⟩⟩
    · have hne : ¬ (M : Int) = bits .xor .u32 (IntKind.max .u32) (N : Int) := by rw [HTU.out]; omega
      have HE : Hid (Fr.one rs = .error 2) := by
        have h := HO.out
        rw [if_pos (Or.inl hMT)] at h
        exact h
      clear hMT
      go_wp2
      go_ret2
      exact ⟨HB1.out, Or.inl ⟨2, HE.out, Or.inr rfl, rfl⟩⟩
end Go.Proofs.Ytmbpkbdaakchiaa
