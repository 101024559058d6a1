/- What the reference's Scan answers. -/
import Derived.Test.YtnpdfendcffapaaRCrc
import Derived.Test.YtnpdfendcffapaaRows2
namespace Go.Proofs.Ytnpdfendcffapaa
open Go.RowKit

theorem scan_end {xs rs : List UInt8} {ls : List (List UInt8)} {k q : Nat} (h : Fr.scan xs = (ls ++ (Fr.scan rs).1, k + (Fr.scan rs).2.1, (Fr.scan rs).2.2)) (hs : Fr.scan rs = ([], 0, q)) : Fr.scan xs = (ls, k, q) := by
  rw [h, hs]
  simp

theorem scan_on {xs rs r : List UInt8} {ls : List (List UInt8)} {k : Nat} (h : Fr.scan xs = (ls ++ (Fr.scan rs).1, k + (Fr.scan rs).2.1, (Fr.scan rs).2.2)) (h0 : rs ≠ []) (hs : Fr.one rs = .ok r) :
    Fr.scan xs = ((ls ++ [r]) ++ (Fr.scan (rs.drop (12 + r.length))).1, (k + (12 + r.length)) + (Fr.scan (rs.drop (12 + r.length))).2.1, (Fr.scan (rs.drop (12 + r.length))).2.2) := by
  rw [h, Fr.scan_ok h0 hs]
  simp only [List.append_assoc, List.singleton_append, Prod.mk.injEq, true_and, and_true]
  omega

set_option maxRecDepth 20000 in
set_option maxHeartbeats 4000000 in
theorem refScan_any (v : Value) (xs : List UInt8) (w : World) (hb : Bs w v xs) (hN : xs.length ≤ 100000) :
    Calls Try.prog 12 #[v] w fun e w' => ∃ l, e = .returned (.tuple #[l, .int .i64 ((Fr.scan xs).2.1 : Int), .int .i64 ((Fr.scan xs).2.2 : Int)]) ∧ Lo w' w.heap.size l (Fr.scan xs).1 ∧ Below w.heap.size w w' := by
  have HV : Hid (Bs w v xs) := hb
  obtain ⟨ao, n, c, rfl, hn, hsl⟩ := hb
  have HN : Hid (n = xs.length ∧ n ≤ c) := ⟨hn, by rw [hn]; exact hsl.cap⟩
  have hn1 : n ≤ 100000 := by omega
  clear hn hsl hN
  go_enter Try.func12, Try.ntmps12
  go_wp2
  go_loopw [5, 6] (fun l i wr => ∃ (k : Nat) (ls : List (List UInt8)), k ≤ n ∧ i = .int .i64 (k : Int) ∧ Fr.scan xs = (ls ++ (Fr.scan (xs.drop k)).1, k + (Fr.scan (xs.drop k)).2.1, (Fr.scan (xs.drop k)).2.2) ∧ ls.length ≤ k ∧ Lo wr w.heap.size l ls ∧ Below w.heap.size w wr) (fun _ i _ => ((n : Int) - intOf i).toNat)
  case atStart => exact ⟨0, [], Nat.zero_le _, rfl, by simp, by simp, Lo.nil _ _, Below.refl _ _⟩
  case round =>
    obtain ⟨k, ls, hk, rfl, hsc, hll, hL, hb⟩ := hrel
    have HSC : Hid (Fr.scan xs = (ls ++ (Fr.scan (xs.drop k)).1, k + (Fr.scan (xs.drop k)).2.1, (Fr.scan (xs.drop k)).2.2)) := hsc
    have HLL : Hid (ls.length ≤ k) := hll
    have HL : Hid (Lo wr w.heap.size u5 ls) := hL
    have HB : Hid (Below w.heap.size w wr) := hb
    clear hsc hll hL hb
    by_cases hlt : k < n
    · have hlt' : (k : Int) < (n : Int) := by omega
      have hvw := HV.out.below HB.out
      have h0 : 0 < xs.length := by rw [← HN.out.1]; omega
      obtain ⟨g, o, n', c', hv', hq1, hq2, hq3⟩ := hvw.plain h0
      clear hq1 hq2 hq3
      simp only [Value.slice.injEq] at hv'
      obtain ⟨rfl, rfl, rfl⟩ := hv'
      have hkc : ¬ c = k := by have := HN.out.2; omega
      have hkc2 : (k : Int) ≤ (c : Int) := by have := HN.out.2; omega
      obtain ⟨rs, hrs⟩ : ∃ rs, rs = xs.drop k := ⟨_, rfl⟩
      have HR : Hid (Bs wr (.slice (some ⟨g, o + k, none⟩) (n - k) (c - k)) rs ∧ rs.length = n - k ∧ rs = xs.drop k) := ⟨by rw [hrs]; exact hvw.drop (by omega), by rw [hrs, List.length_drop, ← HN.out.1], hrs⟩
      clear hvw hrs h0
      have HR0 : Hid (rs ≠ []) := fun e => by have := HR.out.2.1; rw [e] at this; simp at this; omega
      have HSC2 : Hid (Fr.scan xs = (ls ++ (Fr.scan rs).1, k + (Fr.scan rs).2.1, (Fr.scan rs).2.2)) := by
        have h := HSC.out
        rw [← HR.out.2.2] at h
        exact h
      by_cases h12 : n - k < 12
      · have h12' : ((n - k : Nat) : Int) < 12 := by omega
        have HE : Hid (Fr.scan xs = (ls, k, 1)) := scan_end HSC2.out (Fr.scan_bad HR0.out (by unfold Fr.one; rw [if_pos (by rw [HR.out.2.1]; exact h12)]))
        go_wp2
        go_ret3
        rw [HE.out]
        exact ⟨_, rfl, HL.out, HB.out⟩
      · have h12' : ¬ ((n - k : Nat) : Int) < 12 := by omega
        obtain ⟨N, hNe⟩ : ∃ N, N = Pk.val (rs.take 4) := ⟨_, rfl⟩
        obtain ⟨M, hMe⟩ : ∃ M, M = Pk.val ((rs.drop 4).take 4) := ⟨_, rfl⟩
        have HNM : Hid (N = Pk.val (rs.take 4) ∧ M = Pk.val ((rs.drop 4).take 4)) := ⟨hNe, hMe⟩
        have hN32 : N < 4294967296 := by
          have := Pk.val_lt (rs.take 4)
          rw [List.length_take, HR.out.2.1, Nat.min_eq_left (by omega)] at this
          omega
        have hM32 : M < 4294967296 := by
          have := Pk.val_lt ((rs.drop 4).take 4)
          rw [List.length_take, List.length_drop, HR.out.2.1, Nat.min_eq_left (by omega)] at this
          omega
        clear hNe hMe
        go_wp2_with fail
        refine (refAt_any _ rs _ HR.out.1 (by rw [HR.out.2.1]; omega) (by rw [HR.out.2.1]; omega)).mono ?_
        rintro e w1 ⟨rfl, hb1⟩
        have HB1 : Hid (Below w.heap.size w w1) := HB.out.trans (hb1.mono HB.out.size)
        have HR1 : Hid (Bs w1 (.slice (some ⟨g, o + k, none⟩) (n - k) (c - k)) rs) := HR.out.1.below hb1
        have HL1 : Hid (Lo w1 w.heap.size u5 ls) := HL.out.grown hb1
        rw [← HNM.out.1]
        clear hb1
        have h44 : ¬ c - k = 4 := by have := HN.out.2; omega
        go_wp2_with fail
        refine (refAt_any _ (rs.drop 4) _ (HR1.out.drop (by omega)) (by rw [List.length_drop, HR.out.2.1]; omega) (by rw [List.length_drop, HR.out.2.1]; omega)).mono ?_
        rintro e w2 ⟨rfl, hb2⟩
        have HB2 : Hid (Below w.heap.size w w2) := HB1.out.trans (hb2.mono HB1.out.size)
        have HR2 : Hid (Bs w2 (.slice (some ⟨g, o + k, none⟩) (n - k) (c - k)) rs) := HR1.out.below hb2
        have HL2 : Hid (Lo w2 w.heap.size u5 ls) := HL1.out.grown hb2
        rw [← HNM.out.2]
        clear hb2
        have hturn := turn32m N hN32
        obtain ⟨T, hT⟩ : ∃ T : Nat, T = 4294967295 - N := ⟨_, rfl⟩
        rw [← hT] at hturn
        have HT : Hid (T = 4294967295 - N) := hT
        have HTU : Hid (bits .xor .u32 (IntKind.max .u32) (N : Int) = (T : Int)) := hturn
        clear hT hturn
        have HO : Hid (Fr.one rs = if M ≠ T ∨ 20000 < N then .error 2 else if rs.length < 12 + N then .error 1 else if Fr.frame ((rs.drop 12).take N) ≠ rs.take (12 + N) then .error 2 else .ok ((rs.drop 12).take N)) := by
          have h : Fr.one rs = if M ≠ T ∨ 20000 < N then .error 2 else if rs.length < 12 + N then .error 1 else if Fr.frame ((rs.drop 12).take N) ≠ rs.take (12 + N) then .error 2 else .ok ((rs.drop 12).take N) := by
            unfold Fr.one
            rw [if_neg (by rw [HR.out.2.1]; exact h12), ← HNM.out.1, ← HNM.out.2, HT.out]
          exact h
        by_cases hMT : M = T
        · have hne2 : (M : Int) = bits .xor .u32 (IntKind.max .u32) (N : Int) := by rw [HTU.out, hMT]
          by_cases hbig : 20000 < N
          · have hbig' : (20000 : Int) < (N : Int) := by omega
            have HE : Hid (Fr.scan xs = (ls, k, 2)) := scan_end HSC2.out (Fr.scan_bad HR0.out (by rw [HO.out, if_pos (Or.inr hbig)]))
            clear hMT
            go_wp2
            go_ret3
            rw [HE.out]
            exact ⟨_, rfl, HL2.out, HB2.out⟩
          · have hbig' : ¬ (20000 : Int) < (N : Int) := by omega
            have HO2 : Hid (Fr.one rs = if rs.length < 12 + N then .error 1 else if Fr.frame ((rs.drop 12).take N) ≠ rs.take (12 + N) then .error 2 else .ok ((rs.drop 12).take N)) := by
              have h := HO.out
              rw [if_neg (by omega)] at h
              exact h
            clear hMT
            have hNi : (N : Int) % 18446744073709551616 = (N : Int) := by omega
            by_cases hfew : n - k < 12 + N
            · have hfew' : ((n - k : Nat) : Int) - 12 < (N : Int) := by omega
              have HE : Hid (Fr.scan xs = (ls, k, 1)) := scan_end HSC2.out (Fr.scan_bad HR0.out (by rw [HO2.out, if_pos (by rw [HR.out.2.1]; exact hfew)]))
              go_wp2
              go_ret3
              rw [HE.out]
              exact ⟨_, rfl, HL2.out, HB2.out⟩
            · have hfew' : ¬ ((n - k : Nat) : Int) - 12 < (N : Int) := by omega
              have hcap : (12 : Int) + (N : Int) ≤ ((c - k : Nat) : Int) := by have := HN.out.2; omega
              obtain ⟨rc, hrc⟩ : ∃ rc, rc = (rs.drop 12).take N := ⟨_, rfl⟩
              have HRC : Hid (rc = (rs.drop 12).take N ∧ rc.length = N) := ⟨hrc, by rw [hrc, List.length_take, List.length_drop, HR.out.2.1]; omega⟩
              clear hrc
              by_cases hc12 : c - k = 12
              · obtain rfl : N = 0 := by omega
                have hr0 : n - k = 12 := by have := HN.out.2; omega
                clear hNi hcap hbig' hfew'
                rw [hc12] at HR1 HR2
                have HSV : Hid (Bs w2 (.slice (some ⟨g, o + k, none⟩) 0 0) rc) := by
                  have h : Bs w2 (.slice (some ⟨g, o + k, none⟩) 0 0) rc := by
                    have e : rc = [] := by rw [HRC.out.1, List.take_zero]
                    rw [e]
                    exact Bs.none _ _ _ _
                  exact h
                go_wp2_with (at_builtin; refine append_copy rfl _ _ rfl (.slice (some ⟨g, o + k, none⟩) 0 0) rc w2 rfl rfl HSV.out (by rw [HRC.out.2]; omega) ?_)
                intro v3 w3 ho hb
                obtain ⟨ao3, c3, rfl⟩ := own_shape ho
                obtain ⟨v3, hv3⟩ : ∃ v3 : Value, v3 = .slice ao3 rc.length c3 := ⟨_, rfl⟩
                rw [← hv3] at ho ⊢
                have HV3 : Hid (v3 = .slice ao3 rc.length c3) := hv3
                clear hv3
                have HO3 : Hid (w3.ownsRow w2.heap.size 5 1 v3 rc.length (bc rc)) := ho
                have HB3 : Hid (Below w.heap.size w w3) := HB2.out.trans (hb.mono HB2.out.size)
                have HR3 : Hid (Bs w3 (.slice (some ⟨g, o + k, none⟩) (n - k) 12) rs) := HR2.out.below hb
                have HL3 : Hid (Lo w3 w.heap.size u5 ls) := HL2.out.grown hb
                clear ho hb
                obtain ⟨X, hX⟩ : ∃ X : ByteArray, X = ⟨(Fr.frame rc).toArray⟩ := ⟨_, rfl⟩
                obtain ⟨Y, hY⟩ : ∃ Y : ByteArray, Y = ⟨(rs.take (12 + 0)).toArray⟩ := ⟨_, rfl⟩
                have HXY : Hid (X = ⟨(Fr.frame rc).toArray⟩ ∧ Y = ⟨(rs.take (12 + 0)).toArray⟩) := ⟨hX, hY⟩
                clear hX hY
                obtain ⟨q, hq⟩ : ∃ q : Bool, (X.toList == Y.toList) = q := ⟨_, rfl⟩
                have HQ : Hid (q = true ↔ Fr.frame rc = rs.take (12 + 0)) := by
                  have h : q = true ↔ Fr.frame rc = rs.take (12 + 0) := by
                    rw [← hq, HXY.out.1, HXY.out.2, ByteArray.toList_eq, ByteArray.toList_eq]
                    simp
                  exact h
                go_wp2
                have hcy0 : (convert 23 9 (.slice (some ⟨g, o + k, none⟩) 12 12)).run Try.prog w3.drew = .ok (.string Y) w3.drew := by rw [HXY.out.2]; exact ((HR3.out.below (Below.refl _ w3).drew).cut (by omega)).conv
                go_region_with (go_at_call 11; refine (refFrame_any v3 rc _ (Bs.own HO3.out.drew) (by rw [HRC.out.2]; omega)).mono ?_; rintro e w4 ⟨v4, rfl, ho, hb0⟩; have hb := below_drew hb0; have hcx : (convert 23 9 v4).run Try.prog w4 = .ok (.string X) w4 := (by rw [HXY.out.1]; exact (Bs.own ho).conv); have hcy : (convert 23 9 (.slice (some ⟨g, o + k, none⟩) 12 12)).run Try.prog w4 = .ok (.string Y) w4 := (by rw [HXY.out.2]; exact ((HR3.out.below hb).cut (by omega)).conv); have HB4 : Hid (Below w.heap.size w w4) := HB3.out.trans (hb.mono HB3.out.size); have HL4 : Hid (Lo w4 w.heap.size u5 ls) := HL3.out.grown hb; have HO4 : Hid (w4.ownsRow w2.heap.size 5 1 v3 rc.length (bc rc)) := HO3.out.kept (grownBy_below (row := none) hb) (by cases v3.ownBlock <;> simp); clear ho hb hb0)
                all_goals
                  clear hcy0 hq
                  rw [HV3.out] at HO4 ⊢
                  have HRO : Hid (w4.ownsRow w.heap.size 5 1 (.slice ao3 rc.length c3) rc.length (bc rc)) := HO4.out.mono HB2.out.size
                  clear HO3 HV3 HO4
                  cases q with
                  | false =>
                    have HE : Hid (Fr.scan xs = (ls, k, 2)) := scan_end HSC2.out (Fr.scan_bad HR0.out (by rw [HO2.out, if_neg (by rw [HR.out.2.1]; exact hfew), ← HRC.out.1, if_pos (fun e => by have := HQ.out.2 e; cases this)]))
                    go_wp2
                    go_ret3
                    rw [HE.out]
                    exact ⟨_, rfl, HL4.out, HB4.out⟩
                  | true =>
                    go_wp2_with (at_builtin; refine append_row rfl _ _ rfl w.heap.size u5 (.slice ao3 rc.length c3) ls rc w4 rfl rfl HL4.out HRO.out HB4.out.size (by have := HLL.out; omega) ?_)
                    intro v5 w5 hlo hb
                    have HL5 : Hid (Lo w5 w.heap.size v5 (ls ++ [rc])) := hlo
                    have HB5 : Hid (Below w.heap.size w w5) := HB4.out.trans hb
                    have HE : Hid (Fr.scan xs = ((ls ++ [rc]) ++ (Fr.scan (xs.drop (k + 12 + 0))).1, (k + 12 + 0) + (Fr.scan (xs.drop (k + 12 + 0))).2.1, (Fr.scan (xs.drop (k + 12 + 0))).2.2)) := by
                      have h := scan_on HSC2.out HR0.out (by rw [HO2.out, if_neg (by rw [HR.out.2.1]; exact hfew), ← HRC.out.1, if_neg (fun e => e (HQ.out.1 (by trivial)))])
                      rw [HR.out.2.2, List.drop_drop, HRC.out.2, ← Nat.add_assoc] at h
                      exact h
                    clear hlo hb
                    go_wp2
                    go_roundw
                    case rel => exact ⟨k + 12 + 0, ls ++ [rc], by omega, by go_num, HE.out, by have := HLL.out; simp; omega, HL5.out, HB5.out⟩
                    case measure => simp [intOf]; omega
              · have HSV : Hid (Bs w2 (.slice (some ⟨g, o + k + 12, none⟩) (12 + N - 12) (c - k - 12)) rc) := by
                  have h := (HR2.out.drop (k := 12) (by omega)).cut (k := 12 + N - 12) (by omega)
                  have e : rc = (rs.drop 12).take (12 + N - 12) := by rw [HRC.out.1, Nat.add_sub_cancel_left]
                  rw [← e] at h
                  exact h
                go_wp2_with (at_builtin; refine append_copy rfl _ _ rfl (.slice (some ⟨g, o + k + 12, none⟩) (12 + N - 12) (c - k - 12)) rc w2 rfl rfl HSV.out (by rw [HRC.out.2]; omega) ?_)
                intro v3 w3 ho hb
                obtain ⟨ao3, c3, rfl⟩ := own_shape ho
                obtain ⟨v3, hv3⟩ : ∃ v3 : Value, v3 = .slice ao3 rc.length c3 := ⟨_, rfl⟩
                rw [← hv3] at ho ⊢
                have HV3 : Hid (v3 = .slice ao3 rc.length c3) := hv3
                clear hv3
                have HO3 : Hid (w3.ownsRow w2.heap.size 5 1 v3 rc.length (bc rc)) := ho
                have HB3 : Hid (Below w.heap.size w w3) := HB2.out.trans (hb.mono HB2.out.size)
                have HR3 : Hid (Bs w3 (.slice (some ⟨g, o + k, none⟩) (n - k) (c - k)) rs) := HR2.out.below hb
                have HL3 : Hid (Lo w3 w.heap.size u5 ls) := HL2.out.grown hb
                clear ho hb
                obtain ⟨X, hX⟩ : ∃ X : ByteArray, X = ⟨(Fr.frame rc).toArray⟩ := ⟨_, rfl⟩
                obtain ⟨Y, hY⟩ : ∃ Y : ByteArray, Y = ⟨(rs.take (12 + N)).toArray⟩ := ⟨_, rfl⟩
                have HXY : Hid (X = ⟨(Fr.frame rc).toArray⟩ ∧ Y = ⟨(rs.take (12 + N)).toArray⟩) := ⟨hX, hY⟩
                clear hX hY
                obtain ⟨q, hq⟩ : ∃ q : Bool, (X.toList == Y.toList) = q := ⟨_, rfl⟩
                have HQ : Hid (q = true ↔ Fr.frame rc = rs.take (12 + N)) := by
                  have h : q = true ↔ Fr.frame rc = rs.take (12 + N) := by
                    rw [← hq, HXY.out.1, HXY.out.2, ByteArray.toList_eq, ByteArray.toList_eq]
                    simp
                  exact h
                go_wp2
                have hck0 : ¬ c - k = 0 := by omega
                have hcap2 : (12 : Int) + (N : Int) ≤ ((c - k : Nat) : Int) := hcap
                have hpos : (0 : Int) ≤ 12 + (N : Int) := by omega
                obtain ⟨Ln, hLn⟩ : ∃ Ln : Nat, ((12 : Int) + (N : Int)).toNat = Ln := ⟨_, rfl⟩
                have HLn : Hid (Ln = 12 + N) := by
                  have h : Ln = 12 + N := by omega
                  exact h
                have hw1 : IntKind.wrap .i64 (N : Int) = (N : Int) := by rw [IntKind.wrap_i64]; omega
                have hw2 : IntKind.wrap .i64 (12 + (N : Int)) = 12 + (N : Int) := by rw [IntKind.wrap_i64]; omega
                have hcy0 : (convert 23 9 (.slice (some ⟨g, o + k, none⟩) Ln (c - k))).run Try.prog w3.drew = .ok (.string Y) w3.drew := by rw [HXY.out.2, HLn.out]; exact ((HR3.out.below (Below.refl _ w3).drew).cut (by omega)).conv
                go_region_with (go_at_call 11; refine (refFrame_any v3 rc _ (Bs.own HO3.out.drew) (by rw [HRC.out.2]; omega)).mono ?_; rintro e w4 ⟨v4, rfl, ho, hb0⟩; have hb := below_drew hb0; have hcx : (convert 23 9 v4).run Try.prog w4 = .ok (.string X) w4 := (by rw [HXY.out.1]; exact (Bs.own ho).conv); have hcy : (convert 23 9 (.slice (some ⟨g, o + k, none⟩) Ln (c - k))).run Try.prog w4 = .ok (.string Y) w4 := (by rw [HXY.out.2, HLn.out]; exact ((HR3.out.below hb).cut (by omega)).conv); have HB4 : Hid (Below w.heap.size w w4) := HB3.out.trans (hb.mono HB3.out.size); have HL4 : Hid (Lo w4 w.heap.size u5 ls) := HL3.out.grown hb; have HO4 : Hid (w4.ownsRow w2.heap.size 5 1 v3 rc.length (bc rc)) := HO3.out.kept (grownBy_below (row := none) hb) (by cases v3.ownBlock <;> simp); clear ho hb hb0)
                all_goals
                  clear hcy0 hck0 hcap2 hpos hw1 hw2 hLn hq
                  rw [HV3.out] at HO4 ⊢
                  have HRO : Hid (w4.ownsRow w.heap.size 5 1 (.slice ao3 rc.length c3) rc.length (bc rc)) := HO4.out.mono HB2.out.size
                  clear HO3 HV3 HO4
                  cases q with
                  | false =>
                    have HE : Hid (Fr.scan xs = (ls, k, 2)) := scan_end HSC2.out (Fr.scan_bad HR0.out (by rw [HO2.out, if_neg (by rw [HR.out.2.1]; exact hfew), ← HRC.out.1, if_pos (fun e => by have := HQ.out.2 e; cases this)]))
                    go_wp2
                    go_ret3
                    rw [HE.out]
                    exact ⟨_, rfl, HL4.out, HB4.out⟩
                  | true =>
                    go_wp2_with (at_builtin; refine append_row rfl _ _ rfl w.heap.size u5 (.slice ao3 rc.length c3) ls rc w4 rfl rfl HL4.out HRO.out HB4.out.size (by have := HLL.out; omega) ?_)
                    intro v5 w5 hlo hb
                    have HL5 : Hid (Lo w5 w.heap.size v5 (ls ++ [rc])) := hlo
                    have HB5 : Hid (Below w.heap.size w w5) := HB4.out.trans hb
                    have HE : Hid (Fr.scan xs = ((ls ++ [rc]) ++ (Fr.scan (xs.drop (k + 12 + N))).1, (k + 12 + N) + (Fr.scan (xs.drop (k + 12 + N))).2.1, (Fr.scan (xs.drop (k + 12 + N))).2.2)) := by
                      have h := scan_on HSC2.out HR0.out (by rw [HO2.out, if_neg (by rw [HR.out.2.1]; exact hfew), ← HRC.out.1, if_neg (fun e => e (HQ.out.1 (by trivial)))])
                      rw [HR.out.2.2, List.drop_drop, HRC.out.2, ← Nat.add_assoc] at h
                      exact h
                    clear hlo hb
                    go_wp2
                    go_roundw
                    case rel => exact ⟨k + 12 + N, ls ++ [rc], by omega, by go_num, HE.out, by have := HLL.out; simp; omega, HL5.out, HB5.out⟩
                    case measure => simp [intOf]; omega
        · have hne : ¬ (M : Int) = bits .xor .u32 (IntKind.max .u32) (N : Int) := by rw [HTU.out]; omega
          have HE : Hid (Fr.scan xs = (ls, k, 2)) := scan_end HSC2.out (Fr.scan_bad HR0.out (by rw [HO.out, if_pos (Or.inl hMT)]))
          clear hMT
          go_wp2
          go_ret3
          rw [HE.out]
          exact ⟨_, rfl, HL2.out, HB2.out⟩
    · have hlt' : ¬ (k : Int) < (n : Int) := by omega
      have HE : Hid (Fr.scan xs = (ls, k, 0)) := scan_end HSC.out (by
        have : xs.drop k = [] := List.drop_eq_nil_iff.2 (by rw [← HN.out.1]; omega)
        rw [this]
        exact Fr.scan_nil)
      go_wp2
      go_ret3
      rw [HE.out]
      exact ⟨_, rfl, HL.out, HB.out⟩
end Go.Proofs.Ytnpdfendcffapaa
