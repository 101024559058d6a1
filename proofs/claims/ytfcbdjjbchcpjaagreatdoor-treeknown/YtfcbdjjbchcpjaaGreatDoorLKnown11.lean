/- TreeKnown: its walk. -/
import Derived.Test.YtfcbdjjbchcpjaaGreatDoorHbx
import Derived.Test.YtfcbdjjbchcpjaaGreatDoorPlainC11
import Derived.Test.YtfcbdjjbchcpjaaGreatDoorSameS11
import Derived.Test.YtfcbdjjbchcpjaaGreatDoorBas
namespace Go.Proofs.YtfcbdjjbchcpjaaGreatDoor
open Go.RowKit

theorem two_made (w : World) (a b : ByteArray) (k : Nat) (hk : w.heap.size = k) : Ss (w.alloc (.cells #[.string a, .string b] 9)) (.slice (some ⟨k, 0, none⟩) 2 2) [a, b] := by
  subst hk
  refine ⟨_, _, _, rfl, rfl, fun j s hs => ⟨_, _, rfl, ?_⟩⟩
  refine cell?_alloc_at _ _ _ _ _ _ ?_
  match j, hs with
  | 0, hs => cases hs; rfl
  | 1, hs => cases hs; rfl
theorem one_made (w : World) (a : ByteArray) : Ss (w.alloc (.cells #[.string a] 9)) (.slice (some ⟨w.heap.size, 0, none⟩) 1 1) [a] := by
  refine ⟨_, _, _, rfl, rfl, fun j s hs => ⟨_, _, rfl, ?_⟩⟩
  refine cell?_alloc_at _ _ _ _ _ _ ?_
  match j, hs with
  | 0, hs => cases hs; rfl
theorem three_made (w : World) (a b c : ByteArray) : Ss (w.alloc (.cells #[.string a, .string b, .string c] 9)) (.slice (some ⟨w.heap.size, 0, none⟩) 3 3) [a, b, c] := by
  refine ⟨_, _, _, rfl, rfl, fun j s hs => ⟨_, _, rfl, ?_⟩⟩
  refine cell?_alloc_at _ _ _ _ _ _ ?_
  match j, hs with
  | 0, hs => cases hs; rfl
  | 1, hs => cases hs; rfl
  | 2, hs => cases hs; rfl
theorem fit11 {o : O} (h1 : -9223372036854775808 ≤ o.kind ∧ o.kind ≤ 9223372036854775807) (h2 : o.path.size ≤ maxLen) (h3 : o.data.size ≤ maxLen) (h4 : -9223372036854775808 ≤ o.ver ∧ o.ver ≤ 9223372036854775807) (h5 : -9223372036854775808 ≤ o.flags ∧ o.flags ≤ 9223372036854775807) : OFit o := ⟨h1, h2, h3, h4, h5⟩
set_option maxRecDepth 20000 in
set_option maxHeartbeats 8000000 in
theorem known_any11 {LT : Rep11} (S : Specs11 LT) (W : World) (hS : Pa.Std W) :
    Calls Tryz.prog 3 #[] W fun e w' => e = .returned (.bool true) ∧ Below W.heap.size W w' := by
  have HS : Hid (Specs11 LT ∧ Pa.Std W) := ⟨S, hS⟩
  clear S hS
  go_enter Tryz.func3, Tryz.ntmps3
  go_wp2_with fail
  refine (awake_any11 HS.out.1 W HS.out.2).mono ?_
  rintro e w0 ⟨rfl, hb⟩
  have B0 : Hid (Below W.heap.size W w0) := hb
  clear hb
  go_wp2_with fail
  refine (HS.out.1.new 0 w0).mono ?_
  rintro e w1 ⟨hb, he⟩
  rw [if_pos (by decide)] at he
  subst he
  have B1 : Hid (Below W.heap.size W w1) := B0.out.trans (hb.mono B0.out.size)
  clear hb B0
  go_wp2_with fail
  refine (HS.out.1.new 501 w1).mono ?_
  rintro e w2 ⟨hb, he⟩
  rw [if_pos (by decide)] at he
  subst he
  have B2 : Hid (Below W.heap.size W w2) := B1.out.trans (hb.mono B1.out.size)
  clear hb B1
  go_wp2_with fail
  refine (Mine11.made HS.out.1 3 (by decide) B2.out).mono ?_
  rintro e w3 ⟨q, F0, rfl, hM, hb⟩
  obtain ⟨t0, ht0⟩ : ∃ t : Tq.Tr, t = ⟨3, []⟩ := ⟨_, rfl⟩
  have HT0 : Hid (t0 = ⟨3, []⟩) := ht0
  have M0 : Hid (Mine11 LT W w3 q t0 F0 ∧ Ers11 w3 F0 []) := ⟨by rw [ht0]; exact hM, Ers11.nil _ _⟩
  clear hM hb B2 ht0
  go_wp2_with fail
  refine (made_any11 Tq.pAB 0 w3).mono ?_
  rintro e w4 ⟨rfl, hb⟩
  have M0' : Hid (Mine11 LT W w4 q t0 F0 ∧ Ers11 w4 F0 []) := ⟨M0.out.1.later HS.out.1 hb, M0.out.2.later hb⟩
  clear hb M0
  unfold ov Tq.mk
  simp only []
  go_wp2_with fail
  have M0 := M0'
  clear M0'
  obtain ⟨x1, hx1⟩ : ∃ x, x = Tq.kn1.1 := ⟨_, rfl⟩
  obtain ⟨t1, ht⟩ : ∃ x, x = Tq.kn1.2 := ⟨_, rfl⟩
  have HT1 : Hid (t1 = Tq.kn1.2) := ht
  refine (M0.out.1.doo HS.out.1 HS.out.2 (Tq.mk Tq.pAB 0) 1 1 (fit11 (by decide) (by unfold maxLen; decide) (by unfold maxLen; decide) (by decide) (by decide)) x1 t1 (by rw [hx1, ht, HT0.out]; rfl) (by rw [ht]; exact Tq.kn_f1.1)).mono ?_
  clear ht
  rintro e w5 ⟨F5, v1, rfl, hsq, hof, hM, hmv⟩
  have M1 : Hid (Mine11 LT W w5 q t1 F5 ∧ Ers11 w5 F5 []) := ⟨hM, M0.out.2.moved hmv⟩
  clear hof hM hmv M0
  obtain ⟨a1, n1, c1, rfl, hj1, hj2⟩ := hsq
  clear hj1 hj2
  obtain ⟨q1, hq1⟩ : ∃ z, z = w5.heap.size := ⟨_, rfl⟩
  have M0 : Hid (Mine11 LT W (w5.alloc (.cells #[.int .i64 x1.err, .string x1.path, .string x1.data, .slice a1 n1 c1, .int .i64 x1.made, .int .i64 x1.changed, .int .i64 x1.ver, .int .i64 x1.kids, .int .i64 x1.owner, .int .i64 x1.len, .int .i64 x1.cnt] 31)) q t1 F5 ∧ Ers11 (w5.alloc (.cells #[.int .i64 x1.err, .string x1.path, .string x1.data, .slice a1 n1 c1, .int .i64 x1.made, .int .i64 x1.changed, .int .i64 x1.ver, .int .i64 x1.kids, .int .i64 x1.owner, .int .i64 x1.len, .int .i64 x1.cnt] 31)) F5 ((q1, 4) :: [])) := by
    have h := M1.out.2.made HS.out.1 M1.out.1 #[.int .i64 x1.err, .string x1.path, .string x1.data, .slice a1 n1 c1, .int .i64 x1.made, .int .i64 x1.changed, .int .i64 x1.ver, .int .i64 x1.kids, .int .i64 x1.owner, .int .i64 x1.len, .int .i64 x1.cnt] 31 4 (by rw [← Tq.kn_errs.1, ← hx1]; rfl)
    rw [← hq1] at h
    exact h
  clear M1 hx1
  unfold rv
  go_wp2_with fail
  rw [← hq1]
  clear hq1
  generalize w5.alloc (.cells #[.int .i64 x1.err, .string x1.path, .string x1.data, .slice a1 n1 c1, .int .i64 x1.made, .int .i64 x1.changed, .int .i64 x1.ver, .int .i64 x1.kids, .int .i64 x1.owner, .int .i64 x1.len, .int .i64 x1.cnt] 31) = w6 at *
  refine (made_any11 Tq.pA 0 w6).mono ?_
  rintro e w7 ⟨rfl, hb⟩
  have M0' : Hid (Mine11 LT W w7 q t1 F5 ∧ Ers11 w7 F5 ((q1, 4) :: [])) := ⟨M0.out.1.later HS.out.1 hb, M0.out.2.later hb⟩
  clear hb M0
  unfold ov Tq.mk
  simp only []
  go_wp2_with fail
  have M0 := M0'
  clear M0'
  obtain ⟨x2, hx2⟩ : ∃ x, x = Tq.kn2.1 := ⟨_, rfl⟩
  obtain ⟨t2, ht⟩ : ∃ x, x = Tq.kn2.2 := ⟨_, rfl⟩
  have HT2 : Hid (t2 = Tq.kn2.2) := ht
  refine (M0.out.1.doo HS.out.1 HS.out.2 (Tq.mk Tq.pA 0) 1 1 (fit11 (by decide) (by unfold maxLen; decide) (by unfold maxLen; decide) (by decide) (by decide)) x2 t2 (by rw [hx2, ht, HT1.out]; rfl) (by rw [ht]; exact Tq.kn_f2.1)).mono ?_
  clear ht
  rintro e w8 ⟨F8, v2, rfl, hsq, hof, hM, hmv⟩
  have M1 : Hid (Mine11 LT W w8 q t2 F8 ∧ Ers11 w8 F8 ((q1, 4) :: [])) := ⟨hM, M0.out.2.moved hmv⟩
  clear hof hM hmv M0
  obtain ⟨a2, n2, c2, rfl, hj1, hj2⟩ := hsq
  clear hj1 hj2 hx2
  have M0 := M1
  clear M1
  unfold rv
  go_wp2_with fail
  refine (made_any11 Tq.pA 0 w8).mono ?_
  rintro e w9 ⟨rfl, hb⟩
  have M0' : Hid (Mine11 LT W w9 q t2 F8 ∧ Ers11 w9 F8 ((q1, 4) :: [])) := ⟨M0.out.1.later HS.out.1 hb, M0.out.2.later hb⟩
  clear hb M0
  unfold ov Tq.mk
  simp only []
  go_wp2_with fail
  have M0 := M0'
  clear M0'
  obtain ⟨x3, hx3⟩ : ∃ x, x = Tq.kn3.1 := ⟨_, rfl⟩
  obtain ⟨t3, ht⟩ : ∃ x, x = Tq.kn3.2 := ⟨_, rfl⟩
  have HT3 : Hid (t3 = Tq.kn3.2) := ht
  refine (M0.out.1.doo HS.out.1 HS.out.2 (Tq.mk Tq.pA 0) 1 2 (fit11 (by decide) (by unfold maxLen; decide) (by unfold maxLen; decide) (by decide) (by decide)) x3 t3 (by rw [hx3, ht, HT2.out]; rfl) (by rw [ht]; exact Tq.kn_f3.1)).mono ?_
  clear ht
  rintro e w10 ⟨F10, v3, rfl, hsq, hof, hM, hmv⟩
  have M1 : Hid (Mine11 LT W w10 q t3 F10 ∧ Ers11 w10 F10 ((q1, 4) :: [])) := ⟨hM, M0.out.2.moved hmv⟩
  clear hof hM hmv M0
  obtain ⟨a3, n3, c3, rfl, hj1, hj2⟩ := hsq
  clear hj1 hj2
  obtain ⟨q3, hq3⟩ : ∃ z, z = w10.heap.size := ⟨_, rfl⟩
  have M0 : Hid (Mine11 LT W (w10.alloc (.cells #[.int .i64 x3.err, .string x3.path, .string x3.data, .slice a3 n3 c3, .int .i64 x3.made, .int .i64 x3.changed, .int .i64 x3.ver, .int .i64 x3.kids, .int .i64 x3.owner, .int .i64 x3.len, .int .i64 x3.cnt] 31)) q t3 F10 ∧ Ers11 (w10.alloc (.cells #[.int .i64 x3.err, .string x3.path, .string x3.data, .slice a3 n3 c3, .int .i64 x3.made, .int .i64 x3.changed, .int .i64 x3.ver, .int .i64 x3.kids, .int .i64 x3.owner, .int .i64 x3.len, .int .i64 x3.cnt] 31)) F10 ((q3, 5) :: ((q1, 4) :: []))) := by
    have h := M1.out.2.made HS.out.1 M1.out.1 #[.int .i64 x3.err, .string x3.path, .string x3.data, .slice a3 n3 c3, .int .i64 x3.made, .int .i64 x3.changed, .int .i64 x3.ver, .int .i64 x3.kids, .int .i64 x3.owner, .int .i64 x3.len, .int .i64 x3.cnt] 31 5 (by rw [← Tq.kn_errs.2.1, ← hx3]; rfl)
    rw [← hq3] at h
    exact h
  clear M1 hx3
  unfold rv
  go_wp2_with fail
  rw [← hq3]
  clear hq3
  generalize w10.alloc (.cells #[.int .i64 x3.err, .string x3.path, .string x3.data, .slice a3 n3 c3, .int .i64 x3.made, .int .i64 x3.changed, .int .i64 x3.ver, .int .i64 x3.kids, .int .i64 x3.owner, .int .i64 x3.len, .int .i64 x3.cnt] 31) = w11 at *
  refine (made_any11 Tq.pE 1 w11).mono ?_
  rintro e w12 ⟨rfl, hb⟩
  have M0' : Hid (Mine11 LT W w12 q t3 F10 ∧ Ers11 w12 F10 ((q3, 5) :: ((q1, 4) :: []))) := ⟨M0.out.1.later HS.out.1 hb, M0.out.2.later hb⟩
  clear hb M0
  unfold ov Tq.mk
  simp only []
  go_wp2_with fail
  have M0 := M0'
  clear M0'
  obtain ⟨x4, hx4⟩ : ∃ x, x = Tq.kn4.1 := ⟨_, rfl⟩
  obtain ⟨t4, ht⟩ : ∃ x, x = Tq.kn4.2 := ⟨_, rfl⟩
  have HT4 : Hid (t4 = Tq.kn4.2) := ht
  refine (M0.out.1.doo HS.out.1 HS.out.2 (Tq.mk Tq.pE 1) 5 3 (fit11 (by decide) (by unfold maxLen; decide) (by unfold maxLen; decide) (by decide) (by decide)) x4 t4 (by rw [hx4, ht, HT3.out]; rfl) (by rw [ht]; exact Tq.kn_f4.1)).mono ?_
  clear ht
  rintro e w13 ⟨F13, v4, rfl, hsq, hof, hM, hmv⟩
  have M1 : Hid (Mine11 LT W w13 q t4 F13 ∧ Ers11 w13 F13 ((q3, 5) :: ((q1, 4) :: []))) := ⟨hM, M0.out.2.moved hmv⟩
  clear hof hM hmv M0
  obtain ⟨a4, n4, c4, rfl, hj1, hj2⟩ := hsq
  clear hj1 hj2 hx4
  have M0 := M1
  clear M1
  unfold rv
  go_wp2_with fail
  refine (made_any11 Tq.pEX 0 w13).mono ?_
  rintro e w14 ⟨rfl, hb⟩
  have M0' : Hid (Mine11 LT W w14 q t4 F13 ∧ Ers11 w14 F13 ((q3, 5) :: ((q1, 4) :: []))) := ⟨M0.out.1.later HS.out.1 hb, M0.out.2.later hb⟩
  clear hb M0
  unfold ov Tq.mk
  simp only []
  go_wp2_with fail
  have M0 := M0'
  clear M0'
  obtain ⟨x5, hx5⟩ : ∃ x, x = Tq.kn5.1 := ⟨_, rfl⟩
  obtain ⟨t5, ht⟩ : ∃ x, x = Tq.kn5.2 := ⟨_, rfl⟩
  have HT5 : Hid (t5 = Tq.kn5.2) := ht
  refine (M0.out.1.doo HS.out.1 HS.out.2 (Tq.mk Tq.pEX 0) 1 4 (fit11 (by decide) (by unfold maxLen; decide) (by unfold maxLen; decide) (by decide) (by decide)) x5 t5 (by rw [hx5, ht, HT4.out]; rfl) (by rw [ht]; exact Tq.kn_f5.1)).mono ?_
  clear ht
  rintro e w15 ⟨F15, v5, rfl, hsq, hof, hM, hmv⟩
  have M1 : Hid (Mine11 LT W w15 q t5 F15 ∧ Ers11 w15 F15 ((q3, 5) :: ((q1, 4) :: []))) := ⟨hM, M0.out.2.moved hmv⟩
  clear hof hM hmv M0
  obtain ⟨a5, n5, c5, rfl, hj1, hj2⟩ := hsq
  clear hj1 hj2
  obtain ⟨q5, hq5⟩ : ∃ z, z = w15.heap.size := ⟨_, rfl⟩
  have M0 : Hid (Mine11 LT W (w15.alloc (.cells #[.int .i64 x5.err, .string x5.path, .string x5.data, .slice a5 n5 c5, .int .i64 x5.made, .int .i64 x5.changed, .int .i64 x5.ver, .int .i64 x5.kids, .int .i64 x5.owner, .int .i64 x5.len, .int .i64 x5.cnt] 31)) q t5 F15 ∧ Ers11 (w15.alloc (.cells #[.int .i64 x5.err, .string x5.path, .string x5.data, .slice a5 n5 c5, .int .i64 x5.made, .int .i64 x5.changed, .int .i64 x5.ver, .int .i64 x5.kids, .int .i64 x5.owner, .int .i64 x5.len, .int .i64 x5.cnt] 31)) F15 ((q5, 8) :: ((q3, 5) :: ((q1, 4) :: [])))) := by
    have h := M1.out.2.made HS.out.1 M1.out.1 #[.int .i64 x5.err, .string x5.path, .string x5.data, .slice a5 n5 c5, .int .i64 x5.made, .int .i64 x5.changed, .int .i64 x5.ver, .int .i64 x5.kids, .int .i64 x5.owner, .int .i64 x5.len, .int .i64 x5.cnt] 31 8 (by rw [← Tq.kn_errs.2.2.1, ← hx5]; rfl)
    rw [← hq5] at h
    exact h
  clear M1 hx5
  unfold rv
  go_wp2_with fail
  rw [← hq5]
  clear hq5
  generalize w15.alloc (.cells #[.int .i64 x5.err, .string x5.path, .string x5.data, .slice a5 n5 c5, .int .i64 x5.made, .int .i64 x5.changed, .int .i64 x5.ver, .int .i64 x5.kids, .int .i64 x5.owner, .int .i64 x5.len, .int .i64 x5.cnt] 31) = w16 at *
  refine (made_any11 Tq.pAB 0 w16).mono ?_
  rintro e w17 ⟨rfl, hb⟩
  have M0' : Hid (Mine11 LT W w17 q t5 F15 ∧ Ers11 w17 F15 ((q5, 8) :: ((q3, 5) :: ((q1, 4) :: [])))) := ⟨M0.out.1.later HS.out.1 hb, M0.out.2.later hb⟩
  clear hb M0
  unfold ov Tq.mk
  simp only []
  go_wp2_with fail
  have M0 := M0'
  clear M0'
  obtain ⟨x6, hx6⟩ : ∃ x, x = Tq.kn6.1 := ⟨_, rfl⟩
  obtain ⟨t6, ht⟩ : ∃ x, x = Tq.kn6.2 := ⟨_, rfl⟩
  have HT6 : Hid (t6 = Tq.kn6.2) := ht
  refine (M0.out.1.doo HS.out.1 HS.out.2 (Tq.mk Tq.pAB 0) 1 5 (fit11 (by decide) (by unfold maxLen; decide) (by unfold maxLen; decide) (by decide) (by decide)) x6 t6 (by rw [hx6, ht, HT5.out]; rfl) (by rw [ht]; exact Tq.kn_f6.1)).mono ?_
  clear ht
  rintro e w18 ⟨F18, v6, rfl, hsq, hof, hM, hmv⟩
  have M1 : Hid (Mine11 LT W w18 q t6 F18 ∧ Ers11 w18 F18 ((q5, 8) :: ((q3, 5) :: ((q1, 4) :: [])))) := ⟨hM, M0.out.2.moved hmv⟩
  clear hof hM hmv M0
  obtain ⟨a6, n6, c6, rfl, hj1, hj2⟩ := hsq
  clear hj1 hj2 hx6
  have M0 := M1
  clear M1
  unfold rv
  go_wp2_with fail
  refine (made_any11 Tq.pC 0 w18).mono ?_
  rintro e w19 ⟨rfl, hb⟩
  have M0' : Hid (Mine11 LT W w19 q t6 F18 ∧ Ers11 w19 F18 ((q5, 8) :: ((q3, 5) :: ((q1, 4) :: [])))) := ⟨M0.out.1.later HS.out.1 hb, M0.out.2.later hb⟩
  clear hb M0
  unfold ov Tq.mk
  simp only []
  go_wp2_with fail
  have M0 := M0'
  clear M0'
  obtain ⟨x7, hx7⟩ : ∃ x, x = Tq.kn7.1 := ⟨_, rfl⟩
  obtain ⟨t7, ht⟩ : ∃ x, x = Tq.kn7.2 := ⟨_, rfl⟩
  have HT7 : Hid (t7 = Tq.kn7.2) := ht
  refine (M0.out.1.doo HS.out.1 HS.out.2 (Tq.mk Tq.pC 0) 1 6 (fit11 (by decide) (by unfold maxLen; decide) (by unfold maxLen; decide) (by decide) (by decide)) x7 t7 (by rw [hx7, ht, HT6.out]; rfl) (by rw [ht]; exact Tq.kn_f7.1)).mono ?_
  clear ht
  rintro e w20 ⟨F20, v7, rfl, hsq, hof, hM, hmv⟩
  have M1 : Hid (Mine11 LT W w20 q t7 F20 ∧ Ers11 w20 F20 ((q5, 8) :: ((q3, 5) :: ((q1, 4) :: [])))) := ⟨hM, M0.out.2.moved hmv⟩
  clear hof hM hmv M0
  obtain ⟨a7, n7, c7, rfl, hj1, hj2⟩ := hsq
  clear hj1 hj2
  obtain ⟨q7, hq7⟩ : ∃ z, z = w20.heap.size := ⟨_, rfl⟩
  have M0 : Hid (Mine11 LT W (w20.alloc (.cells #[.int .i64 x7.err, .string x7.path, .string x7.data, .slice a7 n7 c7, .int .i64 x7.made, .int .i64 x7.changed, .int .i64 x7.ver, .int .i64 x7.kids, .int .i64 x7.owner, .int .i64 x7.len, .int .i64 x7.cnt] 31)) q t7 F20 ∧ Ers11 (w20.alloc (.cells #[.int .i64 x7.err, .string x7.path, .string x7.data, .slice a7 n7 c7, .int .i64 x7.made, .int .i64 x7.changed, .int .i64 x7.ver, .int .i64 x7.kids, .int .i64 x7.owner, .int .i64 x7.len, .int .i64 x7.cnt] 31)) F20 ((q7, 9) :: ((q5, 8) :: ((q3, 5) :: ((q1, 4) :: []))))) := by
    have h := M1.out.2.made HS.out.1 M1.out.1 #[.int .i64 x7.err, .string x7.path, .string x7.data, .slice a7 n7 c7, .int .i64 x7.made, .int .i64 x7.changed, .int .i64 x7.ver, .int .i64 x7.kids, .int .i64 x7.owner, .int .i64 x7.len, .int .i64 x7.cnt] 31 9 (by rw [← Tq.kn_errs.2.2.2.1, ← hx7]; rfl)
    rw [← hq7] at h
    exact h
  clear M1 hx7
  unfold rv
  go_wp2_with fail
  rw [← hq7]
  clear hq7
  generalize w20.alloc (.cells #[.int .i64 x7.err, .string x7.path, .string x7.data, .slice a7 n7 c7, .int .i64 x7.made, .int .i64 x7.changed, .int .i64 x7.ver, .int .i64 x7.kids, .int .i64 x7.owner, .int .i64 x7.len, .int .i64 x7.cnt] 31) = w21 at *
  obtain ⟨x8, hx8⟩ : ∃ x, x = Tq.kn8.1 := ⟨_, rfl⟩
  obtain ⟨t8, ht⟩ : ∃ x, x = Tq.kn8.2 := ⟨_, rfl⟩
  have HT8 : Hid (t8 = Tq.kn8.2) := ht
  refine (M0.out.1.doo HS.out.1 HS.out.2 (Tq.dl Tq.pA (-1)) 1 7 (fit11 (by decide) (by unfold maxLen; decide) (by unfold maxLen; decide) (by decide) (by decide)) x8 t8 (by rw [hx8, ht, HT7.out]; rfl) (by rw [ht]; exact Tq.kn_f8.1)).mono ?_
  clear ht
  rintro e w22 ⟨F22, v8, rfl, hsq, hof, hM, hmv⟩
  have M1 : Hid (Mine11 LT W w22 q t8 F22 ∧ Ers11 w22 F22 ((q7, 9) :: ((q5, 8) :: ((q3, 5) :: ((q1, 4) :: []))))) := ⟨hM, M0.out.2.moved hmv⟩
  clear hof hM hmv M0
  obtain ⟨a8, n8, c8, rfl, hj1, hj2⟩ := hsq
  clear hj1 hj2
  obtain ⟨q8, hq8⟩ : ∃ z, z = w22.heap.size := ⟨_, rfl⟩
  have M0 : Hid (Mine11 LT W (w22.alloc (.cells #[.int .i64 x8.err, .string x8.path, .string x8.data, .slice a8 n8 c8, .int .i64 x8.made, .int .i64 x8.changed, .int .i64 x8.ver, .int .i64 x8.kids, .int .i64 x8.owner, .int .i64 x8.len, .int .i64 x8.cnt] 31)) q t8 F22 ∧ Ers11 (w22.alloc (.cells #[.int .i64 x8.err, .string x8.path, .string x8.data, .slice a8 n8 c8, .int .i64 x8.made, .int .i64 x8.changed, .int .i64 x8.ver, .int .i64 x8.kids, .int .i64 x8.owner, .int .i64 x8.len, .int .i64 x8.cnt] 31)) F22 ((q8, 7) :: ((q7, 9) :: ((q5, 8) :: ((q3, 5) :: ((q1, 4) :: [])))))) := by
    have h := M1.out.2.made HS.out.1 M1.out.1 #[.int .i64 x8.err, .string x8.path, .string x8.data, .slice a8 n8 c8, .int .i64 x8.made, .int .i64 x8.changed, .int .i64 x8.ver, .int .i64 x8.kids, .int .i64 x8.owner, .int .i64 x8.len, .int .i64 x8.cnt] 31 7 (by rw [← Tq.kn_errs.2.2.2.2.1, ← hx8]; rfl)
    rw [← hq8] at h
    exact h
  clear M1 hx8
  unfold rv
  go_wp2_with fail
  rw [← hq8]
  clear hq8
  generalize w22.alloc (.cells #[.int .i64 x8.err, .string x8.path, .string x8.data, .slice a8 n8 c8, .int .i64 x8.made, .int .i64 x8.changed, .int .i64 x8.ver, .int .i64 x8.kids, .int .i64 x8.owner, .int .i64 x8.len, .int .i64 x8.cnt] 31) = w23 at *
  obtain ⟨x9, hx9⟩ : ∃ x, x = Tq.kn9.1 := ⟨_, rfl⟩
  obtain ⟨t9, ht⟩ : ∃ x, x = Tq.kn9.2 := ⟨_, rfl⟩
  have HT9 : Hid (t9 = Tq.kn9.2) := ht
  refine (M0.out.1.doo HS.out.1 HS.out.2 (Tq.st Tq.pA ⟨#[120]⟩ 3) 1 8 (fit11 (by decide) (by unfold maxLen; decide) (by unfold maxLen; decide) (by decide) (by decide)) x9 t9 (by rw [hx9, ht, HT8.out]; rfl) (by rw [ht]; exact Tq.kn_f9.1)).mono ?_
  clear ht
  rintro e w24 ⟨F24, v9, rfl, hsq, hof, hM, hmv⟩
  have M1 : Hid (Mine11 LT W w24 q t9 F24 ∧ Ers11 w24 F24 ((q8, 7) :: ((q7, 9) :: ((q5, 8) :: ((q3, 5) :: ((q1, 4) :: [])))))) := ⟨hM, M0.out.2.moved hmv⟩
  clear hof hM hmv M0
  obtain ⟨a9, n9, c9, rfl, hj1, hj2⟩ := hsq
  clear hj1 hj2
  obtain ⟨q9, hq9⟩ : ∃ z, z = w24.heap.size := ⟨_, rfl⟩
  have M0 : Hid (Mine11 LT W (w24.alloc (.cells #[.int .i64 x9.err, .string x9.path, .string x9.data, .slice a9 n9 c9, .int .i64 x9.made, .int .i64 x9.changed, .int .i64 x9.ver, .int .i64 x9.kids, .int .i64 x9.owner, .int .i64 x9.len, .int .i64 x9.cnt] 31)) q t9 F24 ∧ Ers11 (w24.alloc (.cells #[.int .i64 x9.err, .string x9.path, .string x9.data, .slice a9 n9 c9, .int .i64 x9.made, .int .i64 x9.changed, .int .i64 x9.ver, .int .i64 x9.kids, .int .i64 x9.owner, .int .i64 x9.len, .int .i64 x9.cnt] 31)) F24 ((q9, 6) :: ((q8, 7) :: ((q7, 9) :: ((q5, 8) :: ((q3, 5) :: ((q1, 4) :: []))))))) := by
    have h := M1.out.2.made HS.out.1 M1.out.1 #[.int .i64 x9.err, .string x9.path, .string x9.data, .slice a9 n9 c9, .int .i64 x9.made, .int .i64 x9.changed, .int .i64 x9.ver, .int .i64 x9.kids, .int .i64 x9.owner, .int .i64 x9.len, .int .i64 x9.cnt] 31 6 (by rw [← Tq.kn_errs.2.2.2.2.2.1, ← hx9]; rfl)
    rw [← hq9] at h
    exact h
  clear M1 hx9
  unfold rv
  go_wp2_with fail
  rw [← hq9]
  clear hq9
  generalize w24.alloc (.cells #[.int .i64 x9.err, .string x9.path, .string x9.data, .slice a9 n9 c9, .int .i64 x9.made, .int .i64 x9.changed, .int .i64 x9.ver, .int .i64 x9.kids, .int .i64 x9.owner, .int .i64 x9.len, .int .i64 x9.cnt] 31) = w25 at *
  obtain ⟨x10, hx10⟩ : ∃ x, x = Tq.kn10.1 := ⟨_, rfl⟩
  obtain ⟨t10, ht⟩ : ∃ x, x = Tq.kn10.2 := ⟨_, rfl⟩
  have HT10 : Hid (t10 = Tq.kn10.2) := ht
  refine (M0.out.1.doo HS.out.1 HS.out.2 (Tq.gt Tq.pA) 0 9 (fit11 (by decide) (by unfold maxLen; decide) (by unfold maxLen; decide) (by decide) (by decide)) x10 t10 (by rw [hx10, ht, HT9.out]; rfl) (by rw [ht]; exact Tq.kn_f10.1)).mono ?_
  clear ht
  rintro e w26 ⟨F26, v10, rfl, hsq, hof, hM, hmv⟩
  have M1 : Hid (Mine11 LT W w26 q t10 F26 ∧ Ers11 w26 F26 ((q9, 6) :: ((q8, 7) :: ((q7, 9) :: ((q5, 8) :: ((q3, 5) :: ((q1, 4) :: []))))))) := ⟨hM, M0.out.2.moved hmv⟩
  clear hof hM hmv M0
  obtain ⟨a10, n10, c10, rfl, hj1, hj2⟩ := hsq
  clear hj1 hj2
  obtain ⟨q10, hq10⟩ : ∃ z, z = w26.heap.size := ⟨_, rfl⟩
  have M0 : Hid (Mine11 LT W (w26.alloc (.cells #[.int .i64 x10.err, .string x10.path, .string x10.data, .slice a10 n10 c10, .int .i64 x10.made, .int .i64 x10.changed, .int .i64 x10.ver, .int .i64 x10.kids, .int .i64 x10.owner, .int .i64 x10.len, .int .i64 x10.cnt] 31)) q t10 F26 ∧ Ers11 (w26.alloc (.cells #[.int .i64 x10.err, .string x10.path, .string x10.data, .slice a10 n10 c10, .int .i64 x10.made, .int .i64 x10.changed, .int .i64 x10.ver, .int .i64 x10.kids, .int .i64 x10.owner, .int .i64 x10.len, .int .i64 x10.cnt] 31)) F26 ((q10, 1) :: ((q9, 6) :: ((q8, 7) :: ((q7, 9) :: ((q5, 8) :: ((q3, 5) :: ((q1, 4) :: [])))))))) := by
    have h := M1.out.2.made HS.out.1 M1.out.1 #[.int .i64 x10.err, .string x10.path, .string x10.data, .slice a10 n10 c10, .int .i64 x10.made, .int .i64 x10.changed, .int .i64 x10.ver, .int .i64 x10.kids, .int .i64 x10.owner, .int .i64 x10.len, .int .i64 x10.cnt] 31 1 (by rw [← Tq.kn_errs.2.2.2.2.2.2.1, ← hx10]; rfl)
    rw [← hq10] at h
    exact h
  clear M1 hx10
  unfold rv
  go_wp2_with fail
  rw [← hq10]
  clear hq10
  generalize w26.alloc (.cells #[.int .i64 x10.err, .string x10.path, .string x10.data, .slice a10 n10 c10, .int .i64 x10.made, .int .i64 x10.changed, .int .i64 x10.ver, .int .i64 x10.kids, .int .i64 x10.owner, .int .i64 x10.len, .int .i64 x10.cnt] 31) = w27 at *
  obtain ⟨x11, hx11⟩ : ∃ x, x = Tq.kn11.1 := ⟨_, rfl⟩
  have he11 : (Tq.doo t10 (Tq.dl Tq.pAB 0) 1 9).1 = x11 := by rw [hx11, HT10.out]; rfl
  have hnow := HS.out.1.tri q t10 F26 (Tq.dl Tq.pAB 0) 1 9 w27 M0.out.1.ld M0.out.1.fine (M0.out.1.six HS.out.2) (HS.out.2.below M0.out.1.below) (fit11 (by decide) (by unfold maxLen; decide) (by unfold maxLen; decide) (by decide) (by decide))
  rw [he11] at hnow
  refine hnow.mono ?_
  clear he11 hnow
  rintro e w28 ⟨F28, v11, rfl, hsq, hof, hL, hmv⟩
  have M1 : Hid (Mine11 LT W w28 q t10 F28 ∧ Ers11 w28 F28 ((q10, 1) :: ((q9, 6) :: ((q8, 7) :: ((q7, 9) :: ((q5, 8) :: ((q3, 5) :: ((q1, 4) :: [])))))))) := ⟨M0.out.1.step hL M0.out.1.fine hmv, M0.out.2.moved hmv⟩
  clear hof hL hmv M0
  obtain ⟨a11, n11, c11, rfl, hj1, hj2⟩ := hsq
  clear hj1 hj2
  obtain ⟨q11, hq11⟩ : ∃ z, z = w28.heap.size := ⟨_, rfl⟩
  have M0 : Hid (Mine11 LT W (w28.alloc (.cells #[.int .i64 x11.err, .string x11.path, .string x11.data, .slice a11 n11 c11, .int .i64 x11.made, .int .i64 x11.changed, .int .i64 x11.ver, .int .i64 x11.kids, .int .i64 x11.owner, .int .i64 x11.len, .int .i64 x11.cnt] 31)) q t10 F28 ∧ Ers11 (w28.alloc (.cells #[.int .i64 x11.err, .string x11.path, .string x11.data, .slice a11 n11 c11, .int .i64 x11.made, .int .i64 x11.changed, .int .i64 x11.ver, .int .i64 x11.kids, .int .i64 x11.owner, .int .i64 x11.len, .int .i64 x11.cnt] 31)) F28 ((q11, 0) :: ((q10, 1) :: ((q9, 6) :: ((q8, 7) :: ((q7, 9) :: ((q5, 8) :: ((q3, 5) :: ((q1, 4) :: []))))))))) := by
    have h := M1.out.2.made HS.out.1 M1.out.1 #[.int .i64 x11.err, .string x11.path, .string x11.data, .slice a11 n11 c11, .int .i64 x11.made, .int .i64 x11.changed, .int .i64 x11.ver, .int .i64 x11.kids, .int .i64 x11.owner, .int .i64 x11.len, .int .i64 x11.cnt] 31 0 (by rw [← Tq.kn_errs.2.2.2.2.2.2.2.1, ← hx11]; rfl)
    rw [← hq11] at h
    exact h
  clear M1 hx11
  unfold rv
  go_wp2_with fail
  rw [← hq11]
  clear hq11
  generalize w28.alloc (.cells #[.int .i64 x11.err, .string x11.path, .string x11.data, .slice a11 n11 c11, .int .i64 x11.made, .int .i64 x11.changed, .int .i64 x11.ver, .int .i64 x11.kids, .int .i64 x11.owner, .int .i64 x11.len, .int .i64 x11.cnt] 31) = w29 at *
  obtain ⟨x12, hx12⟩ : ∃ x, x = Tq.kn12.1 := ⟨_, rfl⟩
  obtain ⟨t12, ht⟩ : ∃ x, x = Tq.kn12.2 := ⟨_, rfl⟩
  have HT12 : Hid (t12 = Tq.kn12.2) := ht
  refine (M0.out.1.doo HS.out.1 HS.out.2 (Tq.ch Tq.pA) 1 9 (fit11 (by decide) (by unfold maxLen; decide) (by unfold maxLen; decide) (by decide) (by decide)) x12 t12 (by rw [hx12, ht, HT10.out]; rfl) (by rw [ht]; exact Tq.kn_f12.1)).mono ?_
  clear ht
  rintro e w30 ⟨F30, v12, rfl, hsq, hof, hM, hmv⟩
  have M1 : Hid (Mine11 LT W w30 q t12 F30 ∧ Ers11 w30 F30 ((q11, 0) :: ((q10, 1) :: ((q9, 6) :: ((q8, 7) :: ((q7, 9) :: ((q5, 8) :: ((q3, 5) :: ((q1, 4) :: []))))))))) := ⟨hM, M0.out.2.moved hmv⟩
  clear hof hM hmv M0
  obtain ⟨a12, n12, c12, rfl, hj1, hj2⟩ := hsq
  have hn12 : n12 = 1 := by rw [hj1, hx12]; exact Tq.kn_errs.2.2.2.2.2.2.2.2.1
  have HE12 : x12.err = 0 := by rw [hx12]; kernel_rfl
  subst hn12
  clear hj1 hj2
  obtain ⟨q12, hq12⟩ : ∃ z, z = w30.heap.size := ⟨_, rfl⟩
  have M0 : Hid (Mine11 LT W (w30.alloc (.cells #[.int .i64 x12.err, .string x12.path, .string x12.data, .slice a12 1 c12, .int .i64 x12.made, .int .i64 x12.changed, .int .i64 x12.ver, .int .i64 x12.kids, .int .i64 x12.owner, .int .i64 x12.len, .int .i64 x12.cnt] 31)) q t12 F30 ∧ Ers11 (w30.alloc (.cells #[.int .i64 x12.err, .string x12.path, .string x12.data, .slice a12 1 c12, .int .i64 x12.made, .int .i64 x12.changed, .int .i64 x12.ver, .int .i64 x12.kids, .int .i64 x12.owner, .int .i64 x12.len, .int .i64 x12.cnt] 31)) F30 ((q12, 0) :: ((q11, 0) :: ((q10, 1) :: ((q9, 6) :: ((q8, 7) :: ((q7, 9) :: ((q5, 8) :: ((q3, 5) :: ((q1, 4) :: [])))))))))) := by
    have h := M1.out.2.made HS.out.1 M1.out.1 #[.int .i64 x12.err, .string x12.path, .string x12.data, .slice a12 1 c12, .int .i64 x12.made, .int .i64 x12.changed, .int .i64 x12.ver, .int .i64 x12.kids, .int .i64 x12.owner, .int .i64 x12.len, .int .i64 x12.cnt] 31 0 (by rw [← HE12]; rfl)
    rw [← hq12] at h
    exact h
  have HK : Hid (Kept11 (w30.alloc (.cells #[.int .i64 x12.err, .string x12.path, .string x12.data, .slice a12 1 c12, .int .i64 x12.made, .int .i64 x12.changed, .int .i64 x12.ver, .int .i64 x12.kids, .int .i64 x12.owner, .int .i64 x12.len, .int .i64 x12.cnt] 31)) F30 q12 (xc x12 (.slice a12 1 c12)) 31) := by
    have h : Kept11 (w30.alloc (.cells #[.int .i64 x12.err, .string x12.path, .string x12.data, .slice a12 1 c12, .int .i64 x12.made, .int .i64 x12.changed, .int .i64 x12.ver, .int .i64 x12.kids, .int .i64 x12.owner, .int .i64 x12.len, .int .i64 x12.cnt] 31)) F30 q12 (xc x12 (.slice a12 1 c12)) 31 := by
      rw [hq12]
      exact ⟨Cb.made w30 (xc x12 (.slice a12 1 c12)) _, fun hF => Nat.lt_irrefl _ (HS.out.1.lt M1.out.1.ld hF)⟩
    exact h
  have HZ : Hid ((w30.alloc (.cells #[.int .i64 x12.err, .string x12.path, .string x12.data, .slice a12 1 c12, .int .i64 x12.made, .int .i64 x12.changed, .int .i64 x12.ver, .int .i64 x12.kids, .int .i64 x12.owner, .int .i64 x12.len, .int .i64 x12.cnt] 31)).heap.size = q12 + 1) := by
    have h : (w30.alloc (.cells #[.int .i64 x12.err, .string x12.path, .string x12.data, .slice a12 1 c12, .int .i64 x12.made, .int .i64 x12.changed, .int .i64 x12.ver, .int .i64 x12.kids, .int .i64 x12.owner, .int .i64 x12.len, .int .i64 x12.cnt] 31)).heap.size = q12 + 1 := by rw [World.size_alloc, hq12]
    exact h
  clear HE12
  clear M1 hx12
  unfold rv
  go_wp2_with fail
  rw [← hq12]
  clear hq12
  generalize w30.alloc (.cells #[.int .i64 x12.err, .string x12.path, .string x12.data, .slice a12 1 c12, .int .i64 x12.made, .int .i64 x12.changed, .int .i64 x12.ver, .int .i64 x12.kids, .int .i64 x12.owner, .int .i64 x12.len, .int .i64 x12.cnt] 31) = w31 at *
  have hb := (Below.refl _ w31).alloc (Nat.le_refl _) (.cells #[.string ⟨#[98]⟩, .string ⟨#[97]⟩] 9)
  have MA : Hid (Mine11 LT W (w31.alloc (.cells #[.string ⟨#[98]⟩, .string ⟨#[97]⟩] 9)) q t12 F30 ∧ Ers11 (w31.alloc (.cells #[.string ⟨#[98]⟩, .string ⟨#[97]⟩] 9)) F30 ((q12, 0) :: ((q11, 0) :: ((q10, 1) :: ((q9, 6) :: ((q8, 7) :: ((q7, 9) :: ((q5, 8) :: ((q3, 5) :: ((q1, 4) :: []))))))))) ∧ Kept11 (w31.alloc (.cells #[.string ⟨#[98]⟩, .string ⟨#[97]⟩] 9)) F30 q12 (xc x12 (.slice a12 1 c12)) 31 ∧ Ss (w31.alloc (.cells #[.string ⟨#[98]⟩, .string ⟨#[97]⟩] 9)) (.slice (some ⟨q12 + 1, 0, none⟩) 2 2) [⟨#[98]⟩, ⟨#[97]⟩] ∧ ¬ F30 (q12 + 1)) := ⟨M0.out.1.later HS.out.1 hb, M0.out.2.later hb, HK.out.later hb, two_made _ _ _ _ HZ.out, fun hF => by have := HS.out.1.lt M0.out.1.ld hF; have := HZ.out; omega⟩
  clear hb M0 HK HZ
  generalize w31.alloc (.cells #[.string ⟨#[98]⟩, .string ⟨#[97]⟩] 9) = wA at *
  have he13 : (Tq.load t12 Tq.pX Tq.knN).1 = 1 := by rw [HT12.out]; exact Tq.kn_errs.2.2.2.2.2.2.2.2.2
  have ht13 : (Tq.load t12 Tq.pX Tq.knN).2 = t12 := by rw [HT12.out]; exact Tq.kn_same
  have hnow := HS.out.1.load q t12 F30 Tq.pX Tq.knN (.slice (some ⟨q12 + 1, 0, none⟩) 2 2) wA MA.out.1.ld MA.out.1.fine (MA.out.1.six HS.out.2) (HS.out.2.below MA.out.1.below) MA.out.2.2.2.1 (fun _ k hk => by simp only [Value.ownBlock, Option.some.injEq] at hk; rw [← hk]; exact MA.out.2.2.2.2) (by decide) (by decide) (by decide) (by unfold maxLen; decide)
  rw [he13, ht13] at hnow
  refine hnow.mono ?_
  clear he13 ht13 hnow
  rintro e wB ⟨FB, rfl, hL, hmv⟩
  have MB : Hid (Mine11 LT W wB q t12 FB ∧ Ers11 wB FB ((q12, 0) :: ((q11, 0) :: ((q10, 1) :: ((q9, 6) :: ((q8, 7) :: ((q7, 9) :: ((q5, 8) :: ((q3, 5) :: ((q1, 4) :: []))))))))) ∧ Kept11 wB FB q12 (xc x12 (.slice a12 1 c12)) 31) := ⟨MA.out.1.step hL MA.out.1.fine hmv, MA.out.2.1.moved hmv, MA.out.2.2.1.moved hmv⟩
  clear hL hmv MA
  have r1 : wB.cell? ⟨q1, 0, none⟩ = some (.int .i64 4) := (MB.out.2.1 (q1, 4) (by simp)).cell
  have r3 : wB.cell? ⟨q3, 0, none⟩ = some (.int .i64 5) := (MB.out.2.1 (q3, 5) (by simp)).cell
  have r5 : wB.cell? ⟨q5, 0, none⟩ = some (.int .i64 8) := (MB.out.2.1 (q5, 8) (by simp)).cell
  have r7 : wB.cell? ⟨q7, 0, none⟩ = some (.int .i64 9) := (MB.out.2.1 (q7, 9) (by simp)).cell
  have r8 : wB.cell? ⟨q8, 0, none⟩ = some (.int .i64 7) := (MB.out.2.1 (q8, 7) (by simp)).cell
  have r9 : wB.cell? ⟨q9, 0, none⟩ = some (.int .i64 6) := (MB.out.2.1 (q9, 6) (by simp)).cell
  have r10 : wB.cell? ⟨q10, 0, none⟩ = some (.int .i64 1) := (MB.out.2.1 (q10, 1) (by simp)).cell
  have r11 : wB.cell? ⟨q11, 0, none⟩ = some (.int .i64 0) := (MB.out.2.1 (q11, 0) (by simp)).cell
  have r12 : wB.cell? ⟨q12, 3, none⟩ = some (.slice a12 1 c12) := MB.out.2.2.cb.cell 3
  go_wp2_with fail
  clear r1 r3 r5 r7 r8 r9 r10 r11 r12
  refine (HS.out.1.ofs q t12 FB 5 wB MB.out.1.ld MB.out.1.fine).mono ?_
  rintro e wC ⟨FC, v13, rfl, hsq, hof, hL, hmv⟩
  have ho : Tq.ofs t12 5 = [Tq.pE] := by rw [HT12.out, ← Tq.kn_same]; exact Tq.kn_ends.1
  rw [ho] at hsq
  have hss := hsq.ss
  obtain ⟨a13, n13, c13, rfl, hj1, hj2⟩ := hsq
  have MC : Hid (Mine11 LT W wC q t12 FC ∧ Ss wC (.slice a13 n13 c13) [Tq.pE]) := ⟨MB.out.1.step hL MB.out.1.fine hmv, hss⟩
  clear hj1 hj2 hss hof hL hmv ho MB
  go_wp2_with fail
  have hb := (Below.refl _ wC).alloc (Nat.le_refl _) (.cells #[.string ⟨#[47, 101]⟩] 9)
  refine (Ps.same_any (.slice a13 n13 c13) (.slice (some ⟨wC.heap.size, 0, none⟩) 1 1) [Tq.pE] [Tq.pE] _ (MC.out.2.below hb) (one_made wC Tq.pE) (by decide) (by decide)).mono ?_
  rintro e wD ⟨rfl, hbd⟩
  have MD : Hid (Mine11 LT W wD q t12 FC) := MC.out.1.later HS.out.1 (hb.trans (hbd.mono (by simp)))
  clear hb hbd MC
  have ht : decide ([Tq.pE] = [Tq.pE]) = true := by decide
  rw [ht]
  clear ht
  go_wp2_with fail
  refine (HS.out.1.paths q t12 FC wD MD.out.ld MD.out.fine).mono ?_
  rintro e wE ⟨FE, v14, rfl, hsq, hof, hL, hmv⟩
  have ho : Tq.keys t12.l = [Tq.pA, Tq.pAB, Tq.pE] := by rw [HT12.out, ← Tq.kn_same]; exact Tq.kn_ends.2
  rw [ho] at hsq
  have hss := hsq.ss
  obtain ⟨a14, n14, c14, rfl, hj1, hj2⟩ := hsq
  have ME : Hid (Mine11 LT W wE q t12 FE ∧ Ss wE (.slice a14 n14 c14) [Tq.pA, Tq.pAB, Tq.pE]) := ⟨MD.out.step hL MD.out.fine hmv, hss⟩
  clear hj1 hj2 hss hof hL hmv ho MD
  go_wp2_with fail
  have hb := (Below.refl _ wE).alloc (Nat.le_refl _) (.cells #[.string ⟨#[47, 97]⟩, .string ⟨#[47, 97, 47, 98]⟩, .string ⟨#[47, 101]⟩] 9)
  refine (Ps.same_any (.slice a14 n14 c14) (.slice (some ⟨wE.heap.size, 0, none⟩) 3 3) [Tq.pA, Tq.pAB, Tq.pE] [Tq.pA, Tq.pAB, Tq.pE] _ (ME.out.2.below hb) (three_made wE Tq.pA Tq.pAB Tq.pE) (by decide) (by decide)).mono ?_
  rintro e wG ⟨rfl, hbd⟩
  have MG : Hid (Mine11 LT W wG q t12 FE) := ME.out.1.later HS.out.1 (hb.trans (hbd.mono (by simp)))
  clear hb hbd ME
  have ht : decide ([Tq.pA, Tq.pAB, Tq.pE] = [Tq.pA, Tq.pAB, Tq.pE]) = true := by decide
  rw [ht]
  clear ht
  go_wp2
  go_ret
  exact ⟨rfl, MG.out.below⟩
end Go.Proofs.YtfcbdjjbchcpjaaGreatDoor
