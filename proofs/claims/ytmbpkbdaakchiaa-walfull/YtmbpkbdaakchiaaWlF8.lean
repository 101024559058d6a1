/- What the landed log's rebase and Restart answer: their walks. -/
import Derived.Test.YtmbpkbdaakchiaaWlE8
namespace Go.Proofs.Ytmbpkbdaakchiaa
open Go.RowKit

/-- What rebase comes to. -/
def rebaseE (st : Dq.St) (n : Int) : Int × Dq.St := if (Wq.based st n).1 = 0 then (0, (Dq.rename (Dq.sync (Wq.based st n).2 Wq.newN).2 Wq.newN Wq.baseN).2) else Wq.based st n

theorem OnW.step {w w1 w2 : World} {qd : Nat} {st st' : Dq.St} {F F1 F2 : Nat → Prop} (h : OnW w w1 qd st F F1) (hd : DkD w2 qd st' F2) (hm : Moved w1 w2 F1 F2) : OnW w w2 qd st' F F2 := ⟨hd, h.mv.trans hm⟩

set_option maxRecDepth 20000 in
set_option maxHeartbeats 4000000 in
theorem rebase_any (qd : Nat) (st : Dq.St) (F : Nat → Prop) (n : Int) (w : World) (hd : DkD w qd st F) (hf : FineW st) (hoff : st.off = false) :
    Calls Try.prog 32 #[dptr qd, .int .i64 n] w fun e w' => ∃ F', e = .returned (.int .i64 (rebaseE st n).1) ∧ OnW w w' qd (rebaseE st n).2 F F' := by
  have HD : Hid (DkD w qd st F ∧ FineW st ∧ st.off = false) := ⟨hd, hf, hoff⟩
  have hfw := fine_wiped hf.1 hf.2.2
  have HFB : Hid (Fine (Wq.based st n).2) := fine_append hfw.2.1 Wq.newN _ (Nat.le_trans hfw.2.2 (by decide))
  have HFW : Hid (Fine (Dq.cut st Wq.logN 0).2 ∧ Fine (Wq.wiped st)) := ⟨hfw.1, hfw.2.1⟩
  obtain ⟨y1, hy1⟩ : ∃ y, y = (Dq.cut st Wq.logN 0).1 := ⟨_, rfl⟩
  obtain ⟨y2, hy2⟩ : ∃ y, y = (Dq.drop (Dq.cut st Wq.logN 0).2 Wq.newN).1 := ⟨_, rfl⟩
  have HY1 : Hid (y1 = (Dq.cut st Wq.logN 0).1 ∧ (if y1 = 4 then 0 else y1) = 0) := by
    refine ⟨hy1, ?_⟩
    rcases Wq.cut_says hoff with h | h
    · rw [hy1, h]; rfl
    · rw [hy1, h]; rfl
  have HY2 : Hid (y2 = (Dq.drop (Dq.cut st Wq.logN 0).2 Wq.newN).1 ∧ (if y2 = 4 then 0 else y2) = 0) := by
    refine ⟨hy2, ?_⟩
    rcases Wq.drop_says (st := (Dq.cut st Wq.logN 0).2) (by rw [Wq.off_cut]; exact hoff) with h | h
    · rw [hy2, h]; rfl
    · rw [hy2, h]; rfl
  obtain ⟨st1, hst1⟩ : ∃ s, s = (Dq.cut st Wq.logN 0).2 := ⟨_, rfl⟩
  obtain ⟨st2, hst2⟩ : ∃ s, s = Wq.wiped st := ⟨_, rfl⟩
  have HST : Hid (st1 = (Dq.cut st Wq.logN 0).2 ∧ st2 = (Dq.drop st1 Wq.newN).2 ∧ Wq.based st n = Dq.append st2 Wq.newN (Fr.frame (Pk.be8 n))) := by
    refine ⟨hst1, ?_, ?_⟩
    · rw [hst2, hst1]; rfl
    · rw [hst2]; rfl
  rw [← hst1, ← hst2] at HFW
  rw [← hst1] at HY2
  clear hd hf hoff hfw hy1 hy2 hst1 hst2
  have HN0 : Hid (∀ w' : World, Bs w' (.slice none 0 0) []) := fun w' => Bs.nil w'
  by_cases hz : (Wq.based st n).1 = 0
  · have HX : Hid (rebaseE st n = (0, (Dq.rename (Dq.sync (Wq.based st n).2 Wq.newN).2 Wq.newN Wq.baseN).2) ∧ (Wq.based st n).1 = 0 ∧ (Dq.sync (Wq.based st n).2 Wq.newN).1 = 0 ∧ (Dq.rename (Dq.sync (Wq.based st n).2 Wq.newN).2 Wq.newN Wq.baseN).1 = 0) := by
      have h := Wq.based_says HD.out.2.2 hz
      exact ⟨by unfold rebaseE; rw [if_pos hz], hz, h.1, h.2⟩
    rw [HX.out.1]
    clear hz
    go_enter Try.func32, Try.ntmps32
    go_wp2_with fail
    refine (specs_any7.cut qd st F Wq.logN 0 w HD.out.1 HD.out.2.1.1).mono ?_
    rintro e w1 ⟨F1, rfl, g1, g2⟩
    rw [← HST.out.1] at g1
    rw [← HY1.out.1]
    have HW1 : Hid (OnW w w1 qd st1 F F1) := ⟨g1, g2⟩
    clear g1 g2
    go_wp2_with fail
    refine (ifThere_any y1 w1).mono ?_
    rintro e wI ⟨rfl, hwI⟩
    rw [hwI, HY1.out.2]
    clear hwI wI
    go_wp2_with fail
    refine (specs_any7.drop qd st1 F1 Wq.newN w1 HW1.out.dk HFW.out.1).mono ?_
    rintro e w2 ⟨F2, rfl, g1, g2⟩
    rw [← HST.out.2.1] at g1
    rw [← HY2.out.1]
    have HW2 : Hid (OnW w w2 qd st2 F F2) := HW1.out.step g1 g2
    clear g1 g2
    go_wp2_with fail
    refine (ifThere_any y2 w2).mono ?_
    rintro e wI ⟨rfl, hwI⟩
    rw [hwI, HY2.out.2]
    clear hwI wI
    go_wp2_with fail
    refine (Pw.i64_bs (.slice none 0 0) [] n w2 (HN0.out w2) (by decide)).mono ?_
    rintro e w3 ⟨vi, rfl, hvi, hb3⟩
    rw [List.nil_append] at hvi
    have HW3 : Hid (OnW w w3 qd st2 F F2 ∧ Bs w3 vi (Pk.be8 n)) := ⟨HW2.out.later hb3, hvi⟩
    obtain ⟨ai, ni, ci, rfl, hq1, hq2⟩ := hvi
    clear hb3 hq1 hq2
    go_wp2_with fail
    refine (put_any (.slice none 0 0) (.slice ai ni ci) [] (Pk.be8 n) w3 (HN0.out w3) HW3.out.2 (by decide) (by rw [Pk.be8_len]; decide)).mono ?_
    rintro e w4 ⟨vf, rfl, hown, hb4⟩
    rw [List.nil_append] at hown
    have HW4 : Hid (OnW w w4 qd st2 F F2 ∧ Bs w4 vf (Fr.frame (Pk.be8 n)) ∧ Apart F2 vf (Fr.frame (Pk.be8 n))) := ⟨HW3.out.1.later hb4, Bs.own hown, fun _ k e hF => by
      have h1 := (hown.lt k e).1
      have h2 := HW3.out.1.dk.lt hF
      omega⟩
    obtain ⟨nf, hnf⟩ : ∃ z : Nat, z = ([] : List UInt8).length + (12 + (Pk.be8 n).length) := ⟨_, rfl⟩
    obtain ⟨af, cf, hvf, _⟩ := row_slice hown
    rw [← hnf] at hvf
    subst hvf
    clear hown hb4 hnf
    go_wp2_with fail
    refine (append_any7 qd st2 F2 Wq.newN (.slice af nf cf) (Fr.frame (Pk.be8 n)) w4 HW4.out.1.dk HFW.out.2 HW4.out.2.1 (by rw [Fr.frame_len, Pk.be8_len]; decide) HW4.out.2.2).mono ?_
    rintro e w6 ⟨F3, rfl, g1, g2⟩
    rw [← HST.out.2.2] at g1 ⊢
    have HW6 : Hid (OnW w w6 qd (Wq.based st n).2 F F3) := HW4.out.1.step g1 g2
    clear g1 g2
    rw [HX.out.2.1]
    go_wp2_with fail
    refine (specs_any7.sync qd (Wq.based st n).2 F3 Wq.newN w6 HW6.out.dk HFB.out).mono ?_
    rintro e w7 ⟨F4, rfl, g1, g2⟩
    rw [HX.out.2.2.1]
    have HW7 : Hid (OnW w w7 qd (Dq.sync (Wq.based st n).2 Wq.newN).2 F F4) := HW6.out.step g1 g2
    clear g1 g2
    go_wp2_with fail
    refine (specs_any7.rename qd (Dq.sync (Wq.based st n).2 Wq.newN).2 F4 Wq.newN Wq.baseN w7 HW7.out.dk (fine_sync HFB.out _)).mono ?_
    rintro e w8 ⟨F5, rfl, g1, g2⟩
    rw [HX.out.2.2.2]
    have HW8 : Hid (OnW w w8 qd (Dq.rename (Dq.sync (Wq.based st n).2 Wq.newN).2 Wq.newN Wq.baseN).2 F F5) := HW7.out.step g1 g2
    clear g1 g2
    go_wp2
    go_ret
    exact ⟨F5, rfl, HW8.out⟩
  · have HX : Hid (rebaseE st n = Wq.based st n ∧ ¬ (Wq.based st n).1 = 0) := ⟨by unfold rebaseE; rw [if_neg hz], hz⟩
    rw [HX.out.1]
    clear hz
    go_enter Try.func32, Try.ntmps32
    go_wp2_with fail
    refine (specs_any7.cut qd st F Wq.logN 0 w HD.out.1 HD.out.2.1.1).mono ?_
    rintro e w1 ⟨F1, rfl, g1, g2⟩
    rw [← HST.out.1] at g1
    rw [← HY1.out.1]
    have HW1 : Hid (OnW w w1 qd st1 F F1) := ⟨g1, g2⟩
    clear g1 g2
    go_wp2_with fail
    refine (ifThere_any y1 w1).mono ?_
    rintro e wI ⟨rfl, hwI⟩
    rw [hwI, HY1.out.2]
    clear hwI wI
    go_wp2_with fail
    refine (specs_any7.drop qd st1 F1 Wq.newN w1 HW1.out.dk HFW.out.1).mono ?_
    rintro e w2 ⟨F2, rfl, g1, g2⟩
    rw [← HST.out.2.1] at g1
    rw [← HY2.out.1]
    have HW2 : Hid (OnW w w2 qd st2 F F2) := HW1.out.step g1 g2
    clear g1 g2
    go_wp2_with fail
    refine (ifThere_any y2 w2).mono ?_
    rintro e wI ⟨rfl, hwI⟩
    rw [hwI, HY2.out.2]
    clear hwI wI
    go_wp2_with fail
    refine (Pw.i64_bs (.slice none 0 0) [] n w2 (HN0.out w2) (by decide)).mono ?_
    rintro e w3 ⟨vi, rfl, hvi, hb3⟩
    rw [List.nil_append] at hvi
    have HW3 : Hid (OnW w w3 qd st2 F F2 ∧ Bs w3 vi (Pk.be8 n)) := ⟨HW2.out.later hb3, hvi⟩
    obtain ⟨ai, ni, ci, rfl, hq1, hq2⟩ := hvi
    clear hb3 hq1 hq2
    go_wp2_with fail
    refine (put_any (.slice none 0 0) (.slice ai ni ci) [] (Pk.be8 n) w3 (HN0.out w3) HW3.out.2 (by decide) (by rw [Pk.be8_len]; decide)).mono ?_
    rintro e w4 ⟨vf, rfl, hown, hb4⟩
    rw [List.nil_append] at hown
    have HW4 : Hid (OnW w w4 qd st2 F F2 ∧ Bs w4 vf (Fr.frame (Pk.be8 n)) ∧ Apart F2 vf (Fr.frame (Pk.be8 n))) := ⟨HW3.out.1.later hb4, Bs.own hown, fun _ k e hF => by
      have h1 := (hown.lt k e).1
      have h2 := HW3.out.1.dk.lt hF
      omega⟩
    obtain ⟨nf, hnf⟩ : ∃ z : Nat, z = ([] : List UInt8).length + (12 + (Pk.be8 n).length) := ⟨_, rfl⟩
    obtain ⟨af, cf, hvf, _⟩ := row_slice hown
    rw [← hnf] at hvf
    subst hvf
    clear hown hb4 hnf
    go_wp2_with fail
    refine (append_any7 qd st2 F2 Wq.newN (.slice af nf cf) (Fr.frame (Pk.be8 n)) w4 HW4.out.1.dk HFW.out.2 HW4.out.2.1 (by rw [Fr.frame_len, Pk.be8_len]; decide) HW4.out.2.2).mono ?_
    rintro e w6 ⟨F3, rfl, g1, g2⟩
    rw [← HST.out.2.2] at g1 ⊢
    have HW6 : Hid (OnW w w6 qd (Wq.based st n).2 F F3) := HW4.out.1.step g1 g2
    clear g1 g2
    obtain ⟨zz, hzz⟩ : ∃ zz, zz = (Wq.based st n).1 := ⟨_, rfl⟩
    have hz0 : ¬ zz = 0 := by rw [hzz]; exact HX.out.2
    rw [← hzz]
    have HZZ : Hid (zz = (Wq.based st n).1) := hzz
    clear hzz
    go_wp2
    go_ret
    exact ⟨F3, by rw [← HZZ.out]; rfl, HW6.out⟩

theorem restart_eq {g : Wq.Lg} {st : Dq.St} {n : Int} (ho : Wq.off g st = false) (h1 : 1 ≤ n) (h2 : n ≤ 1099511627776) : Wq.restart g st n = if (rebaseE st n).1 = 0 then (0, { g with first := n, recs := [] }, (rebaseE st n).2) else ((rebaseE st n).1, { g with done := true }, (rebaseE st n).2) := by
  unfold rebaseE
  by_cases hz : (Wq.based st n).1 = 0
  · rw [Wq.restart_ok ho h1 h2 hz, if_pos hz, if_pos rfl]
  · rw [Wq.restart_full ho h1 h2 hz, if_neg hz, if_neg hz]

set_option maxRecDepth 20000 in
set_option maxHeartbeats 4000000 in
theorem restartW_any (ql qd : Nat) (g : Wq.Lg) (st : Dq.St) (F G : Nat → Prop) (v : Value) (us : List Value) (n : Int) (w : World) (hd : DkD w qd st F) (hg : WlU w ql qd g G v us ((Fr.frames g.recs).length : Int)) (ha : ∀ k, F k → ¬ G k) (hf : FineW st) (hoff : st.off = false) (n1 : -9223372036854775808 ≤ n) (n2 : n ≤ 9223372036854775807) :
    Calls Try.prog 14 #[dptr ql, .int .i64 n] w fun e w' => e = .returned (.int .i64 (Wq.restart g st n).1) ∧ Post8 DkD WlD w ql qd F G (Wq.restart g st n).2.1 (Wq.restart g st n).2.2 w' := by
  have HD : Hid (DkD w qd st F ∧ WlU w ql qd g G v us ((Fr.frames g.recs).length : Int) ∧ (∀ k, F k → ¬ G k) ∧ FineW st ∧ st.off = false) := ⟨hd, hg, ha, hf, hoff⟩
  have HO : Hid (Calls Try.prog 27 #[dptr ql] w fun e w' => e = .returned (.bool (dn g st)) ∧ ∃ n, w' = w.drewN n) := isDone_any ql qd g st F G v us _ w hd hg
  clear hd hg ha hf
  rw [dn_on hoff] at HO
  clear hoff
  cases ho : Wq.off g st with
  | true =>
    have HX : Hid (Wq.restart g st n = (10, { g with done := true }, st) ∧ Wq.off g st = true) := by
      have h : Wq.restart g st n = (10, { g with done := true }, st) := by unfold Wq.restart; rw [if_pos ho]
      exact ⟨h, ho⟩
    rw [HX.out.1]
    rw [ho] at HO
    clear ho
    go_enter Try.func14, Try.ntmps14
    go_wp2_with fail
    refine HO.out.mono ?_
    rintro e w1 ⟨rfl, n9, hw1⟩
    have HB : Hid (Below w.heap.size w w1) := by rw [hw1]; exact below_drewN (Below.refl _ _) _
    have HD1 : Hid (DkD w1 qd st F ∧ WlU w1 ql qd g G v us ((Fr.frames g.recs).length : Int)) := ⟨HD.out.1.below HB.out, HD.out.2.1.below HB.out⟩
    clear hw1
    go_wp2
    go_ret
    exact ⟨rfl, (post_dead HD1.out.1 ⟨_, us, HD1.out.2⟩ HD.out.2.2.1 HX.out.2).before (Moved.of_below _ HB.out)⟩
  | false =>
    rw [ho] at HO
    have HOF : Hid (Wq.off g st = false) := ho
    clear ho
    by_cases c1 : n < 1
    · have HX : Hid (Wq.restart g st n = (1, g, st)) := Wq.restart_no HOF.out (Or.inl c1)
      rw [HX.out]
      have c1b : decide (n < 1) = true := by simp [c1]
      go_enter Try.func14, Try.ntmps14
      go_wp2_with fail
      refine HO.out.mono ?_
      rintro e w1 ⟨rfl, n9, hw1⟩
      have HB : Hid (Below w.heap.size w w1) := by rw [hw1]; exact below_drewN (Below.refl _ _) _
      have HD1 : Hid (DkD w1 qd st F ∧ WlU w1 ql qd g G v us ((Fr.frames g.recs).length : Int)) := ⟨HD.out.1.below HB.out, HD.out.2.1.below HB.out⟩
      clear hw1
      go_wp2
      go_ret
      exact ⟨rfl, post_of HD1.out.1 ⟨_, us, HD1.out.2⟩ HD.out.2.2.1 (Moved.of_below _ HB.out)⟩
    have c1b : decide (n < 1) = false := by simp [c1]
    by_cases c2 : 1099511627776 < n
    · have HX : Hid (Wq.restart g st n = (1, g, st)) := Wq.restart_no HOF.out (Or.inr c2)
      rw [HX.out]
      go_enter Try.func14, Try.ntmps14
      go_wp2_with fail
      refine HO.out.mono ?_
      rintro e w1 ⟨rfl, n9, hw1⟩
      have HB : Hid (Below w.heap.size w w1) := by rw [hw1]; exact below_drewN (Below.refl _ _) _
      have HD1 : Hid (DkD w1 qd st F ∧ WlU w1 ql qd g G v us ((Fr.frames g.recs).length : Int)) := ⟨HD.out.1.below HB.out, HD.out.2.1.below HB.out⟩
      clear hw1
      go_wp2
      go_ret
      exact ⟨rfl, post_of HD1.out.1 ⟨_, us, HD1.out.2⟩ HD.out.2.2.1 (Moved.of_below _ HB.out)⟩
    have HNB : Hid (1 ≤ n ∧ n ≤ 1099511627776) := ⟨by omega, by omega⟩
    have HRE : Hid (Wq.restart g st n = if (rebaseE st n).1 = 0 then (0, { g with first := n, recs := [] }, (rebaseE st n).2) else ((rebaseE st n).1, { g with done := true }, (rebaseE st n).2)) := restart_eq HOF.out HNB.out.1 HNB.out.2
    by_cases hz : (rebaseE st n).1 = 0
    · have HX : Hid (Wq.restart g st n = (0, { g with first := n, recs := [] }, (rebaseE st n).2) ∧ (rebaseE st n).1 = 0) := ⟨by rw [HRE.out, if_pos hz], hz⟩
      rw [HX.out.1]
      clear hz
      go_enter Try.func14, Try.ntmps14
      go_wp2_with fail
      refine HO.out.mono ?_
      rintro e w1 ⟨rfl, n9, hw1⟩
      have HB : Hid (Below w.heap.size w w1) := by rw [hw1]; exact below_drewN (Below.refl _ _) _
      have HD1 : Hid (DkD w1 qd st F ∧ WlU w1 ql qd g G v us ((Fr.frames g.recs).length : Int)) := ⟨HD.out.1.below HB.out, HD.out.2.1.below HB.out⟩
      clear hw1
      have l0 : w1.cell? ⟨ql, 0, none⟩ = some (dptr qd) := HD1.out.2.blk.cell 0
      go_wp2_with fail
      refine (rebase_any qd st F n w1 HD1.out.1 HD.out.2.2.2.1 HD.out.2.2.2.2).mono ?_
      rintro e w2 ⟨F2, rfl, hw2⟩
      rw [HX.out.2]
      have hoth := HD1.out.2.other hw2.mv HD.out.2.2.1
      have HZ : Hid (DkD w2 qd (rebaseE st n).2 F2 ∧ WlU w2 ql qd g G v us ((Fr.frames g.recs).length : Int) ∧ (∀ k, F2 k → ¬ G k) ∧ Moved w w2 (both F G) (both F2 G)) := ⟨hw2.dk, hoth.1, hoth.2, (Moved.of_below _ HB.out).trans hw2.mv.both_l⟩
      clear hw2 hoth l0
      have s3 : w2.cell? ⟨ql, 3, none⟩ = some (.int .i64 g.first) := HZ.out.2.1.blk.cell 3
      have s4 : w2.cell? ⟨ql, 4, none⟩ = some v := HZ.out.2.1.blk.cell 4
      have s5 : w2.cell? ⟨ql, 5, none⟩ = some (.int .i64 ((Fr.frames g.recs).length : Int)) := HZ.out.2.1.blk.cell 5
      have f3 := HZ.out.2.1.blk.free 3
      have f4 := HZ.out.2.1.blk.free 4
      have f5 := HZ.out.2.1.blk.free 5
      go_wp2
      go_ret
      refine ⟨rfl, ?_⟩
      have h1 := HZ.out.2.1.setFirst (n := n) HNB.out.1 HNB.out.2
      have m1 : Moved w2 (w2.setCell ⟨ql, 3, none⟩ (.int .i64 n)) G G := moved_set HZ.out.2.1.gq
      have h2 := h1.put (recs' := []) (us' := []) (v' := .slice none 0 0) (w4 := w2.setCell ⟨ql, 3, none⟩ (.int .i64 n)) ⟨rfl, rfl, rfl, Nat.le_refl _, fun _ _ _ => rfl⟩ ⟨HNB.out.1, HNB.out.2, by simp, fun r hr => by simp at hr⟩ (World.ownsRow_nil _ _ _ _) (fun k e => by cases e) (fun j u x hu => by simp at hu)
      have h3 := h2.1.setSize 0
      have hmv : Moved w2 (((w2.setCell ⟨ql, 3, none⟩ (.int .i64 n)).setCell ⟨ql, 4, none⟩ (.slice none 0 0)).setCell ⟨ql, 5, none⟩ (.int .i64 0)) G (Gl (w2.setCell ⟨ql, 3, none⟩ (.int .i64 n)) (w2.setCell ⟨ql, 3, none⟩ (.int .i64 n)) G) := (m1.trans h2.2).trans (moved_set (Or.inl HZ.out.2.1.gq))
      refine post_of (F' := F2) (HZ.out.1.keep (fun k hk => hmv.block k (HZ.out.1.lt hk) (HZ.out.2.2.1 k hk))) ⟨_, _, h3⟩ (fun k hF hG => ?_) (HZ.out.2.2.2.trans hmv.rightL)
      rcases hmv.sub k hG with e | e
      · exact HZ.out.2.2.1 k hF e
      · have := HZ.out.1.lt hF
        omega
    · have HX : Hid (Wq.restart g st n = ((rebaseE st n).1, { g with done := true }, (rebaseE st n).2) ∧ ¬ (rebaseE st n).1 = 0) := ⟨by rw [HRE.out, if_neg hz], hz⟩
      rw [HX.out.1]
      clear hz
      go_enter Try.func14, Try.ntmps14
      go_wp2_with fail
      refine HO.out.mono ?_
      rintro e w1 ⟨rfl, n9, hw1⟩
      have HB : Hid (Below w.heap.size w w1) := by rw [hw1]; exact below_drewN (Below.refl _ _) _
      have HD1 : Hid (DkD w1 qd st F ∧ WlU w1 ql qd g G v us ((Fr.frames g.recs).length : Int)) := ⟨HD.out.1.below HB.out, HD.out.2.1.below HB.out⟩
      clear hw1
      have l0 : w1.cell? ⟨ql, 0, none⟩ = some (dptr qd) := HD1.out.2.blk.cell 0
      go_wp2_with fail
      refine (rebase_any qd st F n w1 HD1.out.1 HD.out.2.2.2.1 HD.out.2.2.2.2).mono ?_
      rintro e w2 ⟨F2, rfl, hw2⟩
      have hoth := HD1.out.2.other hw2.mv HD.out.2.2.1
      have HZ : Hid (DkD w2 qd (rebaseE st n).2 F2 ∧ WlU w2 ql qd g G v us ((Fr.frames g.recs).length : Int) ∧ (∀ k, F2 k → ¬ G k) ∧ Moved w w2 (both F G) (both F2 G)) := ⟨hw2.dk, hoth.1, hoth.2, (Moved.of_below _ HB.out).trans hw2.mv.both_l⟩
      clear hw2 hoth l0
      obtain ⟨zz, hzz⟩ : ∃ zz, zz = (rebaseE st n).1 := ⟨_, rfl⟩
      have hz0 : ¬ zz = 0 := by rw [hzz]; exact HX.out.2
      rw [← hzz]
      have HZZ : Hid (zz = (rebaseE st n).1) := hzz
      clear hzz
      go_wp2_with fail
      refine (fail_any8 ql qd g G v us _ zz w2 HZ.out.2.1).mono ?_
      rintro e wE ⟨rfl, hwE⟩
      have HP : Hid (Post8 DkD WlD w ql qd F G { g with done := true } (rebaseE st n).2 wE) := by
        rw [hwE]
        exact (post_done HZ.out.1 HZ.out.2.1 HZ.out.2.2.1).before HZ.out.2.2.2
      clear hwE
      go_wp2
      go_ret
      exact ⟨by rw [← HZZ.out]; rfl, HP.out⟩
end Go.Proofs.Ytmbpkbdaakchiaa
