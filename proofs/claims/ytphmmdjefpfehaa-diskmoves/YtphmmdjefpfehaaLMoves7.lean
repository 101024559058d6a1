/- What DiskMoves answers. -/
import Derived.Test.YtphmmdjefpfehaaLAwake7
namespace Go.Proofs.Ytphmmdjefpfehaa
open Go.RowKit

set_option maxRecDepth 20000 in
set_option maxHeartbeats 4000000 in
theorem moves_any7 {LD : Rep} (S : Specs7 LD) (va vb vc : Value) (a b c : List UInt8) (W : World) (ha : Bs W va a) (hb : Bs W vb b) (hc : Bs W vc c) (hla : a.length ≤ maxLen) (hlb : b.length ≤ maxLen) (hlc : c.length ≤ maxLen) :
    Calls Try.prog 7 #[va, vb, vc] W fun e w' => e = .returned (.bool true) ∧ Below W.heap.size W w' := by
  have HS : Hid (Specs7 LD) := S
  have HA0 : Hid (Bs W va a) := ha
  obtain ⟨aa, na, ca, rfl, hna, hXa⟩ := ha
  have hca : na ≤ ca := by rw [hna]; exact hXa.cap
  have HA : Hid (Bs W (.slice aa na ca) a ∧ na = a.length) := ⟨HA0.out, hna⟩
  have hna1 : na ≤ 9223372036854775807 := by unfold maxLen at hla; omega
  clear hXa hna hla HA0
  have HB0 : Hid (Bs W vb b) := hb
  obtain ⟨ab, nb, cb, rfl, hnb, hXb⟩ := hb
  have hcb : nb ≤ cb := by rw [hnb]; exact hXb.cap
  have HB : Hid (Bs W (.slice ab nb cb) b ∧ nb = b.length) := ⟨HB0.out, hnb⟩
  have hnb1 : nb ≤ 9223372036854775807 := by unfold maxLen at hlb; omega
  clear hXb hnb hlb HB0
  have HC0 : Hid (Bs W vc c) := hc
  obtain ⟨ac, nc, cc, rfl, hnc, hXc⟩ := hc
  have hcc : nc ≤ cc := by rw [hnc]; exact hXc.cap
  have HC : Hid (Bs W (.slice ac nc cc) c ∧ nc = c.length) := ⟨HC0.out, hnc⟩
  have hnc1 : nc ≤ 9223372036854775807 := by unfold maxLen at hlc; omega
  clear hXc hnc hlc HC0
  clear S
  go_enter Try.func7, Try.ntmps7
  go_wp2_with fail
  refine (awake_any7 HS.out W).mono ?_
  rintro e w0 ⟨rfl, hb⟩
  have B0 : Hid (Below W.heap.size W w0) := hb
  clear hb
  by_cases hla : 200 < na
  · have hla' : (200 : Int) < (na : Int) := by omega
    go_wp2
    go_ret
    exact ⟨rfl, B0.out⟩
  have hla' : ¬ (200 : Int) < (na : Int) := by omega
  by_cases hlb : 200 < nb
  · have hlb' : (200 : Int) < (nb : Int) := by omega
    go_wp2
    go_ret
    exact ⟨rfl, B0.out⟩
  have hlb' : ¬ (200 : Int) < (nb : Int) := by omega
  by_cases hlc : 200 < nc
  · have hlc' : (200 : Int) < (nc : Int) := by omega
    go_wp2
    go_ret
    exact ⟨rfl, B0.out⟩
  have hlc' : ¬ (200 : Int) < (nc : Int) := by omega
  have HL : Hid (a.length ≤ 200 ∧ b.length ≤ 200 ∧ c.length ≤ 200) := ⟨by rw [← HA.out.2]; omega, by rw [← HB.out.2]; omega, by rw [← HC.out.2]; omega⟩
  go_wp2_with fail
  refine (mine_new HS.out B0.out 1000 (by decide)).mono ?_
  rintro e w1 ⟨q, F1, rfl, hM⟩
  have M1 : Hid (Mine LD W w1 q ⟨1000, [], false, 1⟩ F1) := hM
  clear hM
  go_wp2_with fail
  refine (Mine.append HS.out M1.out ⟨#[120]⟩ _ a (M1.out.arg HA.out.1).1 (by have := HL.out.1; omega) (M1.out.arg HA.out.1).2 (by simp) _ _ (Dq.append_new _ (by decide) (by have := HL.out.1; omega))).mono ?_
  rintro e w2 ⟨F2, rfl, hM, hmv⟩
  have M2 : Hid (Mine LD W w2 q ⟨1000, [⟨⟨#[120]⟩, a, 0⟩], false, 1⟩ F2) := hM
  clear hM hmv
  go_wp2_with fail
  refine (Mine.sync HS.out M2.out ⟨#[120]⟩ _ _ (Dq.sync_one (by decide))).mono ?_
  rintro e w3 ⟨F3, rfl, hM, hmv⟩
  have M3 : Hid (Mine LD W w3 q ⟨1000, [⟨⟨#[120]⟩, a, a.length⟩], false, 1⟩ F3) := hM
  clear hM hmv
  go_wp2_with fail
  refine (Mine.append HS.out M3.out ⟨#[120]⟩ _ b (M3.out.arg HB.out.1).1 (by have := HL.out.2; omega) (M3.out.arg HB.out.1).2 (by simp) _ _ (Dq.append_one _ (by decide) (by have := HL.out; omega))).mono ?_
  rintro e w4 ⟨F4, rfl, hM, hmv⟩
  have M4 : Hid (Mine LD W w4 q ⟨1000, [⟨⟨#[120]⟩, (a ++ b), a.length⟩], false, 1⟩ F4) := hM
  clear hM hmv
  go_wp2_with fail
  refine (Mine.append HS.out M4.out ⟨#[121]⟩ _ c (M4.out.arg HC.out.1).1 (by have := HL.out.2; omega) (M4.out.arg HC.out.1).2 (by simp) _ _ (Dq.append_second _ (by decide) (by decide) (by rw [Dq.less_eq]; decide) (by have := HL.out; rw [List.length_append]; omega))).mono ?_
  rintro e w5 ⟨F5, rfl, hM, hmv⟩
  have M5 : Hid (Mine LD W w5 q ⟨1000, [⟨⟨#[120]⟩, (a ++ b), a.length⟩, ⟨⟨#[121]⟩, c, 0⟩], false, 1⟩ F5) := hM
  clear hM hmv
  go_wp2_with fail
  refine (Mine.sync HS.out M5.out ⟨#[121]⟩ _ _ (Dq.sync_second (by decide) (by decide))).mono ?_
  rintro e w6 ⟨F6, rfl, hM, hmv⟩
  have M6 : Hid (Mine LD W w6 q ⟨1000, [⟨⟨#[120]⟩, (a ++ b), a.length⟩, ⟨⟨#[121]⟩, c, c.length⟩], false, 1⟩ F6) := hM
  clear hM hmv
  go_wp2_with fail
  refine (Mine.rename HS.out M6.out ⟨#[120]⟩ ⟨#[121]⟩ (by simp) _ _ (Dq.rename_over (by decide) (by decide) (by decide))).mono ?_
  rintro e w7 ⟨F7, rfl, hM, hmv⟩
  have M7 : Hid (Mine LD W w7 q ⟨1000, [⟨⟨#[121]⟩, (a ++ b), a.length⟩], false, 1⟩ F7) := hM
  clear hM hmv
  go_wp2_with fail
  refine (Mine.read HS.out M7.out ⟨#[120]⟩ [] 4 (Dq.read_gone (by decide) (by decide))).mono ?_
  rintro e w8 ⟨F8, v8, rfl, hbs, hap, hM, hmv⟩
  have M8 : Hid (Mine LD W w8 q ⟨1000, [⟨⟨#[121]⟩, (a ++ b), a.length⟩], false, 1⟩ F8) := hM
  clear hM hmv hbs hap
  go_wp2_with fail
  refine (Mine.read HS.out M8.out ⟨#[121]⟩ (a ++ b) 0 (Dq.read_one (by decide))).mono ?_
  rintro e w9 ⟨F9, v9, rfl, hbs, hap, hM, hmv⟩
  have M9 : Hid (Mine LD W w9 q ⟨1000, [⟨⟨#[121]⟩, (a ++ b), a.length⟩], false, 1⟩ F9) := hM
  have XP9 : Hid (Bs w9 v9 (a ++ b) ∧ Apart F9 v9 (a ++ b)) := ⟨hbs, hap⟩
  clear hM hmv hbs hap
  go_wp2_with fail
  refine (Mine.crash HS.out M9.out 0 (by decide) (by decide) _ (Dq.crash_zero a b)).mono ?_
  rintro e w10 ⟨F10, rfl, hM, hmv⟩
  have M10 : Hid (Mine LD W w10 q ⟨1000, [⟨⟨#[121]⟩, a, a.length⟩], true, 1⟩ F10) := hM
  have XP10 : Hid (Bs w10 v9 (a ++ b) ∧ Apart F10 v9 (a ++ b)) := XP9.out.2.moved XP9.out.1 hmv
  clear hM hmv
  go_wp2_with fail
  refine (Mine.on HS.out M10.out (by simp) _ rfl).mono ?_
  rintro e w11 ⟨F11, rfl, hM, hmv⟩
  have M11 : Hid (Mine LD W w11 q ⟨1000, [⟨⟨#[121]⟩, a, a.length⟩], false, 2⟩ F11) := hM
  have XP11 : Hid (Bs w11 v9 (a ++ b) ∧ Apart F11 v9 (a ++ b)) := XP10.out.2.moved XP10.out.1 hmv
  clear hM hmv
  go_wp2_with fail
  refine (Mine.read HS.out M11.out ⟨#[121]⟩ a 0 (Dq.read_one (by decide))).mono ?_
  rintro e w12 ⟨F12, v12, rfl, hbs, hap, hM, hmv⟩
  have M12 : Hid (Mine LD W w12 q ⟨1000, [⟨⟨#[121]⟩, a, a.length⟩], false, 2⟩ F12) := hM
  have XP12 : Hid (Bs w12 v9 (a ++ b) ∧ Apart F12 v9 (a ++ b)) := XP11.out.2.moved XP11.out.1 hmv
  have XQ12 : Hid (Bs w12 v12 a ∧ Apart F12 v12 a) := ⟨hbs, hap⟩
  clear hM hmv hbs hap
  obtain ⟨PA, hPA⟩ : ∃ z : ByteArray, z = ⟨(a ++ b).toArray⟩ := ⟨_, rfl⟩
  obtain ⟨YA, hYA⟩ : ∃ z : ByteArray, z = ⟨a.toArray⟩ := ⟨_, rfl⟩
  obtain ⟨YB, hYB⟩ : ∃ z : ByteArray, z = ⟨b.toArray⟩ := ⟨_, rfl⟩
  have k1 : (convert 28 9 v9).run Try.prog w12 = .ok (.string PA) w12 := by rw [hPA]; exact XP12.out.1.conv
  have k2 : (convert 28 9 v12).run Try.prog w12 = .ok (.string YA) w12 := by rw [hYA]; exact XQ12.out.1.conv
  have k3 : (convert 28 9 (.slice aa na ca)).run Try.prog w12 = .ok (.string YA) w12 := by rw [hYA]; exact (HA.out.1.below M12.out.below).conv
  have k4 : (convert 28 9 (.slice ab nb cb)).run Try.prog w12 = .ok (.string YB) w12 := by rw [hYB]; exact (HB.out.1.below M12.out.below).conv
  have hxx : (YA.toList == YA.toList) = true := by simp
  have hzz : (PA.toList == (YA ++ YB).toList) = true := by
    rw [hPA, hYA, hYB]
    simp [ByteArray.toList_eq]
  have hsum : ¬ (9223372036854775807 < YA.size + YB.size) := by
    have h1 := HL.out
    rw [hYA, hYB]
    simp only [ByteArray.size, List.size_toArray]
    omega
  clear hPA hYA hYB
  go_wp2_with fail
  refine (Mine.names HS.out M12.out [⟨#[121]⟩] rfl).mono ?_
  rintro e w13 ⟨F13, v13, rfl, hss, hM, hmv⟩
  have M13 : Hid (Mine LD W w13 q ⟨1000, [⟨⟨#[121]⟩, a, a.length⟩], false, 2⟩ F13) := hM
  have XP13 : Hid (Bs w13 v9 (a ++ b) ∧ Apart F13 v9 (a ++ b)) := XP12.out.2.moved XP12.out.1 hmv
  have XQ13 : Hid (Bs w13 v12 a ∧ Apart F13 v12 a) := XQ12.out.2.moved XQ12.out.1 hmv
  clear hM hmv
  clear k1 k2 k3 k4 hxx hzz hsum
  obtain ⟨av, kk, cc, rfl, hkk, hxx⟩ := hss
  obtain rfl : kk = 1 := hkk
  clear hxx
  go_wp2
  go_ret
  exact ⟨rfl, M13.out.below⟩
end Go.Proofs.Ytphmmdjefpfehaa
