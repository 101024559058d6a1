/- What DiskTwice answers. -/
import Derived.Test.YtphmmdjefpfehaaLAwake7
import Derived.BigRegion
import Derived.Deep.QuietTactic
import Derived.BigQuiet
namespace Go.Proofs.Ytphmmdjefpfehaa
open Go.RowKit

set_option maxRecDepth 20000 in
set_option maxHeartbeats 4000000 in
theorem twice_any7 {LD : Rep} (S : Specs7 LD) (va vb : Value) (a b : List UInt8) (one two : Int) (W : World) (ha : Bs W va a) (hb : Bs W vb b) (hla : a.length ≤ maxLen) (hlb : b.length ≤ maxLen) (hk : (-9223372036854775808 ≤ one ∧ one ≤ 9223372036854775807) ∧ (-9223372036854775808 ≤ two ∧ two ≤ 9223372036854775807)) :
    Calls Try.prog 8 #[va, vb, .int .i64 one, .int .i64 two] W fun e w' => e = .returned (.bool true) ∧ Below W.heap.size W w' := by
  have HS : Hid (Specs7 LD) := S
  have HK : Hid ((-9223372036854775808 ≤ one ∧ one ≤ 9223372036854775807) ∧ (-9223372036854775808 ≤ two ∧ two ≤ 9223372036854775807)) := hk
  have HA0 : Hid (Bs W va a) := ha
  obtain ⟨aa, na, ca, rfl, hna, hXa⟩ := ha
  have hca : na ≤ ca := by rw [hna]; exact hXa.cap
  have HA : Hid (Bs W (.slice aa na ca) a ∧ na = a.length) := ⟨HA0.out, hna⟩
  have hna1 : na ≤ 9223372036854775807 := by unfold maxLen at hla; omega
  clear hXa hna hla HA0
  have HB0 : Hid (Bs W vb b) := hb
  obtain ⟨ab, nb, cb, rfl, hnb, hXb⟩ := hb
  have hcb : nb ≤ cb := by rw [hnb]; exact hXb.cap
  have HB : Hid (Bs W (.slice ab nb cb) b ∧ nb = b.length) := ⟨HB0.out, hnb⟩
  have hnb1 : nb ≤ 9223372036854775807 := by unfold maxLen at hlb; omega
  clear hXb hnb hlb HB0
  clear S hk
  go_enter Try.func8, Try.ntmps8
  go_wp2_with fail
  refine (awake_any7 HS.out W).mono ?_
  rintro e w0 ⟨rfl, hb⟩
  have B0 : Hid (Below W.heap.size W w0) := hb
  clear hb
  by_cases hla : 200 < na
  · have hla' : (200 : Int) < (na : Int) := by omega
    go_wp2
    go_ret
    exact ⟨rfl, B0.out⟩
  have hla' : ¬ (200 : Int) < (na : Int) := by omega
  by_cases hlb : 200 < nb
  · have hlb' : (200 : Int) < (nb : Int) := by omega
    go_wp2
    go_ret
    exact ⟨rfl, B0.out⟩
  have hlb' : ¬ (200 : Int) < (nb : Int) := by omega
  have HL : Hid (a.length ≤ 200 ∧ b.length ≤ 200) := ⟨by rw [← HA.out.2]; omega, by rw [← HB.out.2]; omega⟩
  go_wp2_with fail
  refine (mine_new HS.out B0.out 1000 (by decide)).mono ?_
  rintro e w1 ⟨q, F1, rfl, hM⟩
  have M1 : Hid (Mine LD W w1 q ⟨1000, [], false, 1⟩ F1) := hM
  clear hM
  go_wp2_with fail
  refine (Mine.append HS.out M1.out ⟨#[102]⟩ _ a (M1.out.arg HA.out.1).1 (by have := HL.out.1; omega) (M1.out.arg HA.out.1).2 (by simp) _ _ (Dq.append_new _ (by decide) (by have := HL.out.1; omega))).mono ?_
  rintro e w2 ⟨F2, rfl, hM, hmv⟩
  have M2 : Hid (Mine LD W w2 q ⟨1000, [⟨⟨#[102]⟩, a, 0⟩], false, 1⟩ F2) := hM
  clear hM hmv
  obtain ⟨x, hx⟩ : ∃ z, z = a.take (min one.toNat a.length) := ⟨_, rfl⟩
  have HX : Hid (x = a.take (min one.toNat a.length) ∧ x.length ≤ 200) := ⟨hx, by rw [hx, List.length_take]; have := HL.out.1; omega⟩
  clear hx
  go_wp2_with fail
  refine (Mine.crash HS.out M2.out one HK.out.1.1 HK.out.1.2 _ (Dq.crash_bare a one (x := x) HX.out.1)).mono ?_
  rintro e w3 ⟨F3, rfl, hM, hmv⟩
  have M3 : Hid (Mine LD W w3 q ⟨1000, [⟨⟨#[102]⟩, x, x.length⟩], true, 1⟩ F3) := hM
  clear hM hmv
  go_wp2_with fail
  refine (Mine.on HS.out M3.out (by simp) _ rfl).mono ?_
  rintro e w4 ⟨F4, rfl, hM, hmv⟩
  have M4 : Hid (Mine LD W w4 q ⟨1000, [⟨⟨#[102]⟩, x, x.length⟩], false, 2⟩ F4) := hM
  clear hM hmv
  go_wp2_with fail
  refine (Mine.read HS.out M4.out ⟨#[102]⟩ x 0 (Dq.read_one (by decide))).mono ?_
  rintro e w5 ⟨F5, v5, rfl, hbs, hap, hM, hmv⟩
  have M5 : Hid (Mine LD W w5 q ⟨1000, [⟨⟨#[102]⟩, x, x.length⟩], false, 2⟩ F5) := hM
  have XX5 : Hid (Bs w5 v5 x ∧ Apart F5 v5 x) := ⟨hbs, hap⟩
  clear hM hmv hbs hap
  go_wp2_with fail
  refine (Mine.crash HS.out M5.out two HK.out.2.1 HK.out.2.2 _ (Dq.crash_safe x two)).mono ?_
  rintro e w6 ⟨F6, rfl, hM, hmv⟩
  have M6 : Hid (Mine LD W w6 q ⟨1000, [⟨⟨#[102]⟩, x, x.length⟩], true, 2⟩ F6) := hM
  have XX6 : Hid (Bs w6 v5 x ∧ Apart F6 v5 x) := XX5.out.2.moved XX5.out.1 hmv
  clear hM hmv
  go_wp2_with fail
  refine (Mine.on HS.out M6.out (by simp) _ rfl).mono ?_
  rintro e w7 ⟨F7, rfl, hM, hmv⟩
  have M7 : Hid (Mine LD W w7 q ⟨1000, [⟨⟨#[102]⟩, x, x.length⟩], false, 3⟩ F7) := hM
  have XX7 : Hid (Bs w7 v5 x ∧ Apart F7 v5 x) := XX6.out.2.moved XX6.out.1 hmv
  clear hM hmv
  go_wp2_with fail
  refine (Mine.read HS.out M7.out ⟨#[102]⟩ x 0 (Dq.read_one (by decide))).mono ?_
  rintro e w8 ⟨F8, v8, rfl, hbs, hap, hM, hmv⟩
  have M8 : Hid (Mine LD W w8 q ⟨1000, [⟨⟨#[102]⟩, x, x.length⟩], false, 3⟩ F8) := hM
  have XX8 : Hid (Bs w8 v5 x ∧ Apart F8 v5 x) := XX7.out.2.moved XX7.out.1 hmv
  have XY8 : Hid (Bs w8 v8 x ∧ Apart F8 v8 x) := ⟨hbs, hap⟩
  clear hM hmv hbs hap
  go_wp2_with fail
  refine (Mine.append HS.out M8.out ⟨#[102]⟩ _ b (M8.out.arg HB.out.1).1 (by have := HL.out.2; omega) (M8.out.arg HB.out.1).2 (by simp) _ _ (Dq.append_one _ (by decide) (by have := HL.out; have := HX.out.2; omega))).mono ?_
  rintro e w9 ⟨F9, rfl, hM, hmv⟩
  have M9 : Hid (Mine LD W w9 q ⟨1000, [⟨⟨#[102]⟩, (x ++ b), x.length⟩], false, 3⟩ F9) := hM
  have XX9 : Hid (Bs w9 v5 x ∧ Apart F9 v5 x) := XX8.out.2.moved XX8.out.1 hmv
  have XY9 : Hid (Bs w9 v8 x ∧ Apart F9 v8 x) := XY8.out.2.moved XY8.out.1 hmv
  clear hM hmv
  go_wp2_with fail
  refine (Mine.sync HS.out M9.out ⟨#[102]⟩ _ _ (Dq.sync_one (by decide))).mono ?_
  rintro e w10 ⟨F10, rfl, hM, hmv⟩
  have M10 : Hid (Mine LD W w10 q ⟨1000, [⟨⟨#[102]⟩, (x ++ b), (x ++ b).length⟩], false, 3⟩ F10) := hM
  have XX10 : Hid (Bs w10 v5 x ∧ Apart F10 v5 x) := XX9.out.2.moved XX9.out.1 hmv
  have XY10 : Hid (Bs w10 v8 x ∧ Apart F10 v8 x) := XY9.out.2.moved XY9.out.1 hmv
  clear hM hmv
  go_wp2_with fail
  refine (Mine.crash HS.out M10.out 0 (by decide) (by decide) _ (Dq.crash_safe (x ++ b) 0)).mono ?_
  rintro e w11 ⟨F11, rfl, hM, hmv⟩
  have M11 : Hid (Mine LD W w11 q ⟨1000, [⟨⟨#[102]⟩, (x ++ b), (x ++ b).length⟩], true, 3⟩ F11) := hM
  have XX11 : Hid (Bs w11 v5 x ∧ Apart F11 v5 x) := XX10.out.2.moved XX10.out.1 hmv
  have XY11 : Hid (Bs w11 v8 x ∧ Apart F11 v8 x) := XY10.out.2.moved XY10.out.1 hmv
  clear hM hmv
  go_wp2_with fail
  refine (Mine.on HS.out M11.out (by simp) _ rfl).mono ?_
  rintro e w12 ⟨F12, rfl, hM, hmv⟩
  have M12 : Hid (Mine LD W w12 q ⟨1000, [⟨⟨#[102]⟩, (x ++ b), (x ++ b).length⟩], false, 4⟩ F12) := hM
  have XX12 : Hid (Bs w12 v5 x ∧ Apart F12 v5 x) := XX11.out.2.moved XX11.out.1 hmv
  have XY12 : Hid (Bs w12 v8 x ∧ Apart F12 v8 x) := XY11.out.2.moved XY11.out.1 hmv
  clear hM hmv
  go_wp2_with fail
  refine (Mine.read HS.out M12.out ⟨#[102]⟩ (x ++ b) 0 (Dq.read_one (by decide))).mono ?_
  rintro e w13 ⟨F13, v13, rfl, hbs, hap, hM, hmv⟩
  have M13 : Hid (Mine LD W w13 q ⟨1000, [⟨⟨#[102]⟩, (x ++ b), (x ++ b).length⟩], false, 4⟩ F13) := hM
  have XX13 : Hid (Bs w13 v5 x ∧ Apart F13 v5 x) := XX12.out.2.moved XX12.out.1 hmv
  have XY13 : Hid (Bs w13 v8 x ∧ Apart F13 v8 x) := XY12.out.2.moved XY12.out.1 hmv
  have XZ13 : Hid (Bs w13 v13 (x ++ b) ∧ Apart F13 v13 (x ++ b)) := ⟨hbs, hap⟩
  clear hM hmv hbs hap
  obtain ⟨XA, hXA⟩ : ∃ z : ByteArray, z = ⟨x.toArray⟩ := ⟨_, rfl⟩
  obtain ⟨YB, hYB⟩ : ∃ z : ByteArray, z = ⟨b.toArray⟩ := ⟨_, rfl⟩
  obtain ⟨ZA, hZA⟩ : ∃ z : ByteArray, z = ⟨(x ++ b).toArray⟩ := ⟨_, rfl⟩
  have k1 : (convert 28 9 v5).run Try.prog w13 = .ok (.string XA) w13 := by rw [hXA]; exact XX13.out.1.conv
  have k2 : (convert 28 9 v8).run Try.prog w13 = .ok (.string XA) w13 := by rw [hXA]; exact XY13.out.1.conv
  have k3 : (convert 28 9 v13).run Try.prog w13 = .ok (.string ZA) w13 := by rw [hZA]; exact XZ13.out.1.conv
  have k4 : (convert 28 9 (.slice ab nb cb)).run Try.prog w13 = .ok (.string YB) w13 := by rw [hYB]; exact (HB.out.1.below M13.out.below).conv
  have hxx : (XA.toList == XA.toList) = true := by simp
  have hzz : (ZA.toList == (XA ++ YB).toList) = true := by
    rw [hZA, hXA, hYB]
    simp [ByteArray.toList_eq]
  have hsum : ¬ (9223372036854775807 < XA.size + YB.size) := by
    have h1 := HL.out
    have h2 := HX.out.2
    rw [hXA, hYB]
    simp only [ByteArray.size, List.size_toArray]
    omega
  clear hXA hYB hZA
  go_wp2_with fail
  refine (Mine.lives HS.out M13.out 4 rfl).mono ?_
  rintro e w14 ⟨F14, rfl, hM, hmv⟩
  have M14 : Hid (Mine LD W w14 q ⟨1000, [⟨⟨#[102]⟩, (x ++ b), (x ++ b).length⟩], false, 4⟩ F14) := hM
  have XX14 : Hid (Bs w14 v5 x ∧ Apart F14 v5 x) := XX13.out.2.moved XX13.out.1 hmv
  have XY14 : Hid (Bs w14 v8 x ∧ Apart F14 v8 x) := XY13.out.2.moved XY13.out.1 hmv
  have XZ14 : Hid (Bs w14 v13 (x ++ b) ∧ Apart F14 v13 (x ++ b)) := XZ13.out.2.moved XZ13.out.1 hmv
  clear hM hmv
  clear k1 k2 k3 k4 hxx hzz hsum
  go_wp2
  go_ret
  exact ⟨rfl, M14.out.below⟩
end Go.Proofs.Ytphmmdjefpfehaa
