/- What DiskSafe answers. -/
import Derived.Test.YtphmmdjefpfehaaLAwake7
import Derived.BigRegion
import Derived.Deep.QuietTactic
import Derived.BigQuiet
namespace Go.Proofs.Ytphmmdjefpfehaa
open Go.RowKit

set_option maxRecDepth 20000 in
set_option maxHeartbeats 4000000 in
theorem safe_any7 {LD : Rep} (S : Specs7 LD) (va vb : Value) (a b : List UInt8) (keep : Int) (W : World) (ha : Bs W va a) (hb : Bs W vb b) (hla : a.length ≤ maxLen) (hlb : b.length ≤ maxLen) (hk : -9223372036854775808 ≤ keep ∧ keep ≤ 9223372036854775807) :
    Calls Try.prog 5 #[va, vb, .int .i64 keep] W fun e w' => e = .returned (.bool true) ∧ Below W.heap.size W w' := by
  have HS : Hid (Specs7 LD) := S
  have HK : Hid (-9223372036854775808 ≤ keep ∧ keep ≤ 9223372036854775807) := hk
  have HA0 : Hid (Bs W va a) := ha
  obtain ⟨aa, na, ca, rfl, hna, hXa⟩ := ha
  have hca : na ≤ ca := by rw [hna]; exact hXa.cap
  have HA : Hid (Bs W (.slice aa na ca) a ∧ na = a.length) := ⟨HA0.out, hna⟩
  have hna1 : na ≤ 9223372036854775807 := by unfold maxLen at hla; omega
  clear hXa hna hla HA0
  have HB0 : Hid (Bs W vb b) := hb
  obtain ⟨ab, nb, cb, rfl, hnb, hXb⟩ := hb
  have hcb : nb ≤ cb := by rw [hnb]; exact hXb.cap
  have HB : Hid (Bs W (.slice ab nb cb) b ∧ nb = b.length) := ⟨HB0.out, hnb⟩
  have hnb1 : nb ≤ 9223372036854775807 := by unfold maxLen at hlb; omega
  clear hXb hnb hlb HB0
  clear S hk
  go_enter Try.func5, Try.ntmps5
  go_wp2_with fail
  refine (awake_any7 HS.out W).mono ?_
  rintro e w0 ⟨rfl, hb⟩
  have B0 : Hid (Below W.heap.size W w0) := hb
  clear hb
  by_cases hla : 300 < na
  · have hla' : (300 : Int) < (na : Int) := by omega
    go_wp2
    go_ret
    exact ⟨rfl, B0.out⟩
  have hla' : ¬ (300 : Int) < (na : Int) := by omega
  by_cases hlb : 300 < nb
  · have hlb' : (300 : Int) < (nb : Int) := by omega
    go_wp2
    go_ret
    exact ⟨rfl, B0.out⟩
  have hlb' : ¬ (300 : Int) < (nb : Int) := by omega
  have HL : Hid (a.length ≤ 300 ∧ b.length ≤ 300) := ⟨by rw [← HA.out.2]; omega, by rw [← HB.out.2]; omega⟩
  go_wp2_with fail
  refine (mine_new HS.out B0.out 1000 (by decide)).mono ?_
  rintro e w1 ⟨q, F1, rfl, hM⟩
  have M1 : Hid (Mine LD W w1 q ⟨1000, [], false, 1⟩ F1) := hM
  clear hM
  go_wp2_with fail
  refine (Mine.append HS.out M1.out ⟨#[102]⟩ _ a (M1.out.arg HA.out.1).1 (by have := HL.out.1; omega) (M1.out.arg HA.out.1).2 (by simp) _ _ (Dq.append_new _ (by decide) (by have := HL.out.1; omega))).mono ?_
  rintro e w2 ⟨F2, rfl, hM, hmv⟩
  have M2 : Hid (Mine LD W w2 q ⟨1000, [⟨⟨#[102]⟩, a, 0⟩], false, 1⟩ F2) := hM
  clear hM hmv
  go_wp2_with fail
  refine (Mine.sync HS.out M2.out ⟨#[102]⟩ _ _ (Dq.sync_one (by decide))).mono ?_
  rintro e w3 ⟨F3, rfl, hM, hmv⟩
  have M3 : Hid (Mine LD W w3 q ⟨1000, [⟨⟨#[102]⟩, a, a.length⟩], false, 1⟩ F3) := hM
  clear hM hmv
  go_wp2_with fail
  refine (Mine.append HS.out M3.out ⟨#[102]⟩ _ b (M3.out.arg HB.out.1).1 (by have := HL.out.2; omega) (M3.out.arg HB.out.1).2 (by simp) _ _ (Dq.append_one _ (by decide) (by have := HL.out; omega))).mono ?_
  rintro e w4 ⟨F4, rfl, hM, hmv⟩
  have M4 : Hid (Mine LD W w4 q ⟨1000, [⟨⟨#[102]⟩, (a ++ b), a.length⟩], false, 1⟩ F4) := hM
  clear hM hmv
  go_wp2_with fail
  refine (Mine.crash HS.out M4.out keep HK.out.1 HK.out.2 _ (Dq.crash_one a b keep false)).mono ?_
  rintro e w5 ⟨F5, rfl, hM, hmv⟩
  have M5 : Hid (Mine LD W w5 q ⟨1000, [⟨⟨#[102]⟩, (a ++ b.take (min keep.toNat b.length)), (a.length + min keep.toNat b.length)⟩], true, 1⟩ F5) := hM
  clear hM hmv
  go_wp2_with fail
  refine (Mine.on HS.out M5.out (by simp) _ rfl).mono ?_
  rintro e w6 ⟨F6, rfl, hM, hmv⟩
  have M6 : Hid (Mine LD W w6 q ⟨1000, [⟨⟨#[102]⟩, (a ++ b.take (min keep.toNat b.length)), (a.length + min keep.toNat b.length)⟩], false, 2⟩ F6) := hM
  clear hM hmv
  go_wp2_with fail
  refine (Mine.read HS.out M6.out ⟨#[102]⟩ (a ++ b.take (min keep.toNat b.length)) 0 (Dq.read_one (by decide))).mono ?_
  rintro e w7 ⟨F7, v7, rfl, hbs, hap, hM, hmv⟩
  have M7 : Hid (Mine LD W w7 q ⟨1000, [⟨⟨#[102]⟩, (a ++ b.take (min keep.toNat b.length)), (a.length + min keep.toNat b.length)⟩], false, 2⟩ F7) := hM
  have XX7 : Hid (Bs w7 v7 (a ++ b.take (min keep.toNat b.length)) ∧ Apart F7 v7 (a ++ b.take (min keep.toNat b.length))) := ⟨hbs, hap⟩
  clear hM hmv hbs hap
  by_cases h1 : keep < (nb : Int)
  · by_cases h2 : keep < 0
    · obtain ⟨XA, hXA⟩ : ∃ z : ByteArray, z = ⟨(a ++ b.take (min keep.toNat b.length)).toArray⟩ := ⟨_, rfl⟩
      obtain ⟨YA, hYA⟩ : ∃ z : ByteArray, z = ⟨a.toArray⟩ := ⟨_, rfl⟩
      obtain ⟨YB, hYB⟩ : ∃ z : ByteArray, z = ⟨(b.take (min keep.toNat b.length)).toArray⟩ := ⟨_, rfl⟩
      have k1 : ∀ z, (convert 28 9 v7).run Try.prog (w7.drewN z) = .ok (.string XA) (w7.drewN z) := fun z => by rw [hXA]; exact (XX7.out.1.below (below_drewN (Below.refl _ w7) z)).conv
      have k2 : ∀ z, (convert 28 9 (.slice aa na ca)).run Try.prog (w7.drewN z) = .ok (.string YA) (w7.drewN z) := fun z => by rw [hYA]; exact (HA.out.1.below (below_drewN M7.out.below z)).conv
      have k3 : ∀ z, (convert 28 9 (.slice ab 0 cb)).run Try.prog (w7.drewN z) = .ok (.string YB) (w7.drewN z) := fun z => by
        rw [hYB]
        have h := (HB.out.1.below (below_drewN M7.out.below z)).cut (k := 0) (by omega)
        have e : 0 = min keep.toNat b.length := by rw [← HB.out.2]; omega
        rw [← e]
        exact h.conv
      have hxy : (XA.toList == (YA ++ YB).toList) = true := by
        rw [hXA, hYA, hYB]
        simp [ByteArray.toList_eq]
      have hcap : (0 : Int) ≤ (cb : Int) := by omega
      have hsum : ¬ (9223372036854775807 < YA.size + YB.size) := by
        have h1 := HL.out
        rw [hYA, hYB]
        simp only [ByteArray.size, List.size_toArray, List.length_take]
        omega
      clear hXA hYA hYB
      have hz : ¬ (0 : Int) < 0 := by omega
      go_wp2
      go_quiet (fail)
      go_wp2
      go_ret
      exact ⟨rfl, below_drewN M7.out.below _⟩
    · have hk0 : 0 ≤ keep := by omega
      obtain ⟨N0, rfl⟩ : ∃ z : Nat, keep = (z : Int) := ⟨keep.toNat, by omega⟩
      obtain ⟨XA, hXA⟩ : ∃ z : ByteArray, z = ⟨(a ++ b.take (min (N0 : Int).toNat b.length)).toArray⟩ := ⟨_, rfl⟩
      obtain ⟨YA, hYA⟩ : ∃ z : ByteArray, z = ⟨a.toArray⟩ := ⟨_, rfl⟩
      obtain ⟨YB, hYB⟩ : ∃ z : ByteArray, z = ⟨(b.take (min (N0 : Int).toNat b.length)).toArray⟩ := ⟨_, rfl⟩
      have k1 : ∀ z, (convert 28 9 v7).run Try.prog (w7.drewN z) = .ok (.string XA) (w7.drewN z) := fun z => by rw [hXA]; exact (XX7.out.1.below (below_drewN (Below.refl _ w7) z)).conv
      have k2 : ∀ z, (convert 28 9 (.slice aa na ca)).run Try.prog (w7.drewN z) = .ok (.string YA) (w7.drewN z) := fun z => by rw [hYA]; exact (HA.out.1.below (below_drewN M7.out.below z)).conv
      have k3 : ∀ z, (convert 28 9 (.slice ab N0 cb)).run Try.prog (w7.drewN z) = .ok (.string YB) (w7.drewN z) := fun z => by
        rw [hYB]
        have h := (HB.out.1.below (below_drewN M7.out.below z)).cut (k := N0) (by omega)
        have e : N0 = min (N0 : Int).toNat b.length := by rw [← HB.out.2]; omega
        rw [← e]
        exact h.conv
      have hxy : (XA.toList == (YA ++ YB).toList) = true := by
        rw [hXA, hYA, hYB]
        simp [ByteArray.toList_eq]
      have hcap : (N0 : Int) ≤ (cb : Int) := by omega
      have hsum : ¬ (9223372036854775807 < YA.size + YB.size) := by
        have h1 := HL.out
        rw [hYA, hYB]
        simp only [ByteArray.size, List.size_toArray, List.length_take]
        omega
      clear hXA hYA hYB
      have hz : ¬ (N0 : Int) < 0 := by omega
      have hz2 : (N0 : Int) ≤ (nb : Int) := by omega
      go_wp2
      go_quiet (fail)
      go_wp2
      go_ret
      exact ⟨rfl, below_drewN M7.out.below _⟩
  · obtain ⟨XA, hXA⟩ : ∃ z : ByteArray, z = ⟨(a ++ b.take (min keep.toNat b.length)).toArray⟩ := ⟨_, rfl⟩
    obtain ⟨YA, hYA⟩ : ∃ z : ByteArray, z = ⟨a.toArray⟩ := ⟨_, rfl⟩
    obtain ⟨YB, hYB⟩ : ∃ z : ByteArray, z = ⟨(b.take (min keep.toNat b.length)).toArray⟩ := ⟨_, rfl⟩
    have k1 : ∀ z, (convert 28 9 v7).run Try.prog (w7.drewN z) = .ok (.string XA) (w7.drewN z) := fun z => by rw [hXA]; exact (XX7.out.1.below (below_drewN (Below.refl _ w7) z)).conv
    have k2 : ∀ z, (convert 28 9 (.slice aa na ca)).run Try.prog (w7.drewN z) = .ok (.string YA) (w7.drewN z) := fun z => by rw [hYA]; exact (HA.out.1.below (below_drewN M7.out.below z)).conv
    have k3 : ∀ z, (convert 28 9 (.slice ab nb cb)).run Try.prog (w7.drewN z) = .ok (.string YB) (w7.drewN z) := fun z => by
      rw [hYB]
      have h := (HB.out.1.below (below_drewN M7.out.below z)).cut (k := nb) (by omega)
      have e : nb = min keep.toNat b.length := by rw [← HB.out.2]; omega
      rw [← e]
      exact h.conv
    have hxy : (XA.toList == (YA ++ YB).toList) = true := by
      rw [hXA, hYA, hYB]
      simp [ByteArray.toList_eq]
    have hcap : (nb : Int) ≤ (cb : Int) := by omega
    have hsum : ¬ (9223372036854775807 < YA.size + YB.size) := by
      have h1 := HL.out
      rw [hYA, hYB]
      simp only [ByteArray.size, List.size_toArray, List.length_take]
      omega
    clear hXA hYA hYB
    have hz : ¬ (nb : Int) < 0 := by omega
    go_wp2
    go_quiet (fail)
    go_wp2
    go_ret
    exact ⟨rfl, below_drewN M7.out.below _⟩
end Go.Proofs.Ytphmmdjefpfehaa
