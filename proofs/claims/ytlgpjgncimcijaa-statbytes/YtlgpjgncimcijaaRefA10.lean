/- What the reference's nd, more, Write and Same answer. -/
import Derived.Test.YtlgpjgncimcijaaLNames10
import Derived.Test.YtlgpjgncimcijaaActs10
import Derived.Test.YtlgpjgncimcijaaLibV
import Derived.Test.YtlgpjgncimcijaaNm10
import Derived.Laws.StructEq
import Derived.Laws.ResultCell
import Derived.Deep.Cut
namespace Go.Proofs.Ytlgpjgncimcijaa
open Go.RowKit

set_option maxRecDepth 20000 in
set_option maxHeartbeats 4000000 in
theorem nd_any10 (n : Kq.Kn) (a : Option Addr) (L c : Nat) (w : World) :
    Calls Try.prog 20 #[kv n (.slice a L c)] w fun e w' => e = .returned (kv n (.slice a L c)) ∧ Below w.heap.size w w' := by
  unfold kv
  go_enter Try.func20, Try.ntmps20
  go_wp2
  refine bodyPost_ret (v := .agg #[.int .i64 n.made, .int .i64 n.changed, .int .i64 n.ver, .int .i64 n.kids, .int .i64 n.owner, .int .i64 n.len, .int .i64 n.cnt, .string n.data, .int .i64 n.next, .slice a L c]) ?_ rfl ⟨rfl, ?_⟩
  · rw [results_one10 rfl]
    go_simp
  · exact ((Below.refl _ w).alloc (Nat.le_refl _) _).alloc ((Below.refl _ w).alloc (Nat.le_refl _) _).size _

set_option maxRecDepth 20000 in
set_option maxHeartbeats 1000000 in
theorem refMore_any (z : Int) (w : World) (hz : -9223372036854775808 ≤ z ∧ z ≤ 9223372036854775807) :
    Calls Try.prog 40 #[.int .i64 z] w fun e w' => e = .returned (.int .i64 (Kq.more z)) ∧ w' = w := by
  unfold Kq.more
  by_cases h : 2147483647 ≤ z
  · rw [if_pos h]
    go_enter Try.func40, Try.ntmps40
    go_wp2
    go_ret
    exact ⟨rfl, rfl⟩
  · rw [if_neg h]
    have hw : IntKind.wrap .i64 (z + 1) = z + 1 := by rw [IntKind.wrap_i64]; omega
    go_enter Try.func40, Try.ntmps40
    go_wp2
    go_ret
    exact ⟨rfl, rfl⟩

set_option maxRecDepth 20000 in
set_option maxHeartbeats 4000000 in
theorem refWrite_any (n : Kq.Kn) (a : Option Addr) (L c : Nat) (z : Int) (d : ByteArray) (w : World) (hv : -9223372036854775808 ≤ n.ver ∧ n.ver ≤ 9223372036854775807) :
    Calls Try.prog 21 #[kv n (.slice a L c), .int .i64 z, .string d] w fun e w' => e = .returned (kv (Kq.write n z d) (.slice a L c)) ∧ Below w.heap.size w w' := by
  unfold kv Kq.write
  have HM : Hid (∀ w, Calls Try.prog 40 #[.int .i64 n.ver] w fun e w' => e = .returned (.int .i64 (Kq.more n.ver)) ∧ w' = w) := fun w => refMore_any n.ver w hv
  simp only []
  go_enter Try.func21, Try.ntmps21
  go_wp2_with fail
  refine (HM.out _).mono ?_
  rintro e w1 ⟨rfl, hw⟩
  rw [hw]
  clear hw w1
  go_wp2
  refine bodyPost_ret (v := .agg #[.int .i64 n.made, .int .i64 z, .int .i64 (Kq.more n.ver), .int .i64 n.kids, .int .i64 n.owner, .int .i64 (d.size : Int), .int .i64 n.cnt, .string d, .int .i64 n.next, .slice a L c]) ?_ rfl ⟨rfl, ?_⟩
  · rw [results_one10 rfl]
    go_simp
  · exact ((Below.refl _ w).alloc (Nat.le_refl _) _).alloc ((Below.refl _ w).alloc (Nat.le_refl _) _).size _

set_option maxRecDepth 20000 in
set_option maxHeartbeats 4000000 in
theorem refSame_any10 (a b : Kq.Kn) (a1 a2 : Option Addr) (L1 c1 L2 c2 : Nat) (w : World) (h1 : Ss w (.slice a1 L1 c1) a.names) (h2 : Ss w (.slice a2 L2 c2) b.names) (hl1 : a.names.length ≤ 1000) (hl2 : b.names.length ≤ 1000) :
    Calls Try.prog 24 #[kv a (.slice a1 L1 c1), kv b (.slice a2 L2 c2)] w (BoolP (a = b) w) := by
  have hse := fun w => stat_eql a b w
  have hgu := stat_guard
  have HH : Hid (Ss w (.slice a1 L1 c1) a.names ∧ Ss w (.slice a2 L2 c2) b.names) := ⟨h1, h2⟩
  have HB2 : Hid (∀ o1 o2, Below w.heap.size w ((w.alloc o1).alloc o2)) := fun o1 o2 => ((Below.refl _ w).alloc (Nat.le_refl _) o1).alloc ((Below.refl _ w).alloc (Nat.le_refl _) o1).size o2
  have HEQ : Hid (a = b ↔ sameS a b = true ∧ a.data = b.data ∧ a.next = b.next ∧ a.names = b.names) := same_kn
  clear h1 h2
  obtain ⟨s, hs⟩ : ∃ s, s = sameS a b := ⟨_, rfl⟩
  rw [← hs] at HEQ
  simp only [← hs] at hse
  clear hs
  unfold kv
  go_enter Try.func24, Try.ntmps24
  cases s with
  | false =>
    go_wp2
    go_ret
    exact ⟨false, rfl, ⟨fun h => (by cases h), fun h => (by have := (HEQ.out.1 h).1; cases this)⟩, HB2.out _ _⟩
  | true =>
    by_cases hd : a.data.toList = b.data.toList
    · have hdb : (a.data.toList == b.data.toList) = true := by simp [hd]
      by_cases hn : a.next = b.next
      · have hnb : (a.next == b.next) = true := by simp [hn]
        go_wp2_with fail
        refine (Pw.same_any (.slice a1 L1 c1) (.slice a2 L2 c2) a.names b.names _ (HH.out.1.below (HB2.out _ _)) (HH.out.2.below (HB2.out _ _)) hl1 hl2).mono ?_
        rintro e w5 ⟨rfl, hb⟩
        have HB5 : Hid (Below w.heap.size w w5) := (HB2.out _ _).trans (hb.mono (HB2.out _ _).size)
        clear hb
        obtain ⟨r, hr⟩ : ∃ r, r = decide (a.names = b.names) := ⟨_, rfl⟩
        have HR : Hid (r = true ↔ a = b) := by
          have h : r = true ↔ a = b := by
            rw [hr, decide_eq_true_eq, HEQ.out]
            exact ⟨fun h => ⟨by simp, bytes_eq hdb, hn, h⟩, fun h => h.2.2.2⟩
          exact h
        rw [← hr]
        clear hr
        go_wp2
        go_ret
        exact ⟨r, rfl, HR.out, HB5.out⟩
      · have hnb : (a.next == b.next) = false := by simp [hn]
        go_wp2
        go_ret
        exact ⟨false, rfl, ⟨fun h => (by cases h), fun h => absurd (HEQ.out.1 h).2.2.1 hn⟩, HB2.out _ _⟩
    · have hdb : (a.data.toList == b.data.toList) = false := by simp [hd]
      go_wp2
      go_ret
      exact ⟨false, rfl, ⟨fun h => (by cases h), fun h => absurd (by rw [(HEQ.out.1 h).2.1]) hd⟩, HB2.out _ _⟩
end Go.Proofs.Ytlgpjgncimcijaa
