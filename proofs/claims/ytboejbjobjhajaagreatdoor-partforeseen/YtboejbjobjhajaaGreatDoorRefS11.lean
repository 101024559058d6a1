import Derived.Test.YtboejbjobjhajaaGreatDoorWnd
import Derived.Laws.StructEq
import Derived.Laws.ResultCell
import Derived.Deep.Cut
import Derived.Deep.QuietTactic
import Derived.BigQuiet
import Derived.BigRegion
namespace Go.Proofs.YtboejbjobjhajaaGreatDoor.Pw
open Go.RowKit
set_option maxRecDepth 20000 in
set_option maxHeartbeats 1000000 in
theorem same_any (u v : Value) (ss tt : List ByteArray) (w : World) (hu : Ss w u ss) (hv : Ss w v tt) (h1 : ss.length ≤ 1000) (h2 : tt.length ≤ 1000) :
    Calls Tryz.prog 116 #[u, v] w fun e w' => e = .returned (.bool (decide (ss = tt))) ∧ Below w.heap.size w w' := by
  obtain ⟨r, hr⟩ : ∃ r, r = decide (ss = tt) := ⟨_, rfl⟩
  rw [← hr]
  have HR : Hid (r = decide (ss = tt)) := hr
  obtain ⟨av, n, c, rfl, hn, hcs⟩ := hu
  obtain ⟨bv, m, d, rfl, hm, hds⟩ := hv
  have HN : Hid (n = ss.length) := hn
  have HM : Hid (m = tt.length) := hm
  have HC : Hid (∀ (j : Nat) s, ss[j]? = some s → ∃ g o, av = some ⟨g, o, none⟩ ∧ w.cell? ⟨g, o + j, none⟩ = some (.string s)) := hcs
  have HD : Hid (∀ (j : Nat) s, tt[j]? = some s → ∃ g o, bv = some ⟨g, o, none⟩ ∧ w.cell? ⟨g, o + j, none⟩ = some (.string s)) := hds
  have hn1 : n ≤ 1000 := by omega
  have hm1 : m ≤ 1000 := by omega
  clear hn hm hcs hds h1 h2 hr
  cases hne : ((n : Int) != (m : Int)) with
  | true =>
    have hnm : ss ≠ tt := by
      intro e
      have h : (n : Int) = m := by rw [HN.out, HM.out, e]
      rw [h] at hne; simp at hne
    have HF : Hid (r = false) := by rw [HR.out]; exact decide_eq_false hnm
    clear hnm
    go_enter Tryz.func116, Tryz.ntmps116
    go_wp2
    go_ret
    exact ⟨ret_bool HF.out.symm, Below.refl _ _⟩
  | false =>
    obtain rfl : n = m := by have h : (n : Int) = m := by simpa using hne
                             omega
    clear hne
    have hne : ((n : Int) != (n : Int)) = false := by simp
    go_enter Tryz.func116, Tryz.ntmps116
    go_wp2
    go_loopw [5] (fun i wr => ∃ k : Nat, k ≤ n ∧ i = .int .i64 k ∧ ss.take k = tt.take k ∧ Below w.heap.size w wr) (fun i _ => n - (intOf i).toNat)
    case atStart => exact ⟨0, Nat.zero_le _, rfl, rfl, Below.refl _ _⟩
    case round =>
      obtain ⟨k, hk, rfl, htk, hb⟩ := hrel
      have HB : Hid (Below w.heap.size w wr) := hb
      have HT : Hid (ss.take k = tt.take k) := htk
      clear hb htk
      by_cases hlt : k < n
      · obtain ⟨x, hx⟩ : ∃ x, ss[k]? = some x := ⟨ss[k]'(by rw [← HN.out]; exact hlt), List.getElem?_eq_getElem _⟩
        obtain ⟨y, hy⟩ : ∃ y, tt[k]? = some y := ⟨tt[k]'(by rw [← HM.out]; exact hlt), List.getElem?_eq_getElem _⟩
        obtain ⟨g, o, rfl, c1⟩ := HC.out k x hx
        obtain ⟨g2, o2, rfl, c2⟩ := HD.out k y hy
        have d1 : wr.cell? ⟨g, o + k, none⟩ = some (.string x) := Below.kept HB.out c1
        have d2 : wr.cell? ⟨g2, o2 + k, none⟩ = some (.string y) := Below.kept HB.out c2
        have HX : Hid (ss[k]? = some x) := hx
        have HY : Hid (tt[k]? = some y) := hy
        clear hx hy c1 c2
        have hlt' : (k : Int) < n := by omega
        have hk0 : (0 : Int) ≤ k := by omega
        cases he : (x.toList == y.toList) with
        | true =>
          have HE : Hid (x = y) := bytes_eq he
          go_wp2
          go_region
          go_wp2
          go_roundw
          case rel => exact ⟨k + 1, by omega, by go_num, by rw [List.take_add_one, List.take_add_one, HX.out, HY.out, HT.out, HE.out], HB.out.drew⟩
          case measure => simp [intOf]; omega
        | false =>
          have HF : Hid (r = false) := by
            rw [HR.out]
            refine decide_eq_false (fun e => ?_)
            have h := HX.out
            rw [e, HY.out] at h
            rw [Option.some.inj h] at he
            simp at he
          go_wp2
          go_region
          go_wp2
          go_ret
          exact ⟨ret_bool HF.out.symm, HB.out.drew⟩
      · have HG : Hid (r = true) := by
          rw [HR.out]
          refine decide_eq_true ?_
          have h := HT.out
          rwa [List.take_of_length_le (by rw [← HN.out]; omega), List.take_of_length_le (by rw [← HM.out]; omega)] at h
        go_wp2
        go_ret
        exact ⟨ret_bool HG.out.symm, HB.out⟩
end Go.Proofs.YtboejbjobjhajaaGreatDoor.Pw
namespace Go.Proofs.YtboejbjobjhajaaGreatDoor
open Go.RowKit
set_option maxRecDepth 20000 in
set_option maxHeartbeats 4000000 in
theorem refSame_any10 (a b : Kq.Kn) (a1 a2 : Option Addr) (L1 c1 L2 c2 : Nat) (w : World) (h1 : Ss w (.slice a1 L1 c1) a.names) (h2 : Ss w (.slice a2 L2 c2) b.names) (hl1 : a.names.length ≤ 1000) (hl2 : b.names.length ≤ 1000) :
    Calls Tryz.prog 80 #[kv a (.slice a1 L1 c1), kv b (.slice a2 L2 c2)] w (BoolP (a = b) w) := by
  have hse := fun w => stat_eql a b w
  have hgu := stat_guard
  have HH : Hid (Ss w (.slice a1 L1 c1) a.names ∧ Ss w (.slice a2 L2 c2) b.names) := ⟨h1, h2⟩
  have HB2 : Hid (∀ o1 o2, Below w.heap.size w ((w.alloc o1).alloc o2)) := fun o1 o2 => ((Below.refl _ w).alloc (Nat.le_refl _) o1).alloc ((Below.refl _ w).alloc (Nat.le_refl _) o1).size o2
  have HEQ : Hid (a = b ↔ sameS a b = true ∧ a.data = b.data ∧ a.next = b.next ∧ a.names = b.names) := same_kn
  clear h1 h2
  obtain ⟨s, hs⟩ : ∃ s, s = sameS a b := ⟨_, rfl⟩
  rw [← hs] at HEQ
  simp only [← hs] at hse
  clear hs
  unfold kv
  go_enter Tryz.func80, Tryz.ntmps80
  cases s with
  | false =>
    go_wp2
    go_ret
    exact ⟨false, rfl, ⟨fun h => (by cases h), fun h => (by have := (HEQ.out.1 h).1; cases this)⟩, HB2.out _ _⟩
  | true =>
    by_cases hd : a.data.toList = b.data.toList
    · have hdb : (a.data.toList == b.data.toList) = true := by simp [hd]
      by_cases hn : a.next = b.next
      · have hnb : (a.next == b.next) = true := by simp [hn]
        go_wp2_with fail
        refine (Pw.same_any (.slice a1 L1 c1) (.slice a2 L2 c2) a.names b.names _ (HH.out.1.below (HB2.out _ _)) (HH.out.2.below (HB2.out _ _)) hl1 hl2).mono ?_
        rintro e w5 ⟨rfl, hb⟩
        have HB5 : Hid (Below w.heap.size w w5) := (HB2.out _ _).trans (hb.mono (HB2.out _ _).size)
        clear hb
        obtain ⟨r, hr⟩ : ∃ r, r = decide (a.names = b.names) := ⟨_, rfl⟩
        have HR : Hid (r = true ↔ a = b) := by
          have h : r = true ↔ a = b := by
            rw [hr, decide_eq_true_eq, HEQ.out]
            exact ⟨fun h => ⟨by simp, bytes_eq hdb, hn, h⟩, fun h => h.2.2.2⟩
          exact h
        rw [← hr]
        clear hr
        go_wp2
        go_ret
        exact ⟨r, rfl, HR.out, HB5.out⟩
      · have hnb : (a.next == b.next) = false := by simp [hn]
        go_wp2
        go_ret
        exact ⟨false, rfl, ⟨fun h => (by cases h), fun h => absurd (HEQ.out.1 h).2.2.1 hn⟩, HB2.out _ _⟩
    · have hdb : (a.data.toList == b.data.toList) = false := by simp [hd]
      go_wp2
      go_ret
      exact ⟨false, rfl, ⟨fun h => (by cases h), fun h => absurd (by rw [(HEQ.out.1 h).2.1]) hd⟩, HB2.out _ _⟩
end Go.Proofs.YtboejbjobjhajaaGreatDoor
