/- What the landed stat.Same and stat.rise answer. -/
import Derived.Test.YtpidafpaffpnaaaGreatDoorWnd
import Derived.Test.YtpidafpaffpnaaaGreatDoorSpecB10
import Derived.Test.YtpidafpaffpnaaaGreatDoorLjr
namespace Go.Proofs.YtpidafpaffpnaaaGreatDoor
open Go.RowKit

set_option maxRecDepth 20000 in
set_option maxHeartbeats 1000000 in
theorem slEq_any (u v : Value) (ss tt : List ByteArray) (w : World) (hu : Ss w u ss) (hv : Ss w v tt) (h1 : ss.length ≤ 1000) (h2 : tt.length ≤ 1000) :
    Calls Tryz.prog 88 #[u, v] w fun e w' => e = .returned (.bool (decide (ss = tt))) ∧ Below w.heap.size w w' := by
  obtain ⟨r, hr⟩ : ∃ r, r = decide (ss = tt) := ⟨_, rfl⟩
  rw [← hr]
  have HR : Hid (r = decide (ss = tt)) := hr
  obtain ⟨av, n, c, rfl, hn, hcs⟩ := hu
  obtain ⟨bv, m, d, rfl, hm, hds⟩ := hv
  have HN : Hid (n = ss.length) := hn
  have HM : Hid (m = tt.length) := hm
  have HC : Hid (∀ (j : Nat) s, ss[j]? = some s → ∃ g o, av = some ⟨g, o, none⟩ ∧ w.cell? ⟨g, o + j, none⟩ = some (.string s)) := hcs
  have HD : Hid (∀ (j : Nat) s, tt[j]? = some s → ∃ g o, bv = some ⟨g, o, none⟩ ∧ w.cell? ⟨g, o + j, none⟩ = some (.string s)) := hds
  have hn1 : n ≤ 1000 := by omega
  have hm1 : m ≤ 1000 := by omega
  clear hn hm hcs hds h1 h2 hr
  cases hne : ((n : Int) != (m : Int)) with
  | true =>
    have hnm : ss ≠ tt := by
      intro e
      have h : (n : Int) = m := by rw [HN.out, HM.out, e]
      rw [h] at hne; simp at hne
    have HF : Hid (r = false) := by rw [HR.out]; exact decide_eq_false hnm
    clear hnm
    go_enter Tryz.func88, Tryz.ntmps88
    go_wp2
    go_ret
    exact ⟨ret_bool HF.out.symm, Below.refl _ _⟩
  | false =>
    obtain rfl : n = m := by have h : (n : Int) = m := by simpa using hne
                             omega
    clear hne
    have hne : ((n : Int) != (n : Int)) = false := by simp
    go_enter Tryz.func88, Tryz.ntmps88
    go_wp2
    go_loopw [13] (fun i wr => ∃ k : Nat, k ≤ n ∧ i = .int .i64 k ∧ ss.take k = tt.take k ∧ Below w.heap.size w wr) (fun i _ => n - (intOf i).toNat)
    case atStart => exact ⟨0, Nat.zero_le _, rfl, rfl, Below.refl _ _⟩
    case round =>
      obtain ⟨k, hk, rfl, htk, hb⟩ := hrel
      have HB : Hid (Below w.heap.size w wr) := hb
      have HT : Hid (ss.take k = tt.take k) := htk
      clear hb htk
      by_cases hlt : k < n
      · obtain ⟨x, hx⟩ : ∃ x, ss[k]? = some x := ⟨ss[k]'(by rw [← HN.out]; exact hlt), List.getElem?_eq_getElem _⟩
        obtain ⟨y, hy⟩ : ∃ y, tt[k]? = some y := ⟨tt[k]'(by rw [← HM.out]; exact hlt), List.getElem?_eq_getElem _⟩
        obtain ⟨g, o, rfl, c1⟩ := HC.out k x hx
        obtain ⟨g2, o2, rfl, c2⟩ := HD.out k y hy
        have d1 : wr.cell? ⟨g, o + k, none⟩ = some (.string x) := Below.kept HB.out c1
        have d2 : wr.cell? ⟨g2, o2 + k, none⟩ = some (.string y) := Below.kept HB.out c2
        have HX : Hid (ss[k]? = some x) := hx
        have HY : Hid (tt[k]? = some y) := hy
        clear hx hy c1 c2
        have hlt' : (k : Int) < n := by omega
        have hk0 : (0 : Int) ≤ k := by omega
        cases he : (x.toList == y.toList) with
        | true =>
          have HE : Hid (x = y) := bytes_eq he
          go_wp2
          go_region
          go_wp2
          go_roundw
          case rel => exact ⟨k + 1, by omega, by go_num, by rw [List.take_add_one, List.take_add_one, HX.out, HY.out, HT.out, HE.out], HB.out.drew⟩
          case measure => simp [intOf]; omega
        | false =>
          have HF : Hid (r = false) := by
            rw [HR.out]
            refine decide_eq_false (fun e => ?_)
            have h := HX.out
            rw [e, HY.out] at h
            rw [Option.some.inj h] at he
            simp at he
          go_wp2
          go_region
          go_wp2
          go_ret
          exact ⟨ret_bool HF.out.symm, HB.out.drew⟩
      · have HG : Hid (r = true) := by
          rw [HR.out]
          refine decide_eq_true ?_
          have h := HT.out
          rwa [List.take_of_length_le (by rw [← HN.out]; omega), List.take_of_length_le (by rw [← HM.out]; omega)] at h
        go_wp2
        go_ret
        exact ⟨ret_bool HG.out.symm, HB.out⟩

set_option maxRecDepth 20000 in
set_option maxHeartbeats 4000000 in
theorem same_core10 (a b : Kq.Kn) (a1 a2 : Option Addr) (L1 c1 L2 c2 : Nat) (w : World) (h1 : Ss w (.slice a1 L1 c1) a.names) (h2 : Ss w (.slice a2 L2 c2) b.names) (hl1 : a.names.length ≤ 1000) (hl2 : b.names.length ≤ 1000) :
    Calls Tryz.prog 89 #[kv a (.slice a1 L1 c1), kv b (.slice a2 L2 c2)] w (BoolP (a = b) w) := by
  have hse := fun w => stat_eql a b w
  have hgu := stat_guard
  have HH : Hid (Ss w (.slice a1 L1 c1) a.names ∧ Ss w (.slice a2 L2 c2) b.names) := ⟨h1, h2⟩
  have HB2 : Hid (∀ o1 o2, Below w.heap.size w ((w.alloc o1).alloc o2)) := fun o1 o2 => ((Below.refl _ w).alloc (Nat.le_refl _) o1).alloc ((Below.refl _ w).alloc (Nat.le_refl _) o1).size o2
  have HEQ : Hid (a = b ↔ sameS a b = true ∧ a.data = b.data ∧ a.next = b.next ∧ a.names = b.names) := same_kn
  clear h1 h2
  obtain ⟨s, hs⟩ : ∃ s, s = sameS a b := ⟨_, rfl⟩
  rw [← hs] at HEQ
  simp only [← hs] at hse
  clear hs
  unfold kv
  go_enter Tryz.func89, Tryz.ntmps89
  cases s with
  | false =>
    go_wp2
    go_ret
    exact ⟨false, rfl, ⟨fun h => (by cases h), fun h => (by have := (HEQ.out.1 h).1; cases this)⟩, HB2.out _ _⟩
  | true =>
    by_cases hd : a.data.toList = b.data.toList
    · have hdb : (a.data.toList == b.data.toList) = true := by simp [hd]
      by_cases hn : a.next = b.next
      · have hnb : (a.next == b.next) = true := by simp [hn]
        go_wp2_with fail
        refine (slEq_any (.slice a1 L1 c1) (.slice a2 L2 c2) a.names b.names _ (HH.out.1.below (HB2.out _ _)) (HH.out.2.below (HB2.out _ _)) hl1 hl2).mono ?_
        rintro e w5 ⟨rfl, hb⟩
        have HB5 : Hid (Below w.heap.size w w5) := (HB2.out _ _).trans (hb.mono (HB2.out _ _).size)
        clear hb
        obtain ⟨r, hr⟩ : ∃ r, r = decide (a.names = b.names) := ⟨_, rfl⟩
        have HR : Hid (r = true ↔ a = b) := by
          have h : r = true ↔ a = b := by
            rw [hr, decide_eq_true_eq, HEQ.out]
            exact ⟨fun h => ⟨by simp, bytes_eq hdb, hn, h⟩, fun h => h.2.2.2⟩
          exact h
        rw [← hr]
        clear hr
        go_wp2
        go_ret
        exact ⟨r, rfl, HR.out, HB5.out⟩
      · have hnb : (a.next == b.next) = false := by simp [hn]
        go_wp2
        go_ret
        exact ⟨false, rfl, ⟨fun h => (by cases h), fun h => absurd (HEQ.out.1 h).2.2.1 hn⟩, HB2.out _ _⟩
    · have hdb : (a.data.toList == b.data.toList) = false := by simp [hd]
      go_wp2
      go_ret
      exact ⟨false, rfl, ⟨fun h => (by cases h), fun h => absurd (by rw [(HEQ.out.1 h).2.1]) hd⟩, HB2.out _ _⟩
theorem same_any10 (a b : Kq.Kn) (u v : Value) (w : World) (h1 : Ss w u a.names) (h2 : Ss w v b.names) (hl1 : a.names.length ≤ 1000) (hl2 : b.names.length ≤ 1000) :
    Calls Tryz.prog 89 #[kv a u, kv b v] w (BoolP (a = b) w) := by
  obtain ⟨a1, L1, c1, rfl, e1, hc1⟩ := h1
  obtain ⟨a2, L2, c2, rfl, e2, hc2⟩ := h2
  exact same_core10 a b a1 a2 L1 c1 L2 c2 w ⟨_, _, _, rfl, e1, hc1⟩ ⟨_, _, _, rfl, e2, hc2⟩ hl1 hl2

set_option maxRecDepth 20000 in
set_option maxHeartbeats 2000000 in
theorem rise_any10 (u : Value) (ss : List ByteArray) (w : World) (h : Ss w u ss) (hN : ss.length ≤ 100000) :
    Calls Tryz.prog 185 #[u] w (BoolP (Kq.Rises ss) w) := by
  obtain ⟨av, N, c, rfl, hk, hc⟩ := h
  have HC : Hid ((∀ (j : Nat) s, ss[j]? = some s → ∃ g o, av = some ⟨g, o, none⟩ ∧ w.cell? ⟨g, o + j, none⟩ = some (.string s)) ∧ N = ss.length) := ⟨hc, hk⟩
  have hN1 : N ≤ 100000 := by omega
  clear hc hk hN
  go_enter Tryz.func185, Tryz.ntmps185
  go_wp2
  go_loopw [3] (fun i wr => ∃ k : Nat, 0 < k ∧ (k ≤ N ∨ k = 1) ∧ i = .int .i64 (k : Int) ∧ Kq.Rises (ss.take k) ∧ Below w.heap.size w wr) (fun i _ => N + 1 - (intOf i).toNat)
  case atStart =>
    refine ⟨1, by decide, Or.inr rfl, rfl, ?_, Below.refl _ _⟩
    cases ss with
    | nil => exact List.Pairwise.nil
    | cons a l => simp [Kq.Rises]
  case round =>
    obtain ⟨k, hk0, hk, rfl, hr, hb⟩ := hrel
    have HR : Hid (Kq.Rises (ss.take k) ∧ Below w.heap.size w wr) := ⟨hr, hb⟩
    clear hr hb
    by_cases hlt : k < N
    · have hlt' : (k : Int) < (N : Int) := by omega
      have hwk : IntKind.wrap .i64 ((k : Int) + 1) = (k : Int) + 1 := by rw [IntKind.wrap_i64]; omega
      have hwm : IntKind.wrap .i64 ((k : Int) - 1) = ((k - 1 : Nat) : Int) := by rw [IntKind.wrap_i64]; omega
      have i1 : (0 : Int) ≤ (k : Int) := by omega
      have i2 : (0 : Int) ≤ ((k - 1 : Nat) : Int) := by omega
      have i3 : ((k - 1 : Nat) : Int) < (N : Int) := by omega
      obtain ⟨x, hx⟩ : ∃ x, ss[k]? = some x := ⟨_, List.getElem?_eq_getElem (by have := HC.out.2; omega)⟩
      obtain ⟨y, hy⟩ : ∃ y, ss[k - 1]? = some y := ⟨_, List.getElem?_eq_getElem (by have := HC.out.2; omega)⟩
      have HX : Hid (ss[k]? = some x ∧ ss[k - 1]? = some y) := ⟨hx, hy⟩
      obtain ⟨g, o, hav, lx⟩ := HC.out.1 k x hx
      subst hav
      obtain ⟨g2, o2, hav, ly⟩ := HC.out.1 (k - 1) y hy
      simp only [Option.some.injEq, Addr.mk.injEq, and_true] at hav
      obtain ⟨e1, e2⟩ := hav
      rw [← e1, ← e2] at ly
      clear e1 e2 g2 o2 hx hy
      have lx' : wr.cell? ⟨g, o + k, none⟩ = some (.string x) := Below.kept HR.out.2 lx
      have ly' : wr.cell? ⟨g, o + (k - 1), none⟩ = some (.string y) := Below.kept HR.out.2 ly
      clear lx ly
      cases hle : Kq.lt y x with
      | false =>
        have HNO : Hid (¬ Kq.Rises ss) := fun h => by
          have h1 := Kq.rises_not h hk0 HX.out.1 HX.out.2
          rw [hle] at h1
          cases h1
        have hge : (!Op.bytesLess y.toList x.toList) = true := by
          have h2 : Op.bytesLess y.toList x.toList = false := hle
          rw [h2]
          rfl
        clear hle
        go_wp2_with fail
        go_quiet (fail)
        clear lx' ly'
        go_wp2
        go_ret
        exact ⟨false, rfl, ⟨fun h => (by cases h), fun h => absurd h HNO.out⟩, below_drewN HR.out.2 _⟩
      | true =>
        have HYES : Hid (Kq.Rises (ss.take (k + 1))) := Kq.rises_take HR.out.1 hk0 HX.out.1 HX.out.2 hle
        have hge : (!Op.bytesLess y.toList x.toList) = false := by
          have h2 : Op.bytesLess y.toList x.toList = true := hle
          rw [h2]
          rfl
        clear hle
        go_wp2_with fail
        go_quiet (fail)
        clear lx' ly'
        have HB : Hid (Below w.heap.size w (wr.drewN nq)) := below_drewN HR.out.2 _
        go_wp2
        go_roundw
        case rel => exact ⟨k + 1, by omega, Or.inl (by omega), by go_num, HYES.out, HB.out⟩
        case measure => simp [intOf]; omega
    · have hlt' : ¬ (k : Int) < (N : Int) := by omega
      have HE : Hid (Kq.Rises ss) := by
        have h := HR.out.1
        rw [List.take_of_length_le (by have := HC.out.2; omega)] at h
        exact h
      go_wp2
      go_ret
      exact ⟨true, rfl, ⟨fun _ => HE.out, fun _ => rfl⟩, HR.out.2⟩
end Go.Proofs.YtpidafpaffpnaaaGreatDoor
