/- What slices.BinarySearchFunc finds of sessions that rise; find, Live. -/
import Derived.Test.YtlabdhllindenaaSess15
namespace Go.Proofs.Ytlabdhllindenaa
open Go.RowKit

set_option maxRecDepth 20000 in
set_option maxHeartbeats 4000000 in
theorem search_any15 (g N c : Nat) (l : List Sq.One) (x : Int) (w : World) (h : w.ownsRow 0 58 3 (.slice (some ⟨g, 0, none⟩) N c) N (ocs l)) (hN : N = l.length) (hl : N ≤ 64) (hr : Sq.Rises l) :
    Calls Try.prog 43 #[.slice (some ⟨g, 0, none⟩) N c, .int .i64 x, (Value.func (.func 44) #[] #[])] w fun e w' => e = .returned (.tuple #[.int .i64 (Sq.pos l x : Int), .bool (Sq.has l x)]) ∧ Below w.heap.size w w' := by
  obtain ⟨p, hp⟩ : ∃ p, p = Sq.pos l x := ⟨_, rfl⟩
  have hpN : p ≤ N := by rw [hp, hN]; exact Sq.pos_le l x
  have H0 : Hid (w.ownsRow 0 58 3 (.slice (some ⟨g, 0, none⟩) N c) N (ocs l) ∧ N = l.length ∧ p = Sq.pos l x ∧ Sq.Rises l ∧ (∀ w', Below w.heap.size w w' → w'.ownsRow 0 58 3 (.slice (some ⟨g, 0, none⟩) N c) N (ocs l))) := ⟨h, hN, hp, hr, fun w' hb => row_stays h fun k hk => hb.block k (h.lt k hk).2⟩
  rw [← hp]
  clear h hN hp hr
  go_enter Try.func43, Try.ntmps43
  go_wp2
  go_loopw [9, 10] (fun i j wx => ∃ lo hi : Nat, i = .int .i64 (lo : Int) ∧ j = .int .i64 (hi : Int) ∧ lo ≤ p ∧ p ≤ hi ∧ hi ≤ N ∧ Below w.heap.size w wx) (fun i j _ => (intOf j).toNat - (intOf i).toNat)
  case atStart => exact ⟨0, N, rfl, rfl, Nat.zero_le _, hpN, Nat.le_refl _, Below.refl _ _⟩
  case round =>
    obtain ⟨lo, hi, rfl, rfl, h1, h2, h3, hbw⟩ := hrel
    have HW : Hid (Below w.heap.size w wr) := hbw
    clear hbw
    by_cases hlt : lo < hi
    · have hlt' : (lo : Int) < (hi : Int) := by omega
      obtain ⟨m, hm⟩ : ∃ m, m = (lo + hi) / 2 := ⟨_, rfl⟩
      have hm1 : m < N := by omega
      have HMZ : Hid (((lo : Int) + (hi : Int)) / 2 = (m : Int) ∧ m = (lo + hi) / 2) := ⟨by omega, hm⟩
      clear hm
      go_upto_region 5 with fail
      rw [HMZ.out.1]
      obtain ⟨y, hy⟩ : ∃ y, l[m]? = some y := ⟨l[m]'(by rw [← H0.out.2.1]; exact hm1), List.getElem?_eq_getElem _⟩
      have HY : Hid (l[m]? = some y) := hy
      clear hy
      have m0 : (0 : Int) ≤ (m : Int) := by omega
      have mN : (m : Int) < (N : Int) := by omega
      obtain ⟨z, hz⟩ : ∃ z, z = cmpZ y.id x := ⟨_, rfl⟩
      have HZ : Hid (z = cmpZ y.id x ∧ (z < 0 → m < p) ∧ (0 ≤ z → p ≤ m)) := by
        refine ⟨hz, fun h => ?_, fun h => ?_⟩
        · rcases Nat.lt_or_ge m p with h4 | h4
          · exact h4
          · have h5 := Sq.pos_high H0.out.2.2.2.1 (by rw [← H0.out.2.2.1]; exact h4) HY.out
            rw [hz, cmpZ_neg] at h
            omega
        · rcases Nat.lt_or_ge m p with h4 | h4
          · have h5 := Sq.pos_low (by rw [← H0.out.2.2.1]; exact h4) HY.out
            have h6 := cmpZ_neg.2 h5
            omega
          · exact h4
      clear hz
      have HS : Hid (∀ w', Below w.heap.size w w' → w'.cell? ⟨g, m * 3, none⟩ = some (.int .i64 y.id) ∧ w'.cell? ⟨g, m * 3 + 1, none⟩ = some (.int .i64 y.span) ∧ w'.cell? ⟨g, m * 3 + 2, none⟩ = some (.int .i64 y.till)) := fun w' hb => row_at15 (H0.out.2.2.2.2 w' hb) HY.out
      obtain ⟨r0, r1, r2⟩ := HS.out wr HW.out
      go_wp2_with fail
      refine (cmpId_any15 y x wr).mono ?_
      rintro e w2 ⟨rfl, hb2⟩
      have H2 : Hid (Below w.heap.size w w2) := HW.out.trans (hb2.mono HW.out.size)
      clear hb2 r0 r1 r2 HW
      rw [← HZ.out.1]
      by_cases hz : z < 0
      · have hmp : m < p := HZ.out.2.1 hz
        have hwk : IntKind.wrap .i64 ((m : Int) + 1) = (m : Int) + 1 := by rw [IntKind.wrap_i64]; omega
        go_wp2
        go_roundw
        case rel => exact ⟨m + 1, hi, by go_num, rfl, by omega, h2, h3, H2.out⟩
        case measure => have := HMZ.out.2; simp [intOf]; omega
      · have hmp : p ≤ m := HZ.out.2.2 (by omega)
        go_wp2
        go_roundw
        case rel => exact ⟨lo, m, rfl, rfl, h1, hmp, by omega, H2.out⟩
        case measure => have := HMZ.out.2; simp [intOf]; omega
    · have hlt' : ¬ (lo : Int) < (hi : Int) := by omega
      obtain rfl : lo = p := by omega
      clear h1 h2
      by_cases hn : lo < N
      · have hn' : (lo : Int) < (N : Int) := by omega
        have hn0 : (0 : Int) ≤ (lo : Int) := by omega
        obtain ⟨y, hy⟩ : ∃ y, l[lo]? = some y := ⟨l[lo]'(by rw [← H0.out.2.1]; exact hn), List.getElem?_eq_getElem _⟩
        have HY : Hid (l[lo]? = some y) := hy
        obtain ⟨z, hz⟩ : ∃ z, z = cmpZ y.id x := ⟨_, rfl⟩
        have HZ : Hid (z = cmpZ y.id x ∧ Sq.has l x = (z == 0)) := by
          refine ⟨hz, ?_⟩
          have h1 := Sq.pos_has (id := x) H0.out.2.2.2.1
          rw [← H0.out.2.2.1, hy] at h1
          have h2 : (z == 0) = true ↔ y.id = x := by rw [beq_iff_eq, hz]; exact cmpZ_zero
          cases e : (z == 0) with
          | true => exact h1.2 ⟨y, rfl, h2.1 e⟩
          | false =>
            cases e2 : Sq.has l x with
            | false => rfl
            | true =>
              obtain ⟨y', hy', e3⟩ := h1.1 e2
              rw [h2.2 (by rw [Option.some.inj hy']; exact e3)] at e
              cases e
        clear hy hz
        have HS : Hid (∀ w', Below w.heap.size w w' → w'.cell? ⟨g, lo * 3, none⟩ = some (.int .i64 y.id) ∧ w'.cell? ⟨g, lo * 3 + 1, none⟩ = some (.int .i64 y.span) ∧ w'.cell? ⟨g, lo * 3 + 2, none⟩ = some (.int .i64 y.till)) := fun w' hb => row_at15 (H0.out.2.2.2.2 w' hb) HY.out
        obtain ⟨r0, r1, r2⟩ := HS.out wr HW.out
        go_wp2_with fail
        refine (cmpId_any15 y x wr).mono ?_
        rintro e w2 ⟨rfl, hb2⟩
        have H2 : Hid (Below w.heap.size w w2) := HW.out.trans (hb2.mono HW.out.size)
        clear hb2 r0 r1 r2 HW
        rw [← HZ.out.1]
        go_wp2
        go_ret2
        exact ⟨by rw [HZ.out.2]; rfl, H2.out⟩
      · have hn' : ¬ (lo : Int) < (N : Int) := by omega
        have HF : Hid (Sq.has l x = false) := by
          have h1 := Sq.pos_has (id := x) H0.out.2.2.2.1
          have h2 : Sq.has l x = false := by
            cases e : Sq.has l x with
            | false => rfl
            | true =>
              obtain ⟨y, hy, _⟩ := h1.1 e
              have h3 := (List.getElem?_eq_some_iff.1 hy).1
              rw [← H0.out.2.2.1, ← H0.out.2.1] at h3
              omega
          exact h2
        go_wp2
        go_ret2
        exact ⟨by rw [HF.out]; rfl, HW.out⟩
set_option maxRecDepth 20000 in
set_option maxHeartbeats 4000000 in
theorem search_none15 (x : Int) (w : World) :
    Calls Try.prog 43 #[.slice none 0 0, .int .i64 x, (Value.func (.func 44) #[] #[])] w fun e w' => e = .returned (.tuple #[.int .i64 0, .bool false]) ∧ Below w.heap.size w w' := by
  go_enter Try.func43, Try.ntmps43
  go_wp2
  go_loopw [9, 10] (fun i j wx => i = .int .i64 0 ∧ j = .int .i64 0 ∧ Below w.heap.size w wx) (fun _ _ _ => 0)
  case atStart => exact ⟨rfl, rfl, Below.refl _ _⟩
  case round =>
    obtain ⟨rfl, rfl, hb⟩ := hrel
    have HB : Hid (Below w.heap.size w wr) := hb
    clear hb
    go_wp2
    go_ret2
    exact ⟨rfl, HB.out⟩
end Go.Proofs.Ytlabdhllindenaa
