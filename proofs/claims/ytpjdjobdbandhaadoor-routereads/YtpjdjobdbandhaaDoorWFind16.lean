/- What slices.BinarySearchFunc finds of first names that rise; find. -/
import Derived.Test.YtpjdjobdbandhaaDoorRt16
namespace Go.Proofs.YtpjdjobdbandhaaDoor
open Go.RowKit

set_option maxRecDepth 20000 in
set_option maxHeartbeats 4000000 in
theorem search_any16 (g N c : Nat) (l : List Tb.Mv) (x : ByteArray) (w : World) (h : w.ownsRow 0 68 2 (.slice (some ⟨g, 0, none⟩) N c) N (mcs l)) (hN : N = l.length) (hl : N ≤ 64) (hr : Tb.Rises l) :
    Calls Tryd.prog 51 #[.slice (some ⟨g, 0, none⟩) N c, .string x, (Value.func (.func 52) #[] #[])] w fun e w' => e = .returned (.tuple #[.int .i64 (Tb.pos l x : Int), .bool (Tb.has l x)]) ∧ Below w.heap.size w w' := by
  obtain ⟨p, hp⟩ : ∃ p, p = Tb.pos l x := ⟨_, rfl⟩
  have hpN : p ≤ N := by rw [hp, hN]; exact Tb.pos_le l x
  have H0 : Hid (w.ownsRow 0 68 2 (.slice (some ⟨g, 0, none⟩) N c) N (mcs l) ∧ N = l.length ∧ p = Tb.pos l x ∧ Tb.Rises l ∧ (∀ w', Below w.heap.size w w' → w'.ownsRow 0 68 2 (.slice (some ⟨g, 0, none⟩) N c) N (mcs l))) := ⟨h, hN, hp, hr, fun w' hb => row_stays h fun k hk => hb.block k (h.lt k hk).2⟩
  rw [← hp]
  clear h hN hp hr
  go_enter Tryd.func51, Tryd.ntmps51
  go_wp2
  go_loopw [9, 10] (fun i j wx => ∃ lo hi : Nat, i = .int .i64 (lo : Int) ∧ j = .int .i64 (hi : Int) ∧ lo ≤ p ∧ p ≤ hi ∧ hi ≤ N ∧ Below w.heap.size w wx) (fun i j _ => (intOf j).toNat - (intOf i).toNat)
  case atStart => exact ⟨0, N, rfl, rfl, Nat.zero_le _, hpN, Nat.le_refl _, Below.refl _ _⟩
  case round =>
    obtain ⟨lo, hi, rfl, rfl, h1, h2, h3, hbw⟩ := hrel
    have HW : Hid (Below w.heap.size w wr) := hbw
    clear hbw
    by_cases hlt : lo < hi
    · have hlt' : (lo : Int) < (hi : Int) := by omega
      obtain ⟨m, hm⟩ : ∃ m, m = (lo + hi) / 2 := ⟨_, rfl⟩
      have hm1 : m < N := by omega
      have HMZ : Hid (((lo : Int) + (hi : Int)) / 2 = (m : Int) ∧ m = (lo + hi) / 2) := ⟨by omega, hm⟩
      clear hm
      go_upto_region 5 with fail
      rw [HMZ.out.1]
      obtain ⟨y, hy⟩ : ∃ y, l[m]? = some y := ⟨l[m]'(by rw [← H0.out.2.1]; exact hm1), List.getElem?_eq_getElem _⟩
      have HY : Hid (l[m]? = some y) := hy
      clear hy
      have m0 : (0 : Int) ≤ (m : Int) := by omega
      have mN : (m : Int) < (N : Int) := by omega
      obtain ⟨z, hz⟩ : ∃ z, z = cmpT y.top x := ⟨_, rfl⟩
      have HZ : Hid (z = cmpT y.top x ∧ (z < 0 → m < p) ∧ (0 ≤ z → p ≤ m)) := by
        refine ⟨hz, fun h => ?_, fun h => ?_⟩
        · rcases Nat.lt_or_ge m p with h4 | h4
          · exact h4
          · have h5 := Tb.pos_high H0.out.2.2.2.1 (by rw [← H0.out.2.2.1]; exact h4) HY.out
            rw [hz, cmpT_neg, h5] at h
            cases h
        · rcases Nat.lt_or_ge m p with h4 | h4
          · have h5 := Tb.pos_low (by rw [← H0.out.2.2.1]; exact h4) HY.out
            have h6 := cmpT_neg.2 h5
            rw [← hz] at h6
            omega
          · exact h4
      clear hz
      have HS : Hid (∀ w', Below w.heap.size w w' → w'.cell? ⟨g, m * 2, none⟩ = some (.string y.top) ∧ w'.cell? ⟨g, m * 2 + 1, none⟩ = some (.int .i64 y.shard)) := fun w' hb => row_at16 (H0.out.2.2.2.2 w' hb) HY.out
      obtain ⟨r0, r1⟩ := HS.out wr HW.out
      go_wp2_with fail
      refine (cmpMv_any16 y x wr).mono ?_
      rintro e w2 ⟨rfl, hb2⟩
      have H2 : Hid (Below w.heap.size w w2) := HW.out.trans (hb2.mono HW.out.size)
      clear hb2 r0 r1 HW
      rw [← HZ.out.1]
      by_cases hz : z < 0
      · have hmp : m < p := HZ.out.2.1 hz
        have hwk : IntKind.wrap .i64 ((m : Int) + 1) = (m : Int) + 1 := by rw [IntKind.wrap_i64]; omega
        go_wp2
        go_roundw
        case rel => exact ⟨m + 1, hi, by go_num, rfl, by omega, h2, h3, H2.out⟩
        case measure => have := HMZ.out.2; simp [intOf]; omega
      · have hmp : p ≤ m := HZ.out.2.2 (by omega)
        go_wp2
        go_roundw
        case rel => exact ⟨lo, m, rfl, rfl, h1, hmp, by omega, H2.out⟩
        case measure => have := HMZ.out.2; simp [intOf]; omega
    · have hlt' : ¬ (lo : Int) < (hi : Int) := by omega
      obtain rfl : lo = p := by omega
      clear h1 h2
      by_cases hn : lo < N
      · have hn' : (lo : Int) < (N : Int) := by omega
        have hn0 : (0 : Int) ≤ (lo : Int) := by omega
        obtain ⟨y, hy⟩ : ∃ y, l[lo]? = some y := ⟨l[lo]'(by rw [← H0.out.2.1]; exact hn), List.getElem?_eq_getElem _⟩
        have HY : Hid (l[lo]? = some y) := hy
        obtain ⟨z, hz⟩ : ∃ z, z = cmpT y.top x := ⟨_, rfl⟩
        have HZ : Hid (z = cmpT y.top x ∧ Tb.has l x = (z == 0)) := by
          refine ⟨hz, ?_⟩
          have h1 := Tb.pos_has (t := x) H0.out.2.2.2.1
          rw [← H0.out.2.2.1, hy] at h1
          have h2 : (z == 0) = true ↔ y.top = x := by rw [beq_iff_eq, hz]; exact cmpT_zero
          cases e : (z == 0) with
          | true => exact h1.2 ⟨y, rfl, h2.1 e⟩
          | false =>
            cases e2 : Tb.has l x with
            | false => rfl
            | true =>
              obtain ⟨y', hy', e3⟩ := h1.1 e2
              rw [h2.2 (by rw [Option.some.inj hy']; exact e3)] at e
              cases e
        clear hy hz
        have HS : Hid (∀ w', Below w.heap.size w w' → w'.cell? ⟨g, lo * 2, none⟩ = some (.string y.top) ∧ w'.cell? ⟨g, lo * 2 + 1, none⟩ = some (.int .i64 y.shard)) := fun w' hb => row_at16 (H0.out.2.2.2.2 w' hb) HY.out
        obtain ⟨r0, r1⟩ := HS.out wr HW.out
        go_wp2_with fail
        refine (cmpMv_any16 y x wr).mono ?_
        rintro e w2 ⟨rfl, hb2⟩
        have H2 : Hid (Below w.heap.size w w2) := HW.out.trans (hb2.mono HW.out.size)
        clear hb2 r0 r1 HW
        rw [← HZ.out.1]
        go_wp2
        go_ret2
        exact ⟨by rw [HZ.out.2]; rfl, H2.out⟩
      · have hn' : ¬ (lo : Int) < (N : Int) := by omega
        have HF : Hid (Tb.has l x = false) := by
          have h1 := Tb.pos_has (t := x) H0.out.2.2.2.1
          have h2 : Tb.has l x = false := by
            cases e : Tb.has l x with
            | false => rfl
            | true =>
              obtain ⟨y, hy, _⟩ := h1.1 e
              have h3 := (List.getElem?_eq_some_iff.1 hy).1
              rw [← H0.out.2.2.1, ← H0.out.2.1] at h3
              omega
          exact h2
        go_wp2
        go_ret2
        exact ⟨by rw [HF.out]; rfl, HW.out⟩
set_option maxRecDepth 20000 in
set_option maxHeartbeats 4000000 in
theorem search_none16 (x : ByteArray) (w : World) :
    Calls Tryd.prog 51 #[.slice none 0 0, .string x, (Value.func (.func 52) #[] #[])] w fun e w' => e = .returned (.tuple #[.int .i64 0, .bool false]) ∧ Below w.heap.size w w' := by
  go_enter Tryd.func51, Tryd.ntmps51
  go_wp2
  go_loopw [9, 10] (fun i j wx => i = .int .i64 0 ∧ j = .int .i64 0 ∧ Below w.heap.size w wx) (fun _ _ _ => 0)
  case atStart => exact ⟨rfl, rfl, Below.refl _ _⟩
  case round =>
    obtain ⟨rfl, rfl, hb⟩ := hrel
    have HB : Hid (Below w.heap.size w wr) := hb
    clear hb
    go_wp2
    go_ret2
    exact ⟨rfl, HB.out⟩
/-- The same, whether there is a row or not. -/
theorem search_row16 (v : Value) (l : List Tb.Mv) (x : ByteArray) (w : World) (h : w.ownsRow 0 68 2 v l.length (mcs l)) (hl : l.length ≤ 64) (hr : Tb.Rises l) :
    Calls Tryd.prog 51 #[v, .string x, (Value.func (.func 52) #[] #[])] w fun e w' => e = .returned (.tuple #[.int .i64 (Tb.pos l x : Int), .bool (Tb.has l x)]) ∧ Below w.heap.size w w' := by
  rcases h.2 with ⟨rfl, h0⟩ | ⟨g, c, cur, rfl, _⟩
  · obtain rfl : l = [] := List.length_eq_zero_iff.1 h0
    exact search_none16 x w
  · exact search_any16 g l.length c l x w h rfl hl hr
set_option maxRecDepth 20000 in
set_option maxHeartbeats 2000000 in
theorem find_any16 (q : Nat) (s : Tb.St) (v : Value) (x : ByteArray) (w : World) (h : Lt16 w q s v) (hl : s.l.length ≤ 64) (hr : Tb.Rises s.l) :
    Calls Tryd.prog 29 #[dptr q, .string x] w fun e w' => e = .returned (.tuple #[.int .i64 (Tb.pos s.l x : Int), .bool (Tb.has s.l x)]) ∧ Below w.heap.size w w' := by
  have c2 : w.cell? ⟨q, 2, none⟩ = some v := h.blk.cell 2
  have H0 : Hid (w.ownsRow 0 68 2 v s.l.length (mcs s.l) ∧ s.l.length ≤ 64 ∧ Tb.Rises s.l) := ⟨h.row, hl, hr⟩
  clear h hl hr
  unfold dptr
  go_enter Tryd.func29, Tryd.ntmps29
  go_wp2_with fail
  refine (search_row16 v s.l x w H0.out.1 H0.out.2.1 H0.out.2.2).mono ?_
  rintro e w1 ⟨rfl, hb⟩
  have HB : Hid (Below w.heap.size w w1) := hb
  clear hb
  go_wp2
  go_ret2
  exact ⟨rfl, HB.out⟩
end Go.Proofs.YtpjdjobdbandhaaDoor
