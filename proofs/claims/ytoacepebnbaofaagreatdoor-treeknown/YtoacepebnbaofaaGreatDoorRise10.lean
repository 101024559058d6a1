/- What the reference's Rising answers. -/
import Derived.Test.YtoacepebnbaofaaGreatDoorPln
import Derived.BigQuiet
import Derived.Deep.QuietTactic
namespace Go.Proofs.YtoacepebnbaofaaGreatDoor.Kq
theorem rises_snoc {l : List ByteArray} {x y : ByteArray} (h : Rises l) (hy : l[l.length - 1]? = some y) (hlt : lt y x = true) : Rises (l ++ [x]) := by
  refine List.pairwise_append.2 ⟨h, List.pairwise_singleton _ _, fun a ha b hb => ?_⟩
  simp at hb
  subst hb
  obtain ⟨i, hi, rfl⟩ := List.getElem_of_mem ha
  obtain ⟨hj, hj2⟩ := List.getElem?_eq_some_iff.1 hy
  by_cases e : i = l.length - 1
  · subst e
    rw [hj2]
    exact hlt
  · have := List.pairwise_iff_getElem.1 h i (l.length - 1) hi hj (by omega)
    rw [hj2] at this
    exact lt_trans this hlt
theorem rises_take {l : List ByteArray} {k : Nat} {x y : ByteArray} (h : Rises (l.take k)) (h0 : 0 < k) (hx : l[k]? = some x) (hy : l[k - 1]? = some y) (hlt : lt y x = true) : Rises (l.take (k + 1)) := by
  rw [List.take_add_one, hx]
  have hk : k < l.length := (List.getElem?_eq_some_iff.1 hx).1
  refine rises_snoc h ?_ hlt
  rw [List.length_take, show min k l.length - 1 = k - 1 by omega, List.getElem?_take, if_pos (by omega)]
  exact hy
theorem rises_not {l : List ByteArray} {k : Nat} {x y : ByteArray} (h : Rises l) (h0 : 0 < k) (hx : l[k]? = some x) (hy : l[k - 1]? = some y) : lt y x = true := by
  obtain ⟨h1, h2⟩ := List.getElem?_eq_some_iff.1 hx
  obtain ⟨h3, h4⟩ := List.getElem?_eq_some_iff.1 hy
  have := List.pairwise_iff_getElem.1 h (k - 1) k h3 h1 (by omega)
  rw [h2, h4] at this
  exact this
end Go.Proofs.YtoacepebnbaofaaGreatDoor.Kq
namespace Go.Proofs.YtoacepebnbaofaaGreatDoor
open Go.RowKit

set_option maxRecDepth 20000 in
set_option maxHeartbeats 2000000 in
theorem rising_any (u : Value) (ss : List ByteArray) (w : World) (h : Ss w u ss) (hN : ss.length ≤ 100000) :
    Calls Tryz.prog 52 #[u] w (BoolP (Kq.Rises ss) w) := by
  obtain ⟨av, N, c, rfl, hk, hc⟩ := h
  have HC : Hid ((∀ (j : Nat) s, ss[j]? = some s → ∃ g o, av = some ⟨g, o, none⟩ ∧ w.cell? ⟨g, o + j, none⟩ = some (.string s)) ∧ N = ss.length) := ⟨hc, hk⟩
  have hN1 : N ≤ 100000 := by omega
  clear hc hk hN
  go_enter Tryz.func52, Tryz.ntmps52
  go_wp2
  go_loopw [3] (fun i wr => ∃ k : Nat, 0 < k ∧ (k ≤ N ∨ k = 1) ∧ i = .int .i64 (k : Int) ∧ Kq.Rises (ss.take k) ∧ Below w.heap.size w wr) (fun i _ => N + 1 - (intOf i).toNat)
  case atStart =>
    refine ⟨1, by decide, Or.inr rfl, rfl, ?_, Below.refl _ _⟩
    cases ss with
    | nil => exact List.Pairwise.nil
    | cons a l => simp [Kq.Rises]
  case round =>
    obtain ⟨k, hk0, hk, rfl, hr, hb⟩ := hrel
    have HR : Hid (Kq.Rises (ss.take k) ∧ Below w.heap.size w wr) := ⟨hr, hb⟩
    clear hr hb
    by_cases hlt : k < N
    · have hlt' : (k : Int) < (N : Int) := by omega
      have hwk : IntKind.wrap .i64 ((k : Int) + 1) = (k : Int) + 1 := by rw [IntKind.wrap_i64]; omega
      have hwm : IntKind.wrap .i64 ((k : Int) - 1) = ((k - 1 : Nat) : Int) := by rw [IntKind.wrap_i64]; omega
      have i1 : (0 : Int) ≤ (k : Int) := by omega
      have i2 : (0 : Int) ≤ ((k - 1 : Nat) : Int) := by omega
      have i3 : ((k - 1 : Nat) : Int) < (N : Int) := by omega
      obtain ⟨x, hx⟩ : ∃ x, ss[k]? = some x := ⟨_, List.getElem?_eq_getElem (by have := HC.out.2; omega)⟩
      obtain ⟨y, hy⟩ : ∃ y, ss[k - 1]? = some y := ⟨_, List.getElem?_eq_getElem (by have := HC.out.2; omega)⟩
      have HX : Hid (ss[k]? = some x ∧ ss[k - 1]? = some y) := ⟨hx, hy⟩
      obtain ⟨g, o, hav, lx⟩ := HC.out.1 k x hx
      subst hav
      obtain ⟨g2, o2, hav, ly⟩ := HC.out.1 (k - 1) y hy
      simp only [Option.some.injEq, Addr.mk.injEq, and_true] at hav
      obtain ⟨e1, e2⟩ := hav
      rw [← e1, ← e2] at ly
      clear e1 e2 g2 o2 hx hy
      have lx' : wr.cell? ⟨g, o + k, none⟩ = some (.string x) := Below.kept HR.out.2 lx
      have ly' : wr.cell? ⟨g, o + (k - 1), none⟩ = some (.string y) := Below.kept HR.out.2 ly
      clear lx ly
      by_cases hle : (Op.bytesLess x.toList y.toList || x.toList == y.toList) = true
      · have HNO : Hid (¬ Kq.Rises ss) := fun h => by
          have h1 := Kq.rises_not h hk0 HX.out.1 HX.out.2
          rw [Bool.or_eq_true] at hle
          rcases hle with h2 | h2
          · have h3 : Kq.lt x y = true := h2
            rw [Kq.lt_asymm h3] at h1
            cases h1
          · have h3 : x = y := bytes_eq h2
            rw [h3, Kq.lt_irrefl] at h1
            cases h1
        go_wp2_with fail
        go_quiet (fail)
        clear lx' ly'
        go_wp2
        go_ret
        exact ⟨false, rfl, ⟨fun h => (by cases h), fun h => absurd h HNO.out⟩, below_drewN HR.out.2 _⟩
      · have hle' : (Op.bytesLess x.toList y.toList || x.toList == y.toList) = false := by simpa using hle
        have HYES : Hid (Kq.Rises (ss.take (k + 1))) := by
          have h1 := Bool.or_eq_false_iff.1 hle'
          refine Kq.rises_take HR.out.1 hk0 HX.out.1 HX.out.2 ?_
          cases h2 : Kq.lt y x with
          | true => rfl
          | false =>
            have h3 : y = x := Kq.lt_total h2 h1.1
            have h4 := h1.2
            rw [h3] at h4
            simp at h4
        go_wp2_with fail
        go_quiet (fail)
        clear lx' ly'
        have HB : Hid (Below w.heap.size w (wr.drewN nq)) := below_drewN HR.out.2 _
        go_wp2
        go_roundw
        case rel => exact ⟨k + 1, by omega, Or.inl (by omega), by go_num, HYES.out, HB.out⟩
        case measure => simp [intOf]; omega
    · have hlt' : ¬ (k : Int) < (N : Int) := by omega
      have HE : Hid (Kq.Rises ss) := by
        have h := HR.out.1
        rw [List.take_of_length_le (by have := HC.out.2; omega)] at h
        exact h
      go_wp2
      go_ret
      exact ⟨true, rfl, ⟨fun _ => HE.out, fun _ => rfl⟩, HR.out.2⟩
end Go.Proofs.YtoacepebnbaofaaGreatDoor
