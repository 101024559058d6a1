/- What StatApart answers. -/
import Derived.Test.YtlgpjgncimcijabTurn10
import Derived.Test.YtlgpjgncimcijabLNames10
import Derived.Test.YtlgpjgncimcijabTakeAt
import Derived.Deep.DeepCutAuto
namespace Go.Proofs.Ytlgpjgncimcijab
open Go.RowKit

set_option maxRecDepth 20000 in
set_option maxHeartbeats 8000000 in
theorem apart_any10 (S : Specs10) (SB : SpecB10) (va vb : Value) (xs ys : List Kq.Ac) (W : World) (ha : Acl10 W va xs) (hal : xs.length ≤ maxLen) (haok : ∀ x ∈ xs, AcOk x) (hb : Acl10 W vb ys) (hbl : ys.length ≤ maxLen) (hbok : ∀ x ∈ ys, AcOk x) :
    Calls Try.prog 3 #[va, vb] W fun e w' => e = .returned (.bool true) ∧ Below W.heap.size W w' := by
  have HS : Hid Specs10 := S
  have HSB : Hid SpecB10 := SB
  obtain ⟨av, N, c, rfl, hN, hc⟩ := ha
  obtain ⟨bv, M, cb, rfl, hM, hcb⟩ := hb
  have HA : Hid ((∀ (j : Nat) x, xs[j]? = some x → ∃ g o, av = some ⟨g, o, none⟩ ∧ ∀ (i : Nat) u, (aac x)[i]? = some u → W.cell? ⟨g, o + j * 3 + i, none⟩ = some u) ∧ N = xs.length ∧ ∀ x ∈ xs, AcOk x) := ⟨hc, hN, haok⟩
  have HB : Hid ((∀ (j : Nat) x, ys[j]? = some x → ∃ g o, bv = some ⟨g, o, none⟩ ∧ ∀ (i : Nat) u, (aac x)[i]? = some u → W.cell? ⟨g, o + j * 3 + i, none⟩ = some u) ∧ M = ys.length ∧ ∀ x ∈ ys, AcOk x) := ⟨hcb, hM, hbok⟩
  have hN1 : N ≤ 9223372036854775807 := by unfold maxLen at hal; omega
  have hM1 : M ≤ 9223372036854775807 := by unfold maxLen at hbl; omega
  clear S SB hc hN haok hcb hM hbok hal hbl
  go_enter Try.func3, Try.ntmps3
  go_wp2_with fail
  refine (awake_any10 HS.out W).mono ?_
  rintro e w0 ⟨rfl, hb⟩
  have B0 : Hid (Below W.heap.size W w0) := hb
  clear hb
  by_cases h20 : 20 < N
  · have h20' : (20 : Int) < (N : Int) := by omega
    go_wp2
    go_ret
    exact ⟨rfl, B0.out⟩
  have h20' : ¬ (20 : Int) < (N : Int) := by omega
  by_cases h21 : 20 < M
  · have h21' : (20 : Int) < (M : Int) := by omega
    go_wp2
    go_ret
    exact ⟨rfl, B0.out⟩
  have h21' : ¬ (20 : Int) < (M : Int) := by omega
  go_wp2_with fail
  refine (HS.out.new 1 0 ⟨#[]⟩ w0 (by decide)).mono ?_
  rintro e x1 ⟨a1, c1, rfl, hr1, hb1⟩
  obtain ⟨n0, hn0⟩ : ∃ n, n = Kq.new 1 0 ⟨#[]⟩ := ⟨_, rfl⟩
  have HN0 : Hid (n0 = Kq.new 1 0 ⟨#[]⟩) := hn0
  rw [← hn0]
  have R1 : Hid (x1.ownsRow w0.heap.size 9 1 (.slice a1 0 c1) 0 [] ∧ Below w0.heap.size w0 x1) := ⟨hr1, hb1⟩
  clear hr1 hb1
  unfold kv
  go_wp2_with fail
  refine (HS.out.new 1 0 ⟨#[]⟩ x1 (by decide)).mono ?_
  rintro e x2 ⟨a2, c2, rfl, hr2, hb2⟩
  rw [← hn0]
  have R2 : Hid (x2.ownsRow x1.heap.size 9 1 (.slice a2 0 c2) 0 [] ∧ Below x1.heap.size x1 x2) := ⟨hr2, hb2⟩
  clear hr2 hb2 hn0
  unfold kv
  go_upto_region 6 with fail
  obtain ⟨q1, hq1⟩ : ∃ z, z = x2.heap.size := ⟨_, rfl⟩
  obtain ⟨q2, hq2⟩ : ∃ z, z = x2.heap.size + 1 := ⟨_, rfl⟩
  have hD := duo_made (n := n0) B0.out R1.out.1 R1.out.2 R2.out.1 R2.out.2 (by rw [HN0.out]; rfl) (by rw [HN0.out]; exact fine_new (by decide))
  rw [← hq2, ← hq1] at hD
  have D1 : Hid (Duo10 W ((x2.alloc (.cells [.int .i64 n0.made, .int .i64 n0.changed, .int .i64 n0.ver, .int .i64 n0.kids, .int .i64 n0.owner, .int .i64 n0.len, .int .i64 n0.cnt, .string n0.data, .int .i64 n0.next, .slice a1 0 c1].toArray 28)).alloc (.cells [.int .i64 n0.made, .int .i64 n0.changed, .int .i64 n0.ver, .int .i64 n0.kids, .int .i64 n0.owner, .int .i64 n0.len, .int .i64 n0.cnt, .string n0.data, .int .i64 n0.next, .slice a2 0 c2].toArray 28)) q1 q2 n0 n0 (.slice a1 0 c1) (.slice a2 0 c2)) := hD
  rw [← hq2, ← hq1]
  clear hD hq1 hq2 R1 R2 B0
  generalize (x2.alloc (.cells [.int .i64 n0.made, .int .i64 n0.changed, .int .i64 n0.ver, .int .i64 n0.kids, .int .i64 n0.owner, .int .i64 n0.len, .int .i64 n0.cnt, .string n0.data, .int .i64 n0.next, .slice a1 0 c1].toArray 28)).alloc (.cells [.int .i64 n0.made, .int .i64 n0.changed, .int .i64 n0.ver, .int .i64 n0.kids, .int .i64 n0.owner, .int .i64 n0.len, .int .i64 n0.cnt, .string n0.data, .int .i64 n0.next, .slice a2 0 c2].toArray 28) = w1 at *
  have HF0 : Hid (Kq.Fk n0 0) := by
    rw [HN0.out]
    exact Kq.Fk.start (by decide) (by decide) (by decide)
  go_wp2
  go_loopw [7] (fun i wr => ∃ (k : Nat) (n m : Kq.Kn) (v1 v2 : Value), k ≤ 20 ∧ i = .int .i64 (k : Int) ∧ Duo10 W wr q1 q2 n m v1 v2 ∧ n = Kq.acts n0 (xs.take k) ∧ Kq.Fk n k ∧ Kq.Fk m k ∧ ∀ x ∈ xs.take k, x.s.size ≤ 40) (fun i _ => 20 - (intOf i).toNat)
  case atStart => exact ⟨0, n0, n0, _, _, Nat.zero_le _, rfl, D1.out, rfl, HF0.out, HF0.out, fun x hx => by simp at hx⟩
  case round =>
    obtain ⟨k, n, m, v1, v2, hk, rfl, hD, hna, hF1, hF2, hsz⟩ := hrel
    have HR : Hid (Duo10 W wr q1 q2 n m v1 v2 ∧ n = Kq.acts n0 (xs.take k) ∧ Kq.Fk n k ∧ Kq.Fk m k ∧ ∀ x ∈ xs.take k, x.s.size ≤ 40) := ⟨hD, hna, hF1, hF2, hsz⟩
    clear hD hna hF1 hF2 hsz D1
    by_cases hlt : k < 20
    · have hlt' : (k : Int) < 20 := by omega
      have hk0 : (0 : Int) ≤ (k : Int) := by omega
      have hwk : IntKind.wrap .i64 ((k : Int) + 1) = (k : Int) + 1 := by rw [IntKind.wrap_i64]; omega
      go_upto_if 29 with fail
      go_cut [] (fun wx => ∃ n' v1', Duo10 W wx q1 q2 n' m v1' v2 ∧ n' = Kq.acts n0 (xs.take (k + 1)) ∧ Kq.Fk n' (k + 1) ∧ ∀ x ∈ xs.take (k + 1), x.s.size ≤ 40)
      case first =>
        by_cases hkN : k < N
        · have hkN' : (k : Int) < (N : Int) := by omega
          obtain ⟨x, hx⟩ : ∃ x, xs[k]? = some x := ⟨_, List.getElem?_eq_getElem (by have := HA.out.2.1; omega)⟩
          have HX : Hid (AcOk x ∧ xs.take (k + 1) = xs.take k ++ [x] ∧ x ∈ xs) := ⟨HA.out.2.2 x (List.mem_of_getElem? hx), by rw [List.take_add_one, hx]; rfl, List.mem_of_getElem? hx⟩
          obtain ⟨g, o2, hav, hcell⟩ := HA.out.1 k x hx
          subst hav
          have y0 : wr.cell? ⟨g, o2 + k * 3, none⟩ = some (.int .i64 x.op) := Below.kept HR.out.1.fst.below (hcell 0 _ rfl)
          have y1 : wr.cell? ⟨g, o2 + k * 3 + 1, none⟩ = some (.int .i64 x.n) := Below.kept HR.out.1.fst.below (hcell 1 _ rfl)
          have y2 : wr.cell? ⟨g, o2 + k * 3 + 2, none⟩ = some (.string x.s) := Below.kept HR.out.1.fst.below (hcell 2 _ rfl)
          have hsm : x.s.size ≤ 9223372036854775807 := by have := HX.out.1.s; unfold maxLen at this; omega
          clear hx hcell
          by_cases h41 : 40 < x.s.size
          · have h41' : (40 : Int) < (x.s.size : Int) := by omega
            go_wp2
            go_ret
            exact ⟨rfl, HR.out.1.fst.below⟩
          have h41' : ¬ (40 : Int) < (x.s.size : Int) := by omega
          go_wp2_with fail
          refine (turn_any10 HS.out HR.out.1.fst x (by omega) (by have := HR.out.2.2.1.many; omega)).mono ?_
          rintro e w5 ⟨v5, rfl, hM, hmv⟩
          have D5 : Hid (Duo10 W w5 q1 q2 (Kq.act n x) m v5 v2) := HR.out.1.turn1 hM hmv
          clear hM hmv y0 y1 y2
          have HNX : Hid (Kq.act n x = Kq.acts n0 (xs.take (k + 1)) ∧ Kq.Fk (Kq.act n x) (k + 1) ∧ ∀ y ∈ xs.take (k + 1), y.s.size ≤ 40) := ⟨by rw [HX.out.2.1, Kq.acts_snoc, ← HR.out.2.1], HR.out.2.2.1.act HX.out.1.n (by omega) (by omega), fun y hy => by
            rw [HX.out.2.1] at hy
            rcases List.mem_append.1 hy with hy | hy
            · exact HR.out.2.2.2.2 y hy
            · simp at hy
              rw [hy]
              omega⟩
          go_wp2
          go_meet
          case rel => exact ⟨_, v5, D5.out, HNX.out⟩
        · have hkN' : ¬ (k : Int) < (N : Int) := by omega
          have HE : Hid (xs.take (k + 1) = xs.take k) := by
            have h : xs.take (k + 1) = xs.take k := by rw [List.take_of_length_le (by have := HA.out.2.1; omega), List.take_of_length_le (by have := HA.out.2.1; omega)]
            exact h
          go_wp2
          go_meet
          case rel => exact ⟨n, v1, HR.out.1, by rw [HE.out]; exact HR.out.2.1, HR.out.2.2.1.more, by rw [HE.out]; exact HR.out.2.2.2.2⟩
      case rest =>
        obtain ⟨n5, v5, hD, hna, hF, hsz⟩ := hcut
        have HQ : Hid (Duo10 W wc q1 q2 n5 m v5 v2 ∧ n5 = Kq.acts n0 (xs.take (k + 1)) ∧ Kq.Fk n5 (k + 1) ∧ ∀ x ∈ xs.take (k + 1), x.s.size ≤ 40) := ⟨hD, hna, hF, hsz⟩
        clear hD hna hF hsz
        by_cases hkM : k < M
        · have hkM' : (k : Int) < (M : Int) := by omega
          obtain ⟨x, hx⟩ : ∃ x, ys[k]? = some x := ⟨_, List.getElem?_eq_getElem (by have := HB.out.2.1; omega)⟩
          have HX : Hid (AcOk x ∧ ys.take (k + 1) = ys.take k ++ [x] ∧ x ∈ ys) := ⟨HB.out.2.2 x (List.mem_of_getElem? hx), by rw [List.take_add_one, hx]; rfl, List.mem_of_getElem? hx⟩
          obtain ⟨g, o2, hav, hcell⟩ := HB.out.1 k x hx
          subst hav
          have y0 : wc.cell? ⟨g, o2 + k * 3, none⟩ = some (.int .i64 x.op) := Below.kept HQ.out.1.fst.below (hcell 0 _ rfl)
          have y1 : wc.cell? ⟨g, o2 + k * 3 + 1, none⟩ = some (.int .i64 x.n) := Below.kept HQ.out.1.fst.below (hcell 1 _ rfl)
          have y2 : wc.cell? ⟨g, o2 + k * 3 + 2, none⟩ = some (.string x.s) := Below.kept HQ.out.1.fst.below (hcell 2 _ rfl)
          have hsm : x.s.size ≤ 9223372036854775807 := by have := HX.out.1.s; unfold maxLen at this; omega
          clear hx hcell
          by_cases h41 : 40 < x.s.size
          · have h41' : (40 : Int) < (x.s.size : Int) := by omega
            go_wp2
            go_ret
            exact ⟨rfl, HQ.out.1.fst.below⟩
          have h41' : ¬ (40 : Int) < (x.s.size : Int) := by omega
          go_wp2_with fail
          refine (turn_any10 HS.out HQ.out.1.snd x (by omega) (by have := HR.out.2.2.2.1.many; omega)).mono ?_
          rintro e w5 ⟨v6, rfl, hM, hmv⟩
          have D5 : Hid (Duo10 W w5 q1 q2 n5 (Kq.act m x) v5 v6) := HQ.out.1.turn2 hM hmv
          clear hM hmv y0 y1 y2
          have HFM : Hid (Kq.Fk (Kq.act m x) (k + 1)) := HR.out.2.2.2.1.act HX.out.1.n (by omega) (by omega)
          go_wp2
          go_roundw
          case rel => exact ⟨k + 1, n5, _, v5, v6, by omega, by go_num, D5.out, HQ.out.2.1, HQ.out.2.2.1, HFM.out, HQ.out.2.2.2⟩
          case measure => simp [intOf]; omega
        · have hkM' : ¬ (k : Int) < (M : Int) := by omega
          go_wp2
          go_roundw
          case rel => exact ⟨k + 1, n5, m, v5, v2, by omega, by go_num, HQ.out.1, HQ.out.2.1, HQ.out.2.2.1, HR.out.2.2.2.1.more, HQ.out.2.2.2⟩
          case measure => simp [intOf]; omega
    · have hlt' : ¬ (k : Int) < 20 := by omega
      have HE : Hid (n = Kq.acts n0 xs ∧ Kq.Fk n 20 ∧ Kq.Fk m 20 ∧ Duo10 W wr q1 q2 n m v1 v2 ∧ ∀ x ∈ xs, x.s.size ≤ 40) := by
        have h := HR.out
        rw [show k = 20 by omega] at h
        rw [List.take_of_length_le (by have := HA.out.2.1; omega)] at h
        exact ⟨h.2.1, h.2.2.1, h.2.2.2.1, h.1, h.2.2.2.2⟩
      clear HR hlt hk
      go_wp2_with fail
      refine (HS.out.new 1 0 ⟨#[]⟩ wr (by decide)).mono ?_
      rintro e x3 ⟨a3, c3, rfl, hr3, hb3⟩
      obtain ⟨q3, hq3⟩ : ∃ z, z = x3.heap.size := ⟨_, rfl⟩
      have hT := tri_made (z := n0) HE.out.2.2.2.1 hr3 hb3 (by rw [HN0.out]; rfl) (by rw [HN0.out]; exact fine_new (by decide))
      rw [← hq3] at hT
      rw [← HN0.out]
      have T1 : Hid (Tri10 W (x3.alloc (.cells [.int .i64 n0.made, .int .i64 n0.changed, .int .i64 n0.ver, .int .i64 n0.kids, .int .i64 n0.owner, .int .i64 n0.len, .int .i64 n0.cnt, .string n0.data, .int .i64 n0.next, .slice a3 0 c3].toArray 28)) q1 q2 q3 n m n0 v1 v2 (.slice a3 0 c3)) := hT
      clear hT hr3 hb3
      unfold kv
      go_upto_region 18 with fail
      rw [← hq3]
      clear hq3
      generalize x3.alloc (.cells [.int .i64 n0.made, .int .i64 n0.changed, .int .i64 n0.ver, .int .i64 n0.kids, .int .i64 n0.owner, .int .i64 n0.len, .int .i64 n0.cnt, .string n0.data, .int .i64 n0.next, .slice a3 0 c3].toArray 28) = w3 at *
      go_wp2
      go_loopw [9] (fun i wr => ∃ (j : Nat) (z : Kq.Kn) (v3 : Value), j ≤ N ∧ i = .int .i64 (j : Int) ∧ Tri10 W wr q1 q2 q3 n m z v1 v2 v3 ∧ z = Kq.acts n0 (xs.take j) ∧ Kq.Fk z j) (fun i _ => N - (intOf i).toNat)
      case atStart => exact ⟨0, n0, _, Nat.zero_le _, rfl, T1.out, rfl, HF0.out⟩
      case round =>
        obtain ⟨j, z, v3, hj, rfl, hT, hza, hF⟩ := hrel
        have HT : Hid (Tri10 W wr q1 q2 q3 n m z v1 v2 v3 ∧ z = Kq.acts n0 (xs.take j) ∧ Kq.Fk z j) := ⟨hT, hza, hF⟩
        clear hT hza hF T1
        by_cases hjN : j < N
        · have hjN' : (j : Int) < (N : Int) := by omega
          have hj0 : (0 : Int) ≤ (j : Int) := by omega
          have hwj : IntKind.wrap .i64 ((j : Int) + 1) = (j : Int) + 1 := by rw [IntKind.wrap_i64]; omega
          obtain ⟨x, hx⟩ : ∃ x, xs[j]? = some x := ⟨_, List.getElem?_eq_getElem (by have := HA.out.2.1; omega)⟩
          have HX : Hid (AcOk x ∧ xs.take (j + 1) = xs.take j ++ [x] ∧ x ∈ xs) := ⟨HA.out.2.2 x (List.mem_of_getElem? hx), by rw [List.take_add_one, hx]; rfl, List.mem_of_getElem? hx⟩
          obtain ⟨g, o2, hav, hcell⟩ := HA.out.1 j x hx
          subst hav
          have y0 : wr.cell? ⟨g, o2 + j * 3, none⟩ = some (.int .i64 x.op) := Below.kept HT.out.1.thd.below (hcell 0 _ rfl)
          have y1 : wr.cell? ⟨g, o2 + j * 3 + 1, none⟩ = some (.int .i64 x.n) := Below.kept HT.out.1.thd.below (hcell 1 _ rfl)
          have y2 : wr.cell? ⟨g, o2 + j * 3 + 2, none⟩ = some (.string x.s) := Below.kept HT.out.1.thd.below (hcell 2 _ rfl)
          have hsm : x.s.size ≤ 9223372036854775807 := by have := HX.out.1.s; unfold maxLen at this; omega
          clear hx hcell
          have h41 : x.s.size ≤ 40 := HE.out.2.2.2.2 x HX.out.2.2
          go_wp2_with fail
          refine (turn_any10 HS.out HT.out.1.thd x (by omega) (by have := HT.out.2.2.many; omega)).mono ?_
          rintro e w5 ⟨v5, rfl, hM, hmv⟩
          have D5 : Hid (Tri10 W w5 q1 q2 q3 n m (Kq.act z x) v1 v2 v5) := HT.out.1.turn3 hM hmv
          clear hM hmv y0 y1 y2
          have HNX : Hid (Kq.act z x = Kq.acts n0 (xs.take (j + 1)) ∧ Kq.Fk (Kq.act z x) (j + 1)) := ⟨by rw [HX.out.2.1, Kq.acts_snoc, ← HT.out.2.1], HT.out.2.2.act HX.out.1.n (by omega) (by omega)⟩
          go_wp2
          go_roundw
          case rel => exact ⟨j + 1, _, v5, by omega, by go_num, D5.out, HNX.out⟩
          case measure => simp [intOf]; omega
        · have hjN' : ¬ (j : Int) < (N : Int) := by omega
          have HZ : Hid (z = n) := by
            have h := HT.out.2.1
            rw [List.take_of_length_le (by have := HA.out.2.1; omega)] at h
            exact h.trans HE.out.1.symm
          obtain ⟨p1, e1c, ev1, _, _⟩ := row_form HT.out.1.duo.fst.own.row
          rename_i hj1 hj2
          obtain ⟨p2, e2c, ev2, _, _⟩ := row_form HT.out.1.duo.snd.own.row
          rename_i hj3 hj4
          obtain ⟨p3, e3c, ev3, _, _⟩ := row_form HT.out.1.thd.own.row
          rename_i hj5 hj6
          rw [HZ.out] at ev3
          obtain ⟨L1, hL1⟩ : ∃ L, L = n.names.length := ⟨_, rfl⟩
          obtain ⟨L2, hL2⟩ : ∃ L, L = m.names.length := ⟨_, rfl⟩
          rw [← hL1] at ev1 ev3
          rw [← hL2] at ev2
          have HTT := HT.out.1
          rw [HZ.out] at HTT
          rw [ev1, ev2, ev3] at HTT
          have T5 : Hid (Tri10 W wr q1 q2 q3 n m n (.slice p1 L1 e1c) (.slice p2 L2 e2c) (.slice p3 L1 e3c)) := HTT
          clear hj1 hj2 hj3 hj4 hj5 hj6 ev1 ev2 ev3 HTT hL1 hL2
          have HCE : Hid ((∀ w', Below wr.heap.size wr w' → w'.cell? ⟨q3, 0, none⟩ = some (.int .i64 n.made) ∧ w'.cell? ⟨q3, 1, none⟩ = some (.int .i64 n.changed) ∧ w'.cell? ⟨q3, 2, none⟩ = some (.int .i64 n.ver) ∧ w'.cell? ⟨q3, 3, none⟩ = some (.int .i64 n.kids) ∧ w'.cell? ⟨q3, 4, none⟩ = some (.int .i64 n.owner) ∧ w'.cell? ⟨q3, 5, none⟩ = some (.int .i64 n.len) ∧ w'.cell? ⟨q3, 6, none⟩ = some (.int .i64 n.cnt) ∧ w'.cell? ⟨q3, 7, none⟩ = some (.string n.data) ∧ w'.cell? ⟨q3, 8, none⟩ = some (.int .i64 n.next) ∧ w'.cell? ⟨q3, 9, none⟩ = some (.slice p3 L1 e3c)) ∧ (∀ w', Below wr.heap.size wr w' → w'.cell? ⟨q1, 0, none⟩ = some (.int .i64 n.made) ∧ w'.cell? ⟨q1, 1, none⟩ = some (.int .i64 n.changed) ∧ w'.cell? ⟨q1, 2, none⟩ = some (.int .i64 n.ver) ∧ w'.cell? ⟨q1, 3, none⟩ = some (.int .i64 n.kids) ∧ w'.cell? ⟨q1, 4, none⟩ = some (.int .i64 n.owner) ∧ w'.cell? ⟨q1, 5, none⟩ = some (.int .i64 n.len) ∧ w'.cell? ⟨q1, 6, none⟩ = some (.int .i64 n.cnt) ∧ w'.cell? ⟨q1, 7, none⟩ = some (.string n.data) ∧ w'.cell? ⟨q1, 8, none⟩ = some (.int .i64 n.next) ∧ w'.cell? ⟨q1, 9, none⟩ = some (.slice p1 L1 e1c)) ∧ (∀ w', Below wr.heap.size wr w' → w'.cell? ⟨q2, 0, none⟩ = some (.int .i64 m.made) ∧ w'.cell? ⟨q2, 1, none⟩ = some (.int .i64 m.changed) ∧ w'.cell? ⟨q2, 2, none⟩ = some (.int .i64 m.ver) ∧ w'.cell? ⟨q2, 3, none⟩ = some (.int .i64 m.kids) ∧ w'.cell? ⟨q2, 4, none⟩ = some (.int .i64 m.owner) ∧ w'.cell? ⟨q2, 5, none⟩ = some (.int .i64 m.len) ∧ w'.cell? ⟨q2, 6, none⟩ = some (.int .i64 m.cnt) ∧ w'.cell? ⟨q2, 7, none⟩ = some (.string m.data) ∧ w'.cell? ⟨q2, 8, none⟩ = some (.int .i64 m.next) ∧ w'.cell? ⟨q2, 9, none⟩ = some (.slice p2 L2 e2c))) := ⟨fun w' hb => (by have h := T5.out.thd.own.blk.below hb; exact ⟨h.cell 0, h.cell 1, h.cell 2, h.cell 3, h.cell 4, h.cell 5, h.cell 6, h.cell 7, h.cell 8, h.cell 9⟩), fun w' hb => (by have h := T5.out.duo.fst.own.blk.below hb; exact ⟨h.cell 0, h.cell 1, h.cell 2, h.cell 3, h.cell 4, h.cell 5, h.cell 6, h.cell 7, h.cell 8, h.cell 9⟩), fun w' hb => (by have h := T5.out.duo.snd.own.blk.below hb; exact ⟨h.cell 0, h.cell 1, h.cell 2, h.cell 3, h.cell 4, h.cell 5, h.cell 6, h.cell 7, h.cell 8, h.cell 9⟩)⟩
          go_wp2_with fail
          refine wp_region_held_drew (S := fun w' => Below wr.heap.size wr w') (by kernel_rfl) (Below.refl _ _).drew (fun _ => ?_)
          have B0 : Hid (Below wr.heap.size wr wr.drew) := (Below.refl _ _).drew
          generalize wr.drew = wX at *
          refine' take_at (i := 0) (d := 70) (v := _) rfl rfl (by kernel_rfl) (by kernel_rfl) (by kernel_rfl) (fun _ _ _ h => h) (Or.inl ⟨by rfl, ?h0⟩) (B0.out) ?_
          case h0 => intro w hSw; obtain ⟨b0, b1, b2, b3, b4, b5, b6, b7, b8, b9⟩ := HCE.out.1 w hSw; go_simp; with_reducible rfl
          simp only [List.setIfInBounds_toArray, List.set_cons_zero, List.set_cons_succ]
          refine' take_at (i := 1) (d := 71) (v := _) rfl rfl (by kernel_rfl) (by kernel_rfl) (by kernel_rfl) (fun _ _ _ h => h) (Or.inl ⟨by rfl, ?h1⟩) (B0.out) ?_
          case h1 => intro w hSw; obtain ⟨b0, b1, b2, b3, b4, b5, b6, b7, b8, b9⟩ := HCE.out.2.1 w hSw; go_simp; with_reducible rfl
          simp only [List.setIfInBounds_toArray, List.set_cons_zero, List.set_cons_succ]
          refine wpAnyH_ready (rs := [2]) (by kernel_rfl) (by simp) ?_
          refine AllReadyH.cons (o := _) rfl (fun K hK => ?_) AllReadyH.nil
          go_simp
          refine (HSB.out.same n n (.slice p3 L1 e3c) (.slice p1 L1 e1c) wX (ss_own (T5.out.thd.later B0.out).own.row) (ss_own (T5.out.duo.fst.later B0.out).own.row) (by have := HE.out.2.1.many; omega) (by have := HE.out.2.1.many; omega)).mono ?_
          rintro e w5 ⟨R, rfl, hR, hb⟩
          have hRt : R = true := hR.2 rfl
          subst hRt
          have B5 : Hid (Below wr.heap.size wr w5) := B0.out.trans (hb.mono B0.out.size)
          clear hb hR
          refine hK.out _ _ B5.out (fun _ => ?_)
          clear hK K
          refine' take_at (i := 3) (d := 73) (v := _) rfl rfl (by kernel_rfl) (by kernel_rfl) (by kernel_rfl) (fun _ _ _ h => h) (Or.inl ⟨by rfl, ?h3⟩) (B5.out) ?_
          case h3 => intro w hSw; go_simp; with_reducible rfl
          simp only [List.setIfInBounds_toArray, List.set_cons_zero, List.set_cons_succ]
          refine' take_at (i := 4) (d := 74) (v := _) rfl rfl (by kernel_rfl) (by kernel_rfl) (by kernel_rfl) (fun _ _ _ h => h) (Or.inl ⟨by rfl, ?h4⟩) (B5.out) ?_
          case h4 => intro w hSw; obtain ⟨b0, b1, b2, b3, b4, b5, b6, b7, b8, b9⟩ := HCE.out.2.1 w hSw; go_simp; with_reducible rfl
          simp only [List.setIfInBounds_toArray, List.set_cons_zero, List.set_cons_succ]
          refine' take_at (i := 7) (d := 77) (v := _) rfl rfl (by kernel_rfl) (by kernel_rfl) (by kernel_rfl) (fun _ _ _ h => h) (Or.inl ⟨by rfl, ?h7⟩) (B5.out) ?_
          case h7 => intro w hSw; obtain ⟨b0, b1, b2, b3, b4, b5, b6, b7, b8, b9⟩ := HCE.out.2.2 w hSw; go_simp; with_reducible rfl
          simp only [List.setIfInBounds_toArray, List.set_cons_zero, List.set_cons_succ]
          refine' take_at (i := 11) (d := 81) (v := _) rfl rfl (by kernel_rfl) (by kernel_rfl) (by kernel_rfl) (fun _ _ _ h => h) (Or.inl ⟨by rfl, ?h11⟩) (B5.out) ?_
          case h11 => intro w hSw; obtain ⟨b0, b1, b2, b3, b4, b5, b6, b7, b8, b9⟩ := HCE.out.2.1 w hSw; go_simp; with_reducible rfl
          simp only [List.setIfInBounds_toArray, List.set_cons_zero, List.set_cons_succ]
          refine' take_at (i := 12) (d := 82) (v := _) rfl rfl (by kernel_rfl) (by kernel_rfl) (by kernel_rfl) (fun _ _ _ h => h) (Or.inl ⟨by rfl, ?h12⟩) (B5.out) ?_
          case h12 => intro w hSw; obtain ⟨b0, b1, b2, b3, b4, b5, b6, b7, b8, b9⟩ := HCE.out.2.2 w hSw; go_simp; with_reducible rfl
          simp only [List.setIfInBounds_toArray, List.set_cons_zero, List.set_cons_succ]
          refine wpAnyH_ready (rs := [5]) (by kernel_rfl) (by simp) ?_
          refine AllReadyH.cons (o := _) rfl (fun K hK => ?_) AllReadyH.nil
          go_simp
          refine (HSB.out.put n (.slice p1 L1 e1c) w5 (ss_own (T5.out.duo.fst.later B5.out).own.row) (by have := HE.out.2.1.many; omega) (fun s hs => by have := HE.out.2.1.fit.long s hs; omega) (by have := HE.out.2.1.fit.data; omega)).mono ?_
          rintro e w6 ⟨u6, rfl, hbs, _, hb⟩
          have H6 : Hid (Bs w6 u6 (Kq.bytes n) ∧ Below wr.heap.size wr w6) := ⟨hbs, B5.out.trans (hb.mono B5.out.size)⟩
          obtain ⟨g6, l6, c6, rfl, _, _⟩ := hbs
          rename_i hj1 hj2
          clear hb hj1 hj2
          refine hK.out _ _ H6.out.2 (fun _ => ?_)
          clear hK K
          refine wpAnyH_more (S' := fun w' => Below w6.heap.size w6 w') (fun w' h => H6.out.2.trans (h.mono H6.out.2.size)) _ _ _ _ ?_
          refine' take_at (i := 6) (d := 76) (v := _) rfl rfl (by kernel_rfl) (by kernel_rfl) (by kernel_rfl) (fun _ _ _ h => h) (Or.inl ⟨by rfl, ?h6⟩) ((Below.refl _ _)) ?_
          case h6 => intro w hSw; have hcv := (H6.out.1.below hSw).conv; go_simp; with_reducible rfl
          simp only [List.setIfInBounds_toArray, List.set_cons_zero, List.set_cons_succ]
          refine wpAnyH_ready (rs := [8]) (by kernel_rfl) (by simp) ?_
          refine AllReadyH.cons (o := _) rfl (fun K hK => ?_) AllReadyH.nil
          go_simp
          refine (HSB.out.put m (.slice p2 L2 e2c) w6 (ss_own (T5.out.duo.snd.later H6.out.2).own.row) (by have := HE.out.2.2.1.many; omega) (fun s hs => by have := HE.out.2.2.1.fit.long s hs; omega) (by have := HE.out.2.2.1.fit.data; omega)).mono ?_
          rintro e w7 ⟨u7, rfl, hbs, _, hb⟩
          have H7 : Hid (Bs w7 u7 (Kq.bytes m) ∧ Below w6.heap.size w6 w7 ∧ Below wr.heap.size wr w7) := ⟨hbs, hb, H6.out.2.trans (hb.mono H6.out.2.size)⟩
          obtain ⟨g7, l7, c7, rfl, _, _⟩ := hbs
          rename_i hj1 hj2
          clear hb hj1 hj2
          refine hK.out _ _ H7.out.2.1 (fun _ => ?_)
          clear hK K
          refine wpAnyH_more (S' := fun w' => Below w7.heap.size w7 w') (fun w' h => H7.out.2.1.trans (h.mono H7.out.2.1.size)) _ _ _ _ ?_
          refine' take_at (i := 9) (d := 79) (v := _) rfl rfl (by kernel_rfl) (by kernel_rfl) (by kernel_rfl) (fun _ _ _ h => h) (Or.inl ⟨by rfl, ?h9⟩) ((Below.refl _ _)) ?_
          case h9 => intro w hSw; have hcv := (H7.out.1.below hSw).conv; go_simp; with_reducible rfl
          simp only [List.setIfInBounds_toArray, List.set_cons_zero, List.set_cons_succ]
          refine' take_at (i := 10) (d := 80) (v := _) rfl rfl (by kernel_rfl) (by kernel_rfl) (by kernel_rfl) (fun _ _ _ h => h) (Or.inl ⟨by rfl, ?h10⟩) ((Below.refl _ _)) ?_
          case h10 => intro w hSw; go_simp; with_reducible rfl
          simp only [List.setIfInBounds_toArray, List.set_cons_zero, List.set_cons_succ]
          refine wpAnyH_ready (rs := [13]) (by kernel_rfl) (by simp) ?_
          refine AllReadyH.cons (o := _) rfl (fun K hK => ?_) AllReadyH.nil
          go_simp
          refine (HSB.out.same n m (.slice p1 L1 e1c) (.slice p2 L2 e2c) w7 (ss_own (T5.out.duo.fst.later H7.out.2.2).own.row) (ss_own (T5.out.duo.snd.later H7.out.2.2).own.row) (by have := HE.out.2.1.many; omega) (by have := HE.out.2.2.1.many; omega)).mono ?_
          rintro e w8 ⟨R, rfl, hR, hb⟩
          have B8 : Hid (Below w7.heap.size w7 w8) := hb
          have h1 : (Kq.bytes n == Kq.bytes m) = R := by
            rw [Bool.eq_iff_iff, hR, beq_iff_eq]
            exact ⟨fun h => Kq.bytes_inj HE.out.2.1.fit HE.out.2.2.1.fit h, fun h => by rw [h]⟩
          have HEQ : Hid ((Kq.bytes n == Kq.bytes m) = R) := h1
          clear h1
          clear hb hR
          refine hK.out _ _ B8.out (fun _ => ?_)
          clear hK K
          refine' take_at (i := 14) (d := 84) (v := _) rfl rfl (by kernel_rfl) (by kernel_rfl) (by kernel_rfl) (fun _ _ _ h => h) (Or.inl ⟨by rfl, ?h14⟩) (B8.out) ?_
          case h14 => intro w hSw; go_simp; with_reducible rfl
          simp only [List.setIfInBounds_toArray, List.set_cons_zero, List.set_cons_succ]
          refine' take_at (i := 15) (d := 85) (v := _) rfl rfl (by kernel_rfl) (by kernel_rfl) (by kernel_rfl) (fun _ _ _ h => h) (Or.inl ⟨by rfl, ?h15⟩) (B8.out) ?_
          case h15 => intro w hSw; go_simp; with_reducible rfl
          simp only [List.setIfInBounds_toArray, List.set_cons_zero, List.set_cons_succ]
          refine' take_at (i := 16) (d := 4) (v := _) rfl rfl (by kernel_rfl) (by kernel_rfl) (by kernel_rfl) (fun _ _ _ h => h) (Or.inl ⟨by rfl, ?h16⟩) (B8.out) ?_
          case h16 => intro w hSw; go_simp; with_reducible rfl
          simp only [List.setIfInBounds_toArray, List.set_cons_zero, List.set_cons_succ]
          refine wpAnyH_done (by kernel_rfl) ?_ _
          go_wp2
          go_ret
          exact ⟨by show Ending.returned (.bool ((Kq.bytes n == Kq.bytes m) == R)) = _; rw [HEQ.out]; simp, T5.out.thd.below.trans ((H7.out.2.2.trans (B8.out.mono H7.out.2.2.size)).mono T5.out.thd.below.size)⟩
end Go.Proofs.Ytlgpjgncimcijab
