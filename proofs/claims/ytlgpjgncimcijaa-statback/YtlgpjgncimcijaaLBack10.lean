/- What StatBack answers. -/
import Derived.Test.YtlgpjgncimcijaaActs10
import Derived.Test.YtlgpjgncimcijaaLNames10
namespace Go.Proofs.Ytlgpjgncimcijaa
open Go.RowKit

set_option maxRecDepth 20000 in
set_option maxHeartbeats 8000000 in
theorem back_any10 (S : Specs10) (SB : SpecB10) (z o : Int) (d : ByteArray) (vl : Value) (acs : List Kq.Ac) (W : World) (hz : -9223372036854775808 ≤ z ∧ z ≤ 9223372036854775807) (ho : -9223372036854775808 ≤ o ∧ o ≤ 9223372036854775807) (hd : d.size ≤ maxLen) (hl : Acl10 W vl acs) (hll : acs.length ≤ maxLen) (hok : ∀ x ∈ acs, AcOk x) :
    Calls Try.prog 6 #[.int .i64 z, .int .i64 o, .string d, vl] W fun e w' => e = .returned (.bool true) ∧ Below W.heap.size W w' := by
  have HS : Hid Specs10 := S
  have HSB : Hid SpecB10 := SB
  obtain ⟨av, N, c, rfl, hN, hc⟩ := hl
  have HC : Hid ((∀ (j : Nat) x, acs[j]? = some x → ∃ g o, av = some ⟨g, o, none⟩ ∧ ∀ (i : Nat) u, (aac x)[i]? = some u → W.cell? ⟨g, o + j * 3 + i, none⟩ = some u) ∧ N = acs.length ∧ (∀ x ∈ acs, AcOk x) ∧ (-9223372036854775808 ≤ z ∧ z ≤ 9223372036854775807) ∧ (-9223372036854775808 ≤ o ∧ o ≤ 9223372036854775807)) := ⟨hc, hN, hok, hz, ho⟩
  have hN1 : N ≤ 9223372036854775807 := by unfold maxLen at hll; omega
  have hd1 : d.size ≤ 9223372036854775807 := by unfold maxLen at hd; omega
  clear S SB hc hN hok hz ho hll hd
  go_enter Try.func6, Try.ntmps6
  go_wp2_with fail
  refine (awake_any10 HS.out W).mono ?_
  rintro e w0 ⟨rfl, hb⟩
  have B0 : Hid (Below W.heap.size W w0) := hb
  clear hb
  by_cases h1000 : 1000 < d.size
  · have h1000' : (1000 : Int) < (d.size : Int) := by omega
    go_wp2
    go_ret
    exact ⟨rfl, B0.out⟩
  have h1000' : ¬ (1000 : Int) < (d.size : Int) := by omega
  by_cases h40 : 40 < N
  · have h40' : (40 : Int) < (N : Int) := by omega
    go_wp2
    go_ret
    exact ⟨rfl, B0.out⟩
  have h40' : ¬ (40 : Int) < (N : Int) := by omega
  go_wp2_with fail
  refine (HS.out.new z o d w0 (by omega)).mono ?_
  rintro e x1 ⟨a1, c1, rfl, hr, hb⟩
  obtain ⟨n1, hn⟩ : ∃ n, n = Kq.new z o d := ⟨_, rfl⟩
  have HN1 : Hid (n1 = Kq.new z o d) := hn
  rw [← hn]
  have hM := mine10_made (n := n1) B0.out hb hr (by rw [hn]; rfl) (by rw [hn]; exact fine_new (by omega))
  obtain ⟨q1, hq1⟩ : ∃ z, z = x1.heap.size := ⟨_, rfl⟩
  rw [← hq1] at hM
  have M1 : Hid (Mine10 W (x1.alloc (.cells [.int .i64 n1.made, .int .i64 n1.changed, .int .i64 n1.ver, .int .i64 n1.kids, .int .i64 n1.owner, .int .i64 n1.len, .int .i64 n1.cnt, .string n1.data, .int .i64 n1.next, .slice a1 0 c1].toArray 27)) q1 n1 (.slice a1 0 c1)) := hM
  clear hM hr hb hn
  unfold kv
  go_upto_region 6 with fail
  rw [← hq1]
  clear hq1
  generalize x1.alloc (.cells [.int .i64 n1.made, .int .i64 n1.changed, .int .i64 n1.ver, .int .i64 n1.kids, .int .i64 n1.owner, .int .i64 n1.len, .int .i64 n1.cnt, .string n1.data, .int .i64 n1.next, .slice a1 0 c1].toArray 27) = w1 at *
  have HF1 : Hid (Kq.Fk n1 0) := by
    rw [HN1.out]
    exact Kq.Fk.start HC.out.2.2.2.1 HC.out.2.2.2.2 (by omega)
  clear HN1
  go_wp2
  go_loopw [10] (fun i wr => ∃ (k : Nat) (n : Kq.Kn) (v : Value), k ≤ N ∧ i = .int .i64 (k : Int) ∧ Mine10 W wr q1 n v ∧ Kq.Fk n k) (fun i _ => N - (intOf i).toNat)
  case atStart => exact ⟨0, n1, _, Nat.zero_le _, rfl, M1.out, HF1.out⟩
  case round =>
    obtain ⟨k, n, v, hk, rfl, hM, hF⟩ := hrel
    have HR : Hid (Mine10 W wr q1 n v ∧ Kq.Fk n k) := ⟨hM, hF⟩
    clear hM hF M1 HF1
    by_cases hlt : k < N
    · have hlt' : (k : Int) < (N : Int) := by omega
      have hk0 : (0 : Int) ≤ (k : Int) := by omega
      have hwk : IntKind.wrap .i64 ((k : Int) + 1) = (k : Int) + 1 := by rw [IntKind.wrap_i64]; omega
      obtain ⟨x, hx⟩ : ∃ x, acs[k]? = some x := ⟨_, List.getElem?_eq_getElem (by have := HC.out.2.1; omega)⟩
      have HX : Hid (AcOk x) := HC.out.2.2.1 x (List.mem_of_getElem? hx)
      obtain ⟨g, o2, hav, hcell⟩ := HC.out.1 k x hx
      subst hav
      have HCL : Hid (∀ w', Below W.heap.size W w' → w'.cell? ⟨g, o2 + k * 3, none⟩ = some (.int .i64 x.op) ∧ w'.cell? ⟨g, o2 + k * 3 + 1, none⟩ = some (.int .i64 x.n) ∧ w'.cell? ⟨g, o2 + k * 3 + 2, none⟩ = some (.string x.s)) := fun w' hb => ⟨Below.kept hb (hcell 0 _ rfl), Below.kept hb (hcell 1 _ rfl), Below.kept hb (hcell 2 _ rfl)⟩
      obtain ⟨y0, y1, y2⟩ := HCL.out wr HR.out.1.below
      have hsm : x.s.size ≤ 9223372036854775807 := by have := HX.out.s; unfold maxLen at this; omega
      clear hx hcell
      by_cases h41 : 40 < x.s.size
      · have h41' : (40 : Int) < (x.s.size : Int) := by omega
        go_wp2
        go_ret
        exact ⟨rfl, HR.out.1.below⟩
      have h41' : ¬ (40 : Int) < (x.s.size : Int) := by omega
      have HFA : Hid (Kq.Fk (Kq.act n x) (k + 1)) := HR.out.2.act HX.out.n (by omega) (by omega)
      obtain ⟨op, xn, xs⟩ := x
      simp only [] at y0 y1 y2 h41 h41' hsm
      by_cases o0 : op = 0
      · subst o0
        go_wp2_with fail
        refine (HR.out.1.write HS.out xn xs (by omega)).mono ?_
        rintro e w5 ⟨rfl, hM, hmv⟩
        have M5 : Hid (Mine10 W w5 q1 (Kq.write n xn xs) v) := hM
        clear hM hmv y0 y1 y2
        go_wp2
        go_roundw
        case rel => exact ⟨k + 1, _, _, by omega, by go_num, M5.out, HFA.out⟩
        case measure => simp [intOf]; omega
      · have e0 : (op == 0) = false := by simp [o0]
        have d0 : decide (op = 0) = false := decide_eq_false o0
        by_cases o1 : op = 1
        · subst o1
          go_wp2_with fail
          refine (HR.out.1.add HS.out xs (by omega) (by have := HR.out.2.many; omega) (!Kq.has n.names xs) _ rfl rfl).mono ?_
          rintro e w5 ⟨v5, rfl, hM, hmv⟩
          have M5 : Hid (Mine10 W w5 q1 (Kq.add n xs) v5) := hM
          clear hM hmv y0 y1 y2
          go_wp2
          go_roundw
          case rel => exact ⟨k + 1, _, _, by omega, by go_num, M5.out, HFA.out⟩
          case measure => simp [intOf]; omega
        · have e1 : (op == 1) = false := by simp [o1]
          have d1 : decide (op = 1) = false := decide_eq_false o1
          have HEQ : Hid (Kq.act n ⟨op, xn, xs⟩ = Kq.remove n xs) := by
            have h : Kq.act n ⟨op, xn, xs⟩ = Kq.remove n xs := by unfold Kq.act; rw [if_neg o0, if_neg o1]
            exact h
          go_wp2_with fail
          refine (HR.out.1.remove HS.out xs (by omega) (Kq.has n.names xs) _ rfl rfl).mono ?_
          rintro e w5 ⟨v5, rfl, hM, hmv⟩
          have M5 : Hid (Mine10 W w5 q1 (Kq.remove n xs) v5) := hM
          clear hM hmv y0 y1 y2
          go_wp2
          go_roundw
          case rel => exact ⟨k + 1, _, _, by omega, by go_num, M5.out, by rw [← HEQ.out]; exact HFA.out⟩
          case measure => simp [intOf]; omega
    · have hlt' : ¬ (k : Int) < (N : Int) := by omega
      obtain ⟨va, vc, ev, hvc, hvg⟩ := row_form HR.out.1.own.row
      obtain ⟨L, hL⟩ : ∃ L, L = n.names.length := ⟨_, rfl⟩
      have HL : Hid (L = n.names.length) := hL
      rw [← hL] at ev
      subst ev
      have M5 : Hid (Mine10 W wr q1 n (.slice va L vc) ∧ Kq.Fk n k) := HR.out
      clear HR hvc hvg hL
      have l0 : wr.cell? ⟨q1, 0, none⟩ = some (.int .i64 n.made) := M5.out.1.own.blk.cell 0
      have l1 : wr.cell? ⟨q1, 1, none⟩ = some (.int .i64 n.changed) := M5.out.1.own.blk.cell 1
      have l2 : wr.cell? ⟨q1, 2, none⟩ = some (.int .i64 n.ver) := M5.out.1.own.blk.cell 2
      have l3 : wr.cell? ⟨q1, 3, none⟩ = some (.int .i64 n.kids) := M5.out.1.own.blk.cell 3
      have l4 : wr.cell? ⟨q1, 4, none⟩ = some (.int .i64 n.owner) := M5.out.1.own.blk.cell 4
      have l5 : wr.cell? ⟨q1, 5, none⟩ = some (.int .i64 n.len) := M5.out.1.own.blk.cell 5
      have l6 : wr.cell? ⟨q1, 6, none⟩ = some (.int .i64 n.cnt) := M5.out.1.own.blk.cell 6
      have l7 : wr.cell? ⟨q1, 7, none⟩ = some (.string n.data) := M5.out.1.own.blk.cell 7
      have l8 : wr.cell? ⟨q1, 8, none⟩ = some (.int .i64 n.next) := M5.out.1.own.blk.cell 8
      have l9 : wr.cell? ⟨q1, 9, none⟩ = some (.slice va L vc) := M5.out.1.own.blk.cell 9
      go_wp2_with fail
      refine (HSB.out.put n (.slice va L vc) wr (ss_own M5.out.1.own.row) (by have := M5.out.2.fit.many; omega) (fun s hs => by have := M5.out.2.fit.long s hs; omega) (by have := M5.out.2.fit.data; omega)).mono ?_
      rintro e w5 ⟨u, rfl, hbs, _, hb⟩
      have H5 : Hid (Bs w5 u (Kq.bytes n) ∧ Below wr.heap.size wr w5) := ⟨hbs, hb⟩
      obtain ⟨ua, un, uc, rfl, _, _⟩ := hbs
      rename_i hj1 hj2
      clear hb hj1 hj2
      have hbl : (Kq.bytes n).length ≤ 200000 := by
        have h1 := Kq.bytes_len n
        have h2 := Kq.flat_le n.names 40 M5.out.2.fit.long
        have h3 := M5.out.2.fit.many
        have h4 := M5.out.2.fit.data
        have h5 : n.names.length * (8 + 40) ≤ 500 * 48 := Nat.mul_le_mul_right _ h3
        omega
      go_wp2_with fail
      refine (Pw.read_bs _ (Kq.bytes n) w5 H5.out.1 hbl).mono ?_
      rintro e w6 ⟨qr, rfl, hqr, hrd, hb⟩
      have H6 : Hid (Below w5.heap.size w5 w6 ∧ Pw.Rd w6 qr (Kq.bytes n) false ∧ w5.heap.size ≤ qr) := ⟨hb, hrd, hqr⟩
      clear hb hrd hqr
      go_wp2_with fail
      refine (HSB.out.get qr (Kq.bytes n) false w6 H6.out.2.1 hbl).mono ?_
      rintro e w7 ⟨hyes, _, hg7⟩
      have hgd : Kq.Good (Kq.bytes n) false := by have h := Kq.good_bytes M5.out.2.fit []; rw [List.append_nil] at h; exact h
      have hrw : (Kq.raw (Kq.bytes n) false).1 = n := by have h := Kq.raw_bytes M5.out.2.fit []; rw [List.append_nil] at h; rw [h]
      obtain ⟨v7, rfl, hv7, _⟩ := hyes hgd
      rw [hrw] at hv7 ⊢
      have H7 : Hid (Below wr.heap.size wr w7 ∧ w7.ownsRow w6.heap.size 9 1 v7 n.names.length (sc n.names)) := ⟨H5.out.2.trans ((Below.reader H6.out.1 hg7 (Nat.le_refl _) H6.out.2.2).mono H5.out.2.size), hv7⟩
      obtain ⟨v7a, v7c, ev7, _, _⟩ := row_form hv7
      rename_i hj3 hj4
      rw [← HL.out] at ev7
      subst ev7
      clear hv7 hg7 hyes hgd hrw hj3 hj4 hbl
      clear l0 l1 l2 l3 l4 l5 l6 l7 l8 l9
      unfold kv
      obtain ⟨q8, hq8⟩ : ∃ z, z = w7.heap.size := ⟨_, rfl⟩
      have k8 := Cb.made w7 (k10 n (.slice v7a L v7c)) 27
      have b8 := (Below.refl _ w7).alloc (Nat.le_refl _) (.cells (k10 n (.slice v7a L v7c)).toArray 27)
      rw [← hq8] at k8
      unfold k10 at k8 b8
      go_upto_region 19 with fail
      rw [← hq8]
      generalize w7.alloc (.cells [.int .i64 n.made, .int .i64 n.changed, .int .i64 n.ver, .int .i64 n.kids, .int .i64 n.owner, .int .i64 n.len, .int .i64 n.cnt, .string n.data, .int .i64 n.next, .slice v7a L v7c].toArray 27) = w8 at *
      have H8 : Hid (Mine10 W w8 q1 n (.slice va L vc) ∧ Cb w8 q8 (k10 n (.slice v7a L v7c)) 27 ∧ w8.ownsRow w6.heap.size 9 1 (.slice v7a L v7c) n.names.length (sc n.names)) := ⟨M5.out.1.later (H7.out.1.trans (b8.mono H7.out.1.size)), k8, row_stays H7.out.2 (fun k e => b8.block k (H7.out.2.lt k e).2)⟩
      clear k8 b8 hq8
      have l0 : w8.cell? ⟨q1, 0, none⟩ = some (.int .i64 n.made) := H8.out.1.own.blk.cell 0
      have l1 : w8.cell? ⟨q1, 1, none⟩ = some (.int .i64 n.changed) := H8.out.1.own.blk.cell 1
      have l2 : w8.cell? ⟨q1, 2, none⟩ = some (.int .i64 n.ver) := H8.out.1.own.blk.cell 2
      have l3 : w8.cell? ⟨q1, 3, none⟩ = some (.int .i64 n.kids) := H8.out.1.own.blk.cell 3
      have l4 : w8.cell? ⟨q1, 4, none⟩ = some (.int .i64 n.owner) := H8.out.1.own.blk.cell 4
      have l5 : w8.cell? ⟨q1, 5, none⟩ = some (.int .i64 n.len) := H8.out.1.own.blk.cell 5
      have l6 : w8.cell? ⟨q1, 6, none⟩ = some (.int .i64 n.cnt) := H8.out.1.own.blk.cell 6
      have l7 : w8.cell? ⟨q1, 7, none⟩ = some (.string n.data) := H8.out.1.own.blk.cell 7
      have l8 : w8.cell? ⟨q1, 8, none⟩ = some (.int .i64 n.next) := H8.out.1.own.blk.cell 8
      have l9 : w8.cell? ⟨q1, 9, none⟩ = some (.slice va L vc) := H8.out.1.own.blk.cell 9
      have r0 : w8.cell? ⟨q8, 0, none⟩ = some (.int .i64 n.made) := H8.out.2.1.cell 0
      have r1 : w8.cell? ⟨q8, 1, none⟩ = some (.int .i64 n.changed) := H8.out.2.1.cell 1
      have r2 : w8.cell? ⟨q8, 2, none⟩ = some (.int .i64 n.ver) := H8.out.2.1.cell 2
      have r3 : w8.cell? ⟨q8, 3, none⟩ = some (.int .i64 n.kids) := H8.out.2.1.cell 3
      have r4 : w8.cell? ⟨q8, 4, none⟩ = some (.int .i64 n.owner) := H8.out.2.1.cell 4
      have r5 : w8.cell? ⟨q8, 5, none⟩ = some (.int .i64 n.len) := H8.out.2.1.cell 5
      have r6 : w8.cell? ⟨q8, 6, none⟩ = some (.int .i64 n.cnt) := H8.out.2.1.cell 6
      have r7 : w8.cell? ⟨q8, 7, none⟩ = some (.string n.data) := H8.out.2.1.cell 7
      have r8 : w8.cell? ⟨q8, 8, none⟩ = some (.int .i64 n.next) := H8.out.2.1.cell 8
      have r9 : w8.cell? ⟨q8, 9, none⟩ = some (.slice v7a L v7c) := H8.out.2.1.cell 9
      go_wp2_with fail
      refine (HSB.out.same n n (.slice v7a L v7c) (.slice va L vc) w8 (ss_own H8.out.2.2) (ss_own H8.out.1.own.row) (by have := M5.out.2.fit.many; omega) (by have := M5.out.2.fit.many; omega)).mono ?_
      rintro e w9 ⟨R, rfl, hR, hb⟩
      have hRt : R = true := hR.2 rfl
      subst hRt
      have M9 : Hid (Mine10 W w9 q1 n (.slice va L vc)) := H8.out.1.later hb
      clear hb hR
      clear l0 l1 l2 l3 l4 l5 l6 l7 l8 l9
      clear r0 r1 r2 r3 r4 r5 r6 r7 r8 r9
      have l5 : w9.cell? ⟨q1, 5, none⟩ = some (.int .i64 (n.data.size : Int)) := by rw [M9.out.own.blk.cell 5, ← M5.out.2.fit.len]; rfl
      have l6 : w9.cell? ⟨q1, 6, none⟩ = some (.int .i64 (L : Int)) := by
        have h : n.cnt = (L : Int) := by rw [HL.out]; exact M5.out.2.fit.cnt
        rw [M9.out.own.blk.cell 6, ← h]
        rfl
      have l7 : w9.cell? ⟨q1, 7, none⟩ = some (.string n.data) := M9.out.own.blk.cell 7
      have l9 : w9.cell? ⟨q1, 9, none⟩ = some (.slice va L vc) := M9.out.own.blk.cell 9
      have hds : n.data.size ≤ 9223372036854775807 := by have := M5.out.2.fit.data; omega
      go_wp2
      go_ret
      exact ⟨rfl, M9.out.below⟩
end Go.Proofs.Ytlgpjgncimcijaa
