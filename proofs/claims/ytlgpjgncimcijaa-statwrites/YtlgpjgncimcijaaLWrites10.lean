/- What StatWrites answers. -/
import Derived.Test.YtlgpjgncimcijaaLNames10
import Derived.BigRegion
namespace Go.Proofs.Ytlgpjgncimcijaa.Kq
theorem add_keeps (n : Kn) (s : ByteArray) : (add n s).ver = n.ver ∧ (add n s).data = n.data ∧ (add n s).changed = n.changed ∧ (add n s).made = n.made := by
  unfold add
  split <;> exact ⟨rfl, rfl, rfl, rfl⟩
end Go.Proofs.Ytlgpjgncimcijaa.Kq
namespace Go.Proofs.Ytlgpjgncimcijaa
open Go.RowKit

set_option maxRecDepth 20000 in
set_option maxHeartbeats 8000000 in
theorem writes_any10 (S : Specs10) (u1 u2 : Value) (l ns : List ByteArray) (W : World) (hu1 : Ss W u1 l) (hu2 : Ss W u2 ns) (hl : l.length ≤ maxLen) (hns : ns.length ≤ maxLen) (hs1 : ∀ s ∈ l, s.size ≤ maxLen) (hs2 : ∀ s ∈ ns, s.size ≤ maxLen) :
    Calls Try.prog 8 #[u1, u2] W fun e w' => e = .returned (.bool true) ∧ Below W.heap.size W w' := by
  have HS : Hid Specs10 := S
  obtain ⟨a1v, N, cc1, rfl, hk, hc⟩ := hu1
  obtain ⟨a2v, M, cc2, rfl, hk2, hc2⟩ := hu2
  have HC : Hid ((∀ (j : Nat) s, l[j]? = some s → ∃ g o, a1v = some ⟨g, o, none⟩ ∧ W.cell? ⟨g, o + j, none⟩ = some (.string s)) ∧ N = l.length ∧ ∀ s ∈ l, s.size ≤ maxLen) := ⟨hc, hk, hs1⟩
  have HD : Hid ((∀ (j : Nat) s, ns[j]? = some s → ∃ g o, a2v = some ⟨g, o, none⟩ ∧ W.cell? ⟨g, o + j, none⟩ = some (.string s)) ∧ M = ns.length ∧ ∀ s ∈ ns, s.size ≤ maxLen) := ⟨hc2, hk2, hs2⟩
  have hN1 : N ≤ 9223372036854775807 := by unfold maxLen at hl; omega
  have hM1 : M ≤ 9223372036854775807 := by unfold maxLen at hns; omega
  clear S hc hk hl hs1 hc2 hk2 hs2 hns
  go_enter Try.func8, Try.ntmps8
  go_wp2_with fail
  refine (awake_any10 HS.out W).mono ?_
  rintro e w0 ⟨rfl, hb⟩
  have B0 : Hid (Below W.heap.size W w0) := hb
  clear hb
  by_cases h30 : 30 < N
  · have h30' : (30 : Int) < (N : Int) := by omega
    go_wp2
    go_ret
    exact ⟨rfl, B0.out⟩
  have h30' : ¬ (30 : Int) < (N : Int) := by omega
  by_cases h20 : 20 < M
  · have h20' : (20 : Int) < (M : Int) := by omega
    go_wp2
    go_ret
    exact ⟨rfl, B0.out⟩
  have h20' : ¬ (20 : Int) < (M : Int) := by omega
  go_wp2_with fail
  refine (HS.out.new 3 0 ⟨#[102, 105, 114, 115, 116]⟩ w0 (by decide)).mono ?_
  rintro e x1 ⟨a1, c1, rfl, hr, hb⟩
  obtain ⟨n1, hn⟩ : ∃ n, n = Kq.new 3 0 ⟨#[102, 105, 114, 115, 116]⟩ := ⟨_, rfl⟩
  have HN1 : Hid (n1 = Kq.new 3 0 ⟨#[102, 105, 114, 115, 116]⟩) := hn
  rw [← hn]
  have hM := mine10_made (n := n1) B0.out hb hr (by rw [hn]; rfl) (by rw [hn]; exact fine_new (by decide))
  obtain ⟨q1, hq1⟩ : ∃ z, z = x1.heap.size := ⟨_, rfl⟩
  rw [← hq1] at hM
  have M1 : Hid (Mine10 W (x1.alloc (.cells [.int .i64 n1.made, .int .i64 n1.changed, .int .i64 n1.ver, .int .i64 n1.kids, .int .i64 n1.owner, .int .i64 n1.len, .int .i64 n1.cnt, .string n1.data, .int .i64 n1.next, .slice a1 0 c1].toArray 27)) q1 n1 (.slice a1 0 c1)) := hM
  clear hM hr hb hn
  unfold kv
  go_upto_region 6 with fail
  rw [← hq1]
  clear hq1
  generalize x1.alloc (.cells [.int .i64 n1.made, .int .i64 n1.changed, .int .i64 n1.ver, .int .i64 n1.kids, .int .i64 n1.owner, .int .i64 n1.len, .int .i64 n1.cnt, .string n1.data, .int .i64 n1.next, .slice a1 0 c1].toArray 27) = w1 at *
  have HM1 : Hid (n1.changed = 3 ∧ n1.made = 3 ∧ n1.ver = 0 ∧ n1.names.length = 0) := by
    rw [HN1.out]
    exact ⟨rfl, rfl, rfl, rfl⟩
  clear HN1
  go_wp2
  go_loopw [6] (fun i wr => ∃ (k : Nat) (n : Kq.Kn) (v : Value), k ≤ M ∧ i = .int .i64 (k : Int) ∧ Mine10 W wr q1 n v ∧ n.changed = 3 ∧ n.made = 3 ∧ n.ver = 0 ∧ n.names.length ≤ k) (fun i _ => M - (intOf i).toNat)
  case atStart => exact ⟨0, n1, _, Nat.zero_le _, rfl, M1.out, HM1.out.1, HM1.out.2.1, HM1.out.2.2.1, Nat.le_of_eq HM1.out.2.2.2⟩
  case round =>
    obtain ⟨k, n, v, hk, rfl, hM, hch, hmd, hvr, hnl⟩ := hrel
    have HR : Hid (Mine10 W wr q1 n v ∧ n.changed = 3 ∧ n.made = 3 ∧ n.ver = 0 ∧ n.names.length ≤ k) := ⟨hM, hch, hmd, hvr, hnl⟩
    clear hM hch hmd hvr hnl M1 HM1
    by_cases hlt : k < M
    · have hlt' : (k : Int) < (M : Int) := by omega
      have hk0 : (0 : Int) ≤ (k : Int) := by omega
      have hwk : IntKind.wrap .i64 ((k : Int) + 1) = (k : Int) + 1 := by rw [IntKind.wrap_i64]; omega
      obtain ⟨s, hs⟩ : ∃ s, ns[k]? = some s := ⟨_, List.getElem?_eq_getElem (by have := HD.out.2.1; omega)⟩
      have HX : Hid (s ∈ ns) := List.mem_of_getElem? hs
      obtain ⟨g, o, hav, lx⟩ := HD.out.1 k s hs
      subst hav
      have lx' : wr.cell? ⟨g, o + k, none⟩ = some (.string s) := Below.kept HR.out.1.below lx
      have HLX : Hid (W.cell? ⟨g, o + k, none⟩ = some (.string s)) := lx
      have hsm : s.size ≤ 9223372036854775807 := by have := HD.out.2.2 s HX.out; unfold maxLen at this; omega
      clear hs lx
      by_cases h100 : 100 < s.size
      · have h100' : (100 : Int) < (s.size : Int) := by omega
        go_wp2
        go_ret
        exact ⟨rfl, HR.out.1.below⟩
      have h100' : ¬ (100 : Int) < (s.size : Int) := by omega
      obtain ⟨d, hd⟩ : ∃ d, d = n.data := ⟨_, rfl⟩
      have HDD : Hid (d = n.data) := hd
      have l2 : wr.cell? ⟨q1, 2, none⟩ = some (.int .i64 0) := by rw [HR.out.1.own.blk.cell 2, ← HR.out.2.2.2.1]; rfl
      have l7 : wr.cell? ⟨q1, 7, none⟩ = some (.string d) := by rw [HR.out.1.own.blk.cell 7, hd]; rfl
      clear hd
      go_upto_region 11 with fail
      go_quiet (fail)
      have HRD : Hid (Mine10 W (wr.drewN nq) q1 n v) := HR.out.1.later (below_drewN (Below.refl _ _) _)
      clear l2 l7 lx'
      obtain ⟨n5, hn5⟩ : ∃ z, z = Kq.add n s := ⟨_, rfl⟩
      have HN5 : Hid (n5.ver = 0 ∧ n5.data = d ∧ n5.changed = 3 ∧ n5.made = 3 ∧ n5.names.length ≤ k + 1) := by
        have h := Kq.add_keeps n s
        have h2 := Kq.len_add n s
        have h3 := HR.out.2
        rw [hn5]
        exact ⟨h.1.trans h3.2.2.1, h.2.1.trans HDD.out.symm, h.2.2.1.trans h3.1, h.2.2.2.trans h3.2.1, by have := h3.2.2.2; omega⟩
      have lx' : (wr.drewN nq).cell? ⟨g, o + k, none⟩ = some (.string s) := Below.kept HRD.out.below HLX.out
      generalize wr.drewN nq = wD at *
      go_wp2_with fail
      refine (HRD.out.add HS.out s (by omega) (by have := HR.out.2.2.2.2; omega) (!Kq.has n.names s) n5 rfl hn5.symm).mono ?_
      rintro e w5 ⟨v5, rfl, hM, hmv⟩
      have M5 : Hid (Mine10 W w5 q1 n5 v5) := hM
      clear hM hmv lx' hn5
      have l1 : w5.cell? ⟨q1, 1, none⟩ = some (.int .i64 3) := by rw [M5.out.own.blk.cell 1, ← HN5.out.2.2.1]; rfl
      have l2 : w5.cell? ⟨q1, 2, none⟩ = some (.int .i64 0) := by rw [M5.out.own.blk.cell 2, ← HN5.out.1]; rfl
      have l7 : w5.cell? ⟨q1, 7, none⟩ = some (.string d) := by rw [M5.out.own.blk.cell 7, ← HN5.out.2.1]; rfl
      go_wp2
      go_roundw
      case rel => exact ⟨k + 1, n5, v5, by omega, by go_num, M5.out, HN5.out.2.2.1, HN5.out.2.2.2.1, HN5.out.1, HN5.out.2.2.2.2⟩
      case measure => simp [intOf]; omega
    · have hlt' : ¬ (k : Int) < (M : Int) := by omega
      obtain ⟨kk, hkk⟩ : ∃ z, z = n.kids := ⟨_, rfl⟩
      obtain ⟨cc, hcc⟩ : ∃ z, z = n.cnt := ⟨_, rfl⟩
      have HKC : Hid (kk = n.kids ∧ cc = n.cnt) := ⟨hkk, hcc⟩
      have l3 : wr.cell? ⟨q1, 3, none⟩ = some (.int .i64 kk) := by rw [HR.out.1.own.blk.cell 3, hkk]; rfl
      have l6 : wr.cell? ⟨q1, 6, none⟩ = some (.int .i64 cc) := by rw [HR.out.1.own.blk.cell 6, hcc]; rfl
      clear hkk hcc
      go_upto_region 15 with fail
      go_quiet (fail)
      have M5 : Hid (Mine10 W (wr.drewN nq) q1 n v) := HR.out.1.later (below_drewN (Below.refl _ _) _)
      clear l3 l6
      generalize wr.drewN nq = wD at *
      go_wp2
      go_loopw [11] (fun i wr => ∃ (k : Nat) (n : Kq.Kn) (v : Value), k ≤ N ∧ i = .int .i64 (k : Int) ∧ Mine10 W wr q1 n v ∧ n.made = 3 ∧ n.ver = (k : Int) ∧ n.kids = kk ∧ n.cnt = cc ∧ n.names.length ≤ 20) (fun i _ => N - (intOf i).toNat)
      case atStart => exact ⟨0, n, _, Nat.zero_le _, rfl, M5.out, HR.out.2.2.1, HR.out.2.2.2.1, HKC.out.1.symm, HKC.out.2.symm, by have := HR.out.2.2.2.2; omega⟩
      case round =>
        obtain ⟨j, n6, v6, hj, rfl, hM, hmd, hvr, hki, hcn, hnl⟩ := hrel
        have HQ : Hid (Mine10 W wr q1 n6 v6 ∧ n6.made = 3 ∧ n6.ver = (j : Int) ∧ n6.kids = kk ∧ n6.cnt = cc ∧ n6.names.length ≤ 20) := ⟨hM, hmd, hvr, hki, hcn, hnl⟩
        clear hM hmd hvr hki hcn hnl M5 HR HKC
        by_cases hjN : j < N
        · have hjN' : (j : Int) < (N : Int) := by omega
          have hj0 : (0 : Int) ≤ (j : Int) := by omega
          have hwj : IntKind.wrap .i64 ((j : Int) + 1) = (j : Int) + 1 := by rw [IntKind.wrap_i64]; omega
          have hw10 : IntKind.wrap .i64 (10 + (j : Int)) = 10 + (j : Int) := by rw [IntKind.wrap_i64]; omega
          obtain ⟨s, hs⟩ : ∃ s, l[j]? = some s := ⟨_, List.getElem?_eq_getElem (by have := HC.out.2.1; omega)⟩
          have HX : Hid (s ∈ l) := List.mem_of_getElem? hs
          obtain ⟨g, o, hav, lx⟩ := HC.out.1 j s hs
          subst hav
          have lx' : wr.cell? ⟨g, o + j, none⟩ = some (.string s) := Below.kept HQ.out.1.below lx
          have HLX : Hid (W.cell? ⟨g, o + j, none⟩ = some (.string s)) := lx
          have hsm : s.size ≤ 9223372036854775807 := by have := HC.out.2.2 s HX.out; unfold maxLen at this; omega
          clear hs lx
          by_cases h200 : 200 < s.size
          · have h200' : (200 : Int) < (s.size : Int) := by omega
            go_wp2
            go_ret
            exact ⟨rfl, HQ.out.1.below⟩
          have h200' : ¬ (200 : Int) < (s.size : Int) := by omega
          go_wp2_with fail
          refine (HQ.out.1.write HS.out (10 + (j : Int)) s (by omega)).mono ?_
          rintro e w7 ⟨rfl, hM, hmv⟩
          have M7 : Hid (Mine10 W w7 q1 (Kq.write n6 (10 + (j : Int)) s) v6) := hM
          clear hM hmv lx'
          have HV : Hid (Kq.more n6.ver = ((j : Int) + 1)) := by
            have h : Kq.more n6.ver = ((j : Int) + 1) := by
              rw [HQ.out.2.2.1, Kq.more_nat (by omega)]
              omega
            exact h
          have l1 : w7.cell? ⟨q1, 1, none⟩ = some (.int .i64 (10 + (j : Int))) := M7.out.own.blk.cell 1
          have l2 : w7.cell? ⟨q1, 2, none⟩ = some (.int .i64 ((j : Int) + 1)) := by rw [M7.out.own.blk.cell 2, ← HV.out]; rfl
          have l5 : w7.cell? ⟨q1, 5, none⟩ = some (.int .i64 (s.size : Int)) := M7.out.own.blk.cell 5
          have l7 : w7.cell? ⟨q1, 7, none⟩ = some (.string s) := M7.out.own.blk.cell 7
          have lx' : w7.cell? ⟨g, o + j, none⟩ = some (.string s) := Below.kept M7.out.below HLX.out
          have b1 : (((j : Int) + 1) != ((j : Int) + 1)) = false := by simp
          have b2 : ((10 + (j : Int)) != (10 + (j : Int))) = false := by simp
          have b3 : (s.toList != s.toList) = false := by simp
          have b4 : ((s.size : Int) != (s.size : Int)) = false := by simp
          go_upto_region 22 with fail
          go_quiet (fail)
          have M8 : Hid (Mine10 W (w7.drewN nq) q1 (Kq.write n6 (10 + (j : Int)) s) v6) := M7.out.later (below_drewN (Below.refl _ _) _)
          clear l1 l2 l5 l7 lx'
          generalize w7.drewN nq = w8 at *
          go_wp2
          go_roundw
          case rel => exact ⟨j + 1, _, v6, by omega, by go_num, M8.out, HQ.out.2.1, HV.out.trans (by omega), HQ.out.2.2.2.1, HQ.out.2.2.2.2.1, HQ.out.2.2.2.2.2⟩
          case measure => simp [intOf]; omega
        · have hjN' : ¬ (j : Int) < (N : Int) := by omega
          obtain ⟨va, vc, ev, _, _⟩ := row_form HQ.out.1.own.row
          rename_i hj1 hj2
          have HV6 : Hid (Ss wr v6 n6.names) := ss_own HQ.out.1.own.row
          have l3 : wr.cell? ⟨q1, 3, none⟩ = some (.int .i64 kk) := by rw [HQ.out.1.own.blk.cell 3, ← HQ.out.2.2.2.1]; rfl
          have l6 : wr.cell? ⟨q1, 6, none⟩ = some (.int .i64 cc) := by rw [HQ.out.1.own.blk.cell 6, ← HQ.out.2.2.2.2.1]; rfl
          have l0 : wr.cell? ⟨q1, 0, none⟩ = some (.int .i64 3) := by rw [HQ.out.1.own.blk.cell 0, ← HQ.out.2.1]; rfl
          have l9 : wr.cell? ⟨q1, 9, none⟩ = some v6 := HQ.out.1.own.blk.cell 9
          obtain ⟨nn, hnn⟩ : ∃ z, z = n6.names.length := ⟨_, rfl⟩
          rw [← hnn] at ev
          rw [ev] at l9
          have HEV : Hid (v6 = .slice va nn vc) := ev
          clear hj1 hj2 ev hnn
          go_wp2_with fail
          refine (rising_any (.slice va nn vc) n6.names wr (by rw [← HEV.out]; exact HV6.out) (by have := HQ.out.2.2.2.2.2; omega)).mono ?_
          rintro e w9 ⟨R, rfl, hR, hb⟩
          have hRt := hR.2 HQ.out.1.own.rises
          subst hRt
          have HB9 : Hid (Below W.heap.size W w9) := HQ.out.1.below.trans (hb.mono HQ.out.1.below.size)
          clear hb hR
          go_wp2
          go_ret
          exact ⟨rfl, HB9.out⟩
end Go.Proofs.Ytlgpjgncimcijaa
