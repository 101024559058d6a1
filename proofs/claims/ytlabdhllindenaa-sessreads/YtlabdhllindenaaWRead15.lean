/- What readClock, mayLive and readLive do. -/
import Derived.Test.YtlabdhllindenaaWTick15
import Derived.Test.YtlabdhllindenaaLibW
namespace Go.Proofs.Ytlabdhllindenaa
open Go.RowKit

/-- Sessions that are read: a Reader, and what was read, in blocks above the Reader's. -/
structure Gs15 (w0 w : World) (r : Nat) (xs : List UInt8) (bad : Bool) (q : Nat) (s : Sq.St) (v : Value) : Prop where
  rd : Pw.Rd w0.heap.size w r xs bad
  lo : w0.heap.size ≤ r
  se : Ls15 w q s v
  hi : ∀ k, Fs15 v q k → r < k
  below : Below w0.heap.size w0 w
section
variable {w0 w w' : World} {r q : Nat} {xs ys : List UInt8} {bad bad' : Bool} {s : Sq.St} {v : Value}
theorem Gs15.later (h : Gs15 w0 w r xs bad q s v) (hb : Below w.heap.size w w') : Gs15 w0 w' r xs bad q s v :=
  ⟨h.rd.below hb, h.lo, h.se.later hb, h.hi, h.below.trans (hb.mono h.below.size)⟩
theorem Gs15.read (h : Gs15 w0 w r xs bad q s v) (hr : Pw.Rd w0.heap.size w' r ys bad') (hg : w.grownBy w' (some r)) : Gs15 w0 w' r ys bad' q s v := by
  have hk : ∀ k, Fs15 v q k → k < w.heap.size → w'.heap[k]? = w.heap[k]? := fun k hk hl => hg.block k hl (fun e => by have := h.hi k hk; simp at e; omega)
  exact ⟨hr, h.lo, ⟨h.se.blk.keep (hk q (Or.inr rfl) h.se.blk.lt), row_stays h.se.row fun k e => hk k (Or.inl e) (h.se.row.lt k e).2⟩, h.hi, Below.reader h.below hg (Nat.le_refl _) h.lo⟩
/-- A cell of the Sessions' block is set. -/
theorem Gs15.set (h : Gs15 w0 w r xs bad q s v) (i : Nat) (u : Value) (s' : Sq.St) (hl : Cb (w.setCell ⟨q, i, none⟩ u) q [.int .i64 s'.room, .int .i64 s'.now, .int .i64 s'.next, v] 56) (hs : s'.l = s.l) : Gs15 w0 (w.setCell ⟨q, i, none⟩ u) r xs bad q s' v := by
  have hg := grownBy_setCell w ⟨q, i, none⟩ u
  have hap := h.se.blk.apart h.se.row (by decide)
  have hq := h.hi q (Or.inr rfl)
  refine ⟨h.rd.grown hg hq, h.lo, ⟨hl, ?_⟩, h.hi, h.below.grown hg h.below.size (fun k hk => by have := h.lo; simp at hk; omega)⟩
  rw [hs]
  exact row_stays h.se.row fun k hk => hg.block k (h.se.row.lt k hk).2 (fun e => hap (by rw [hk]; simpa using e))
end
theorem wrap_rI (xs : List UInt8) (bad : Bool) : -9223372036854775808 ≤ (Pk.rI xs bad).1 ∧ (Pk.rI xs bad).1 ≤ 9223372036854775807 := Rq.rI_rng xs bad
set_option maxRecDepth 20000 in
set_option maxHeartbeats 4000000 in
theorem clock_any15 (w0 w : World) (r : Nat) (xs : List UInt8) (bad : Bool) (q : Nat) (s : Sq.St) (v : Value) (h : Gs15 w0 w r xs bad q s v) (n k : Int × List UInt8 × Bool) (hn : n = Pk.rI xs bad) (hk : k = Pk.rI n.2.1 n.2.2) :
    Calls Try.prog 34 #[dptr q, dptr r] w fun e w' => e = .returned (.bool (Sq.clockB n.1 k.1)) ∧ Gs15 w0 w' r k.2.1 k.2.2 q ⟨s.room, n.1, k.1, s.l⟩ v := by
  have H0 : Hid (Gs15 w0 w r xs bad q s v ∧ n = Pk.rI xs bad ∧ k = Pk.rI n.2.1 n.2.2) := ⟨h, hn, hk⟩
  clear h hn hk
  unfold dptr
  go_enter Try.func34, Try.ntmps34
  go_wp2_with fail
  refine (Pw.rI64_any r xs bad w H0.out.1.rd).mono ?_
  rintro e w1 ⟨rfl, hr1, hg1⟩
  rw [← H0.out.2.1] at hr1 ⊢
  have H1 : Hid (Gs15 w0 w1 r n.2.1 n.2.2 q s v) := H0.out.1.read hr1 hg1
  clear hr1 hg1
  obtain ⟨z1, hz1⟩ : ∃ z, z = n.1 := ⟨_, rfl⟩
  rw [← hz1]
  have d1 : w1.cell? ⟨q, 1, none⟩ = some (.int .i64 s.now) := H1.out.se.blk.cell 1
  have f1 := H1.out.se.blk.free 1
  have H2 : Hid (Gs15 w0 (w1.setCell ⟨q, 1, none⟩ (.int .i64 z1)) r n.2.1 n.2.2 q ⟨s.room, z1, s.next, s.l⟩ v) := H1.out.set 1 _ _ (H1.out.se.blk.set 1 _) rfl
  have HZ1 : Hid (z1 = n.1) := hz1
  clear hz1
  go_wp2_with fail
  clear d1 f1 H1
  generalize w1.setCell ⟨q, 1, none⟩ (.int .i64 z1) = w2 at *
  refine (Pw.rI64_any r n.2.1 n.2.2 w2 H2.out.rd).mono ?_
  rintro e w3 ⟨rfl, hr3, hg3⟩
  rw [← H0.out.2.2] at hr3 ⊢
  have H3 : Hid (Gs15 w0 w3 r k.2.1 k.2.2 q ⟨s.room, z1, s.next, s.l⟩ v) := H2.out.read hr3 hg3
  clear hr3 hg3 H2
  obtain ⟨z2, hz2⟩ : ∃ z, z = k.1 := ⟨_, rfl⟩
  rw [← hz2]
  have d2 : w3.cell? ⟨q, 2, none⟩ = some (.int .i64 s.next) := H3.out.se.blk.cell 2
  have f2 := H3.out.se.blk.free 2
  have H4 : Hid (Gs15 w0 (w3.setCell ⟨q, 2, none⟩ (.int .i64 z2)) r k.2.1 k.2.2 q ⟨s.room, z1, z2, s.l⟩ v) := H3.out.set 2 _ _ (H3.out.se.blk.set 2 _) rfl
  have HZ2 : Hid (z2 = k.1) := hz2
  clear hz2
  have HR : Hid ((0 ≤ z1 ∧ z1 ≤ 1099511627776 ∧ 1 ≤ z2 ∧ z2 ≤ 1099511627776) ↔ Sq.clockB z1 z2 = true) := Sq.clockB_iff.symm
  go_upto_region 3 with fail
  clear d2 f2 H3
  generalize w3.setCell ⟨q, 2, none⟩ (.int .i64 z2) = w4 at *
  have e1 : w4.cell? ⟨q, 1, none⟩ = some (.int .i64 z1) := H4.out.se.blk.cell 1
  have e2 : w4.cell? ⟨q, 2, none⟩ = some (.int .i64 z2) := H4.out.se.blk.cell 2
  by_cases a1 : 0 ≤ z1
  · by_cases a2 : z1 ≤ 1099511627776
    · by_cases a3 : 1 ≤ z2
      · by_cases a4 : z2 ≤ 1099511627776
        · have HN : Hid (Sq.clockB z1 z2 = true) := HR.out.1 ⟨a1, a2, a3, a4⟩
          go_wp2
          go_ret
          exact ⟨by rw [← HZ1.out, ← HZ2.out, HN.out]; rfl, by rw [← HZ1.out, ← HZ2.out]; exact H4.out⟩
        · have HN : Hid (Sq.clockB z1 z2 = false) := (show Sq.clockB z1 z2 = false by
            cases e : Sq.clockB z1 z2 with
            | false => rfl
            | true => have := HR.out.2 e; omega)
          go_wp2
          go_ret
          exact ⟨by rw [← HZ1.out, ← HZ2.out, HN.out]; rfl, by rw [← HZ1.out, ← HZ2.out]; exact H4.out⟩
      · have HN : Hid (Sq.clockB z1 z2 = false) := (show Sq.clockB z1 z2 = false by
          cases e : Sq.clockB z1 z2 with
          | false => rfl
          | true => have := HR.out.2 e; omega)
        go_wp2
        go_ret
        exact ⟨by rw [← HZ1.out, ← HZ2.out, HN.out]; rfl, by rw [← HZ1.out, ← HZ2.out]; exact H4.out⟩
    · have HN : Hid (Sq.clockB z1 z2 = false) := (show Sq.clockB z1 z2 = false by
        cases e : Sq.clockB z1 z2 with
        | false => rfl
        | true => have := HR.out.2 e; omega)
      go_wp2
      go_ret
      exact ⟨by rw [← HZ1.out, ← HZ2.out, HN.out]; rfl, by rw [← HZ1.out, ← HZ2.out]; exact H4.out⟩
  · have HN : Hid (Sq.clockB z1 z2 = false) := (show Sq.clockB z1 z2 = false by
      cases e : Sq.clockB z1 z2 with
      | false => rfl
      | true => have := HR.out.2 e; omega)
    go_wp2
    go_ret
    exact ⟨by rw [← HZ1.out, ← HZ2.out, HN.out]; rfl, by rw [← HZ1.out, ← HZ2.out]; exact H4.out⟩
def Sq.mayB (now : Int) (x : Sq.One) : Bool := decide (1 ≤ x.span ∧ x.span ≤ 10000 ∧ now < x.till ∧ x.till ≤ now + x.span ∧ x.span ≤ x.till)
theorem Sq.okB_may {now next last : Int} {x : Sq.One} : Sq.okB now next last x = true ↔ (last < x.id ∧ x.id < next ∧ Sq.mayB now x = true) := by
  unfold Sq.mayB
  rw [Sq.okB_iff, decide_eq_true_eq]
set_option maxRecDepth 20000 in
set_option maxHeartbeats 4000000 in
theorem may_any15 (q : Nat) (s : Sq.St) (v : Value) (x : Sq.One) (w : World) (h : Ls15 w q s v) (h0 : 0 ≤ s.now) (h1 : s.now ≤ 1099511627776) (ht : x.till ≤ 9223372036854775807) :
    Calls Try.prog 49 #[dptr q, ov x] w fun e w' => e = .returned (.bool (Sq.mayB s.now x)) ∧ Below w.heap.size w w' := by
  have H0 : Hid (Ls15 w q s v) := h
  obtain ⟨bg, hbg⟩ : ∃ z, z = IntKind.wrap .i64 (x.till - x.span) := ⟨_, rfl⟩
  obtain ⟨xb, hxb⟩ : ∃ z, z = w.heap.size := ⟨_, rfl⟩
  have H1 : Hid (Ls15 (w.alloc (.cells #[.int .i64 x.id, .int .i64 x.span, .int .i64 x.till] 58)) q s v ∧ Cb (w.alloc (.cells #[.int .i64 x.id, .int .i64 x.span, .int .i64 x.till] 58)) xb (oc x) 58 ∧ Below w.heap.size w (w.alloc (.cells #[.int .i64 x.id, .int .i64 x.span, .int .i64 x.till] 58))) := by
    have hb := (Below.refl _ w).alloc (Nat.le_refl _) (.cells #[.int .i64 x.id, .int .i64 x.span, .int .i64 x.till] 58)
    rw [hxb]
    exact ⟨h.later hb, Cb.made w (oc x) _, hb⟩
  unfold dptr ov
  clear h
  go_enter Try.func49, Try.ntmps49
  go_upto_region 1 with fail
  rw [← hxb]
  clear hxb
  generalize (w.alloc (.cells #[.int .i64 x.id, .int .i64 x.span, .int .i64 x.till] 58)) = w1 at *
  have x1 : w1.cell? ⟨xb, 1, none⟩ = some (.int .i64 x.span) := H1.out.2.1.cell 1
  have x2 : w1.cell? ⟨xb, 2, none⟩ = some (.int .i64 x.till) := H1.out.2.1.cell 2
  have c1 : w1.cell? ⟨q, 1, none⟩ = some (.int .i64 s.now) := H1.out.1.blk.cell 1
  rw [eq_comm] at hbg
  by_cases a1 : 1 ≤ x.span
  · by_cases a2 : x.span ≤ 10000
    · by_cases a3 : s.now < x.till
      · have hb2 : x.till - x.span = bg := by rw [← hbg, IntKind.wrap_i64]; omega
        have HBG : Hid (x.till - x.span = bg) := hb2
        clear hb2
        by_cases a4 : 0 ≤ bg
        · by_cases a5 : bg ≤ s.now
          · have HN : Hid (Sq.mayB s.now x = true) := (show Sq.mayB s.now x = true by
              unfold Sq.mayB
              apply decide_eq_true
              have := HBG.out
              omega)
            go_upto_region 2 with fail
            go_quiet (fail)
            have HB2 : Hid (Below w.heap.size w (w1.drewN nq)) := below_drewN H1.out.2.2 _
            go_wp2
            go_ret
            exact ⟨by rw [HN.out]; rfl, HB2.out⟩
          · have HN : Hid (Sq.mayB s.now x = false) := (show Sq.mayB s.now x = false by
              unfold Sq.mayB
              apply decide_eq_false
              have := HBG.out
              omega)
            go_upto_region 2 with fail
            go_quiet (fail)
            have HB2 : Hid (Below w.heap.size w (w1.drewN nq)) := below_drewN H1.out.2.2 _
            go_wp2
            go_ret
            exact ⟨by rw [HN.out]; rfl, HB2.out⟩
        · have HN : Hid (Sq.mayB s.now x = false) := (show Sq.mayB s.now x = false by
            unfold Sq.mayB
            apply decide_eq_false
            have := HBG.out
            omega)
          go_upto_region 2 with fail
          go_quiet (fail)
          have HB2 : Hid (Below w.heap.size w (w1.drewN nq)) := below_drewN H1.out.2.2 _
          go_wp2
          go_ret
          exact ⟨by rw [HN.out]; rfl, HB2.out⟩
      · have HN : Hid (Sq.mayB s.now x = false) := (show Sq.mayB s.now x = false by
          unfold Sq.mayB
          apply decide_eq_false
          omega)
        go_upto_region 2 with fail
        go_quiet (fail)
        have HB2 : Hid (Below w.heap.size w (w1.drewN nq)) := below_drewN H1.out.2.2 _
        go_wp2
        go_ret
        exact ⟨by rw [HN.out]; rfl, HB2.out⟩
    · have HN : Hid (Sq.mayB s.now x = false) := (show Sq.mayB s.now x = false by
        unfold Sq.mayB
        apply decide_eq_false
        omega)
      go_upto_region 2 with fail
      go_quiet (fail)
      have HB2 : Hid (Below w.heap.size w (w1.drewN nq)) := below_drewN H1.out.2.2 _
      go_wp2
      go_ret
      exact ⟨by rw [HN.out]; rfl, HB2.out⟩
  · have HN : Hid (Sq.mayB s.now x = false) := (show Sq.mayB s.now x = false by
      unfold Sq.mayB
      apply decide_eq_false
      omega)
    go_upto_region 2 with fail
    go_quiet (fail)
    have HB2 : Hid (Below w.heap.size w (w1.drewN nq)) := below_drewN H1.out.2.2 _
    go_wp2
    go_ret
    exact ⟨by rw [HN.out]; rfl, HB2.out⟩
end Go.Proofs.Ytlabdhllindenaa
