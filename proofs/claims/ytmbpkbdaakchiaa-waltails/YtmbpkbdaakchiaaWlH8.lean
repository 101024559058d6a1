/- What the landed log answers to CutTo: its walk. -/
import Derived.Test.YtmbpkbdaakchiaaWlG8
namespace Go.Proofs.Ytmbpkbdaakchiaa
open Go.RowKit

/-- The rows from one on are gone. -/
theorem WlU.cutRows {w w4 : World} {ql qd gg m cv j : Nat} {g : Wq.Lg} {G : Nat → Prop} {us : List Value} {sz : Int} (h : WlU w ql qd g G (.slice (some ⟨gg, 0, none⟩) m cv) us sz) (hj : j ≤ g.recs.length) (hg : w.grownBy w4 (some gg)) (ho : w4.ownsRow 0 31 1 (.slice (some ⟨gg, 0, none⟩) j cv) j (us.take j)) :
    WlU (w4.setCell ⟨ql, 4, none⟩ (.slice (some ⟨gg, 0, none⟩) j cv)) ql qd { g with recs := g.recs.take j } (Gl w w4 G) (.slice (some ⟨gg, 0, none⟩) j cv) (us.take j) sz ∧ Moved w (w4.setCell ⟨ql, 4, none⟩ (.slice (some ⟨gg, 0, none⟩) j cv)) G (Gl w w4 G) := by
  have hl : (g.recs.take j).length = j := by rw [List.length_take]; omega
  refine h.put hg ⟨h.fine.lo, h.fine.hi, ?_, fun r hr => h.fine.recs r (List.mem_of_mem_take hr)⟩ (by rw [hl]; exact ho) (fun k e => Or.inl (h.gv k e)) (fun i u x hu hx => ?_)
  · show (g.recs.take j).length ≤ 10000
    have := h.fine.len
    omega
  · have hij : i < j := by
      have := (List.getElem?_eq_some_iff.1 hx).1
      omega
    rw [List.getElem?_take, if_pos hij] at hu hx
    obtain ⟨h4, h5⟩ := h.rows i u x hu hx
    exact ⟨h4.kept hg (own_kinds h.own h4 (by decide)), fun k e => Or.inl (h5 k e)⟩

/-- How many bytes the frames of those that stay have, and of those from k on behind them. -/
def zAt (l : List (List UInt8)) (j k : Nat) : Nat := (Fr.frames (l.take j)).length + (Fr.frames (l.drop (j + k))).length
theorem zAt_start (l : List (List UInt8)) (j : Nat) : zAt l j 0 = (Fr.frames l).length := by
  unfold zAt
  rw [Nat.add_zero, ← List.length_append, ← Fr.frames_app, List.take_append_drop]
theorem zAt_next {l : List (List UInt8)} {j k : Nat} {x : List UInt8} (h : l[j + k]? = some x) : zAt l j k = zAt l j (k + 1) + (12 + x.length) := by
  unfold zAt
  obtain ⟨hlt, hx⟩ := List.getElem?_eq_some_iff.1 h
  rw [List.drop_eq_getElem_cons hlt, hx, Fr.frames_cons, List.length_append, Fr.frame_len, Nat.add_assoc j k 1]
  omega
theorem zAt_end (l : List (List UInt8)) (j k : Nat) (h : l.length ≤ j + k) : zAt l j k = (Fr.frames (l.take j)).length := by
  unfold zAt
  rw [List.drop_eq_nil_iff.2 h]
  simp [Fr.frames]
theorem zAt_le (l : List (List UInt8)) (j k : Nat) : zAt l j k ≤ (Fr.frames l).length := by
  have h : (Fr.frames (l.drop (j + k))).length ≤ (Fr.frames (l.drop j)).length := by
    have e : l.drop j = (l.drop j).take k ++ l.drop (j + k) := by rw [← List.drop_drop, List.take_append_drop]
    rw [e, Fr.frames_app, List.length_append]
    omega
  have h2 := zAt_start l j
  unfold zAt at h2 ⊢
  rw [Nat.add_zero] at h2
  omega

set_option maxRecDepth 20000 in
set_option maxHeartbeats 8000000 in
theorem cutToW_any (ql qd : Nat) (g : Wq.Lg) (st : Dq.St) (F G : Nat → Prop) (v : Value) (us : List Value) (n : Int) (w : World) (hd : DkD w qd st F) (hg : WlU w ql qd g G v us ((Fr.frames g.recs).length : Int)) (ha : ∀ k, F k → ¬ G k) (hf : Fine st) (hoff : st.off = false) (n1 : -9223372036854775808 ≤ n) (n2 : n ≤ 9223372036854775807) :
    Calls Try.prog 13 #[dptr ql, .int .i64 n] w fun e w' => e = .returned (.int .i64 (Wq.cutTo g st n).1) ∧ Post8 DkD WlD w ql qd F G (Wq.cutTo g st n).2.1 (Wq.cutTo g st n).2.2 w' := by
  have HD : Hid (DkD w qd st F ∧ WlU w ql qd g G v us ((Fr.frames g.recs).length : Int) ∧ (∀ k, F k → ¬ G k) ∧ Fine st) := ⟨hd, hg, ha, hf⟩
  have HO : Hid (Calls Try.prog 27 #[dptr ql] w fun e w' => e = .returned (.bool (dn g st)) ∧ ∃ n, w' = w.drewN n) := isDone_any ql qd g st F G v us _ w hd hg
  obtain ⟨av, cv, rfl, hcv⟩ := row_slice hg.own
  have hlo := hg.fine.lo
  have hhi := hg.fine.hi
  have hl := hg.fine.len
  clear hd hg ha hf
  rw [dn_on hoff] at HO
  clear hoff
  cases ho : Wq.off g st with
  | true =>
    have HX : Hid (Wq.cutTo g st n = (10, { g with done := true }, st) ∧ Wq.off g st = true) := by
      have h : Wq.cutTo g st n = (10, { g with done := true }, st) := by unfold Wq.cutTo; rw [if_pos ho]
      exact ⟨h, ho⟩
    rw [HX.out.1]
    rw [ho] at HO
    clear ho
    go_enter Try.func13, Try.ntmps13
    go_wp2_with fail
    refine HO.out.mono ?_
    rintro e w1 ⟨rfl, n9, hw1⟩
    have HB : Hid (Below w.heap.size w w1) := by rw [hw1]; exact below_drewN (Below.refl _ _) _
    have HD1 : Hid (DkD w1 qd st F ∧ WlU w1 ql qd g G (.slice av g.recs.length cv) us ((Fr.frames g.recs).length : Int)) := ⟨HD.out.1.below HB.out, HD.out.2.1.below HB.out⟩
    clear hw1
    go_wp2
    go_ret
    exact ⟨rfl, (post_dead HD1.out.1 ⟨_, us, HD1.out.2⟩ HD.out.2.2.1 HX.out.2).before (Moved.of_below _ HB.out)⟩
  | false =>
    rw [ho] at HO
    have HOF : Hid (Wq.off g st = false) := ho
    clear ho
    obtain ⟨m, hm⟩ : ∃ m, m = g.recs.length := ⟨_, rfl⟩
    obtain ⟨f, hf⟩ : ∃ f, f = g.first := ⟨_, rfl⟩
    have HMF : Hid (m = g.recs.length ∧ f = g.first) := ⟨hm, hf⟩
    have HNX : Hid (Wq.next g = f + (m : Int)) := by
      have h : Wq.next g = f + (m : Int) := by rw [hm, hf]; rfl
      exact h
    rw [← hm] at hl hcv
    rw [← hf] at hlo hhi
    rw [← hm] at HD
    clear hm hf
    by_cases c1 : n < f
    · have HX : Hid (Wq.cutTo g st n = (1, g, st)) := Wq.cutTo_no HOF.out (Or.inl (by rw [← HMF.out.2]; exact c1))
      rw [HX.out]
      have c1b : decide (n < f) = true := by simp [c1]
      go_enter Try.func13, Try.ntmps13
      go_wp2_with fail
      refine HO.out.mono ?_
      rintro e w1 ⟨rfl, n9, hw1⟩
      have HB : Hid (Below w.heap.size w w1) := by rw [hw1]; exact below_drewN (Below.refl _ _) _
      have HD1 : Hid (DkD w1 qd st F ∧ WlU w1 ql qd g G (.slice av m cv) us ((Fr.frames g.recs).length : Int)) := ⟨HD.out.1.below HB.out, HD.out.2.1.below HB.out⟩
      clear hw1
      go_wp2_with fail
      refine (first_any8 ql qd g G (.slice av m cv) us _ w1 HD1.out.2).mono ?_
      rintro e w2 ⟨rfl, hw2⟩
      rw [hw2, ← HMF.out.2]
      clear hw2 w2
      go_wp2
      go_ret
      exact ⟨rfl, post_of HD1.out.1 ⟨_, us, HD1.out.2⟩ HD.out.2.2.1 (Moved.of_below _ HB.out)⟩
    have c1b : decide (n < f) = false := by simp [c1]
    by_cases c2 : f + (m : Int) < n
    · have HX : Hid (Wq.cutTo g st n = (1, g, st)) := Wq.cutTo_no HOF.out (Or.inr (by rw [← HMF.out.1, ← HMF.out.2]; omega))
      rw [HX.out]
      go_enter Try.func13, Try.ntmps13
      go_wp2_with fail
      refine HO.out.mono ?_
      rintro e w1 ⟨rfl, n9, hw1⟩
      have HB : Hid (Below w.heap.size w w1) := by rw [hw1]; exact below_drewN (Below.refl _ _) _
      have HD1 : Hid (DkD w1 qd st F ∧ WlU w1 ql qd g G (.slice av m cv) us ((Fr.frames g.recs).length : Int)) := ⟨HD.out.1.below HB.out, HD.out.2.1.below HB.out⟩
      clear hw1
      go_wp2_with fail
      refine (first_any8 ql qd g G (.slice av m cv) us _ w1 HD1.out.2).mono ?_
      rintro e w2 ⟨rfl, hw2⟩
      rw [hw2, ← HMF.out.2]
      clear hw2 w2
      go_wp2_with fail
      refine (next_any8 ql qd g G (.slice av m cv) us _ w1 HD1.out.2).mono ?_
      rintro e w2 ⟨rfl, n8, hw2⟩
      rw [HNX.out]
      have HB2 : Hid (Below w1.heap.size w1 w2) := by rw [hw2]; exact below_drewN (Below.refl _ _) _
      clear hw2
      go_wp2
      go_ret
      exact ⟨rfl, post_of (HD1.out.1.below HB2.out) ⟨_, us, HD1.out.2.below HB2.out⟩ HD.out.2.2.1 (Moved.of_below _ (HB.out.trans (HB2.out.mono HB.out.size)))⟩
    by_cases c3 : n = f + (m : Int)
    · have HX : Hid (Wq.cutTo g st n = (0, g, st)) := by
        have h : Wq.cutTo g st n = (0, g, st) := by
          unfold Wq.cutTo
          rw [HOF.out, if_neg (by simp), if_neg (by rw [← HMF.out.1, ← HMF.out.2]; omega), if_pos (by rw [HNX.out]; exact c3)]
        exact h
      rw [HX.out]
      subst c3
      go_enter Try.func13, Try.ntmps13
      go_wp2_with fail
      refine HO.out.mono ?_
      rintro e w1 ⟨rfl, n9, hw1⟩
      have HB : Hid (Below w.heap.size w w1) := by rw [hw1]; exact below_drewN (Below.refl _ _) _
      have HD1 : Hid (DkD w1 qd st F ∧ WlU w1 ql qd g G (.slice av m cv) us ((Fr.frames g.recs).length : Int)) := ⟨HD.out.1.below HB.out, HD.out.2.1.below HB.out⟩
      clear hw1
      go_wp2_with fail
      refine (first_any8 ql qd g G (.slice av m cv) us _ w1 HD1.out.2).mono ?_
      rintro e w2 ⟨rfl, hw2⟩
      rw [hw2, ← HMF.out.2]
      clear hw2 w2
      go_wp2_with fail
      refine (next_any8 ql qd g G (.slice av m cv) us _ w1 HD1.out.2).mono ?_
      rintro e w2 ⟨rfl, n8, hw2⟩
      rw [HNX.out]
      have HB2 : Hid (Below w1.heap.size w1 w2) := by rw [hw2]; exact below_drewN (Below.refl _ _) _
      clear hw2
      go_wp2_with fail
      refine (next_any8 ql qd g G (.slice av m cv) us _ w2 (HD1.out.2.below HB2.out)).mono ?_
      rintro e w3 ⟨rfl, n7, hw3⟩
      rw [HNX.out]
      have HB3 : Hid (Below w.heap.size w w3) := by rw [hw3]; exact below_drewN (HB.out.trans (HB2.out.mono HB.out.size)) _
      clear hw3
      go_wp2
      go_ret
      exact ⟨rfl, post_of (HD.out.1.below HB3.out) ⟨_, us, HD.out.2.1.below HB3.out⟩ HD.out.2.2.1 (Moved.of_below _ HB3.out)⟩
    obtain ⟨j, hj⟩ : ∃ j : Nat, n - f = (j : Int) := ⟨(n - f).toNat, by omega⟩
    have hjm : j < m := by omega
    obtain ⟨T, hT⟩ : ∃ T, T = (Fr.frames (g.recs.take j)).length := ⟨_, rfl⟩
    have HT : Hid (T = (Fr.frames (g.recs.take j)).length) := hT
    have HCE : Hid (Wq.cutTo g st n = if (Dq.cut st Wq.logN (T : Int)).1 = 0 then (0, { g with recs := g.recs.take j }, (Dq.cut st Wq.logN (T : Int)).2) else ((Dq.cut st Wq.logN (T : Int)).1, { g with done := true }, (Dq.cut st Wq.logN (T : Int)).2)) := by
      have hn : (n - g.first).toNat = j := by rw [← HMF.out.2]; omega
      have h : Wq.cutTo g st n = if (Dq.cut st Wq.logN (T : Int)).1 = 0 then (0, { g with recs := g.recs.take j }, (Dq.cut st Wq.logN (T : Int)).2) else ((Dq.cut st Wq.logN (T : Int)).1, { g with done := true }, (Dq.cut st Wq.logN (T : Int)).2) := by
        unfold Wq.cutTo
        rw [HOF.out, if_neg (by simp), if_neg (by rw [← HMF.out.1, ← HMF.out.2]; omega), if_neg (by rw [HNX.out]; exact c3), hn, ← hT]
      exact h
    clear hT
    have c3b : (n == f + (m : Int)) = false := by simp [c3]
    have c2b : ¬ f + (m : Int) < n := c2
    clear c3
    by_cases hz : (Dq.cut st Wq.logN (T : Int)).1 = 0
    · have HX : Hid (Wq.cutTo g st n = (0, { g with recs := g.recs.take j }, (Dq.cut st Wq.logN (T : Int)).2) ∧ (Dq.cut st Wq.logN (T : Int)).1 = 0) := ⟨by rw [HCE.out, if_pos hz], hz⟩
      rw [HX.out.1]
      clear hz
      go_enter Try.func13, Try.ntmps13
      go_wp2_with fail
      refine HO.out.mono ?_
      rintro e w1 ⟨rfl, n9, hw1⟩
      have HB : Hid (Below w.heap.size w w1) := by rw [hw1]; exact below_drewN (Below.refl _ _) _
      have HD1 : Hid (DkD w1 qd st F ∧ WlU w1 ql qd g G (.slice av m cv) us ((Fr.frames g.recs).length : Int)) := ⟨HD.out.1.below HB.out, HD.out.2.1.below HB.out⟩
      clear hw1
      go_wp2_with fail
      refine (first_any8 ql qd g G (.slice av m cv) us _ w1 HD1.out.2).mono ?_
      rintro e w2 ⟨rfl, hw2⟩
      rw [hw2, ← HMF.out.2]
      clear hw2 w2
      go_wp2_with fail
      refine (next_any8 ql qd g G (.slice av m cv) us _ w1 HD1.out.2).mono ?_
      rintro e w2 ⟨rfl, n8, hw2⟩
      rw [HNX.out]
      have HB2 : Hid (Below w1.heap.size w1 w2) := by rw [hw2]; exact below_drewN (Below.refl _ _) _
      clear hw2
      go_wp2_with fail
      refine (next_any8 ql qd g G (.slice av m cv) us _ w2 (HD1.out.2.below HB2.out)).mono ?_
      rintro e w3 ⟨rfl, n7, hw3⟩
      rw [HNX.out]
      have HB3 : Hid (Below w.heap.size w w3) := by rw [hw3]; exact below_drewN (HB.out.trans (HB2.out.mono HB.out.size)) _
      clear hw3
      obtain ⟨gg, hav⟩ : ∃ gg, av = some ⟨gg, 0, none⟩ := by
        rcases HD1.out.2.own.2 with ⟨e, h0⟩ | ⟨gg, cap, cur, e, _⟩
        · have := HMF.out.1; omega
        · simp only [Value.slice.injEq] at e
          exact ⟨gg, e.1⟩
      subst hav
      obtain ⟨sz, hsz⟩ : ∃ sz, sz = (Fr.frames g.recs).length := ⟨_, rfl⟩
      have HSZ : Hid (sz = (Fr.frames g.recs).length ∧ sz ≤ 1000000000) := ⟨hsz, by rw [hsz]; exact frames_small HD.out.2.1.fine⟩
      clear hsz
      have HW3 : Hid (DkD w3 qd st F ∧ WlU w3 ql qd g G (.slice (some ⟨gg, 0, none⟩) m cv) us (sz : Int)) := ⟨HD.out.1.below HB3.out, by rw [HSZ.out.1]; exact HD.out.2.1.below HB3.out⟩
      have l3 : w3.cell? ⟨ql, 3, none⟩ = some (.int .i64 f) := by rw [HMF.out.2]; exact HW3.out.2.blk.cell 3
      have l5 : w3.cell? ⟨ql, 5, none⟩ = some (.int .i64 (sz : Int)) := HW3.out.2.blk.cell 5
      have hj0 : (0 : Int) ≤ (j : Int) := by omega
      have hjm2 : (j : Int) < (m : Int) := by omega
      have hwj : IntKind.wrap .i64 (j : Int) = (j : Int) := by rw [IntKind.wrap_i64]; omega
      have hjc : ¬ cv = j := by omega
      have hjc2 : (j : Int) ≤ (cv : Int) := by omega
      have hjm3 : (j : Int) ≤ (m : Int) := by omega
      clear c1b c2b c3b n1 n2 c1 c2
      go_wp2
      go_quiet (fail)
      clear l3 l5
      have HB4 : Hid (Below w.heap.size w (w3.drewN nq)) := below_drewN HB3.out _
      have HW4 : Hid (DkD (w3.drewN nq) qd st F ∧ WlU (w3.drewN nq) ql qd g G (.slice (some ⟨gg, 0, none⟩) m cv) us (sz : Int)) := ⟨HD.out.1.below HB4.out, by rw [HSZ.out.1]; exact HD.out.2.1.below HB4.out⟩
      clear HW3 HB3
      generalize w3.drewN nq = w4 at *
      have l4 : w4.cell? ⟨ql, 4, none⟩ = some (.slice (some ⟨gg, 0, none⟩) m cv) := HW4.out.2.blk.cell 4
      have HO4 : Hid (w4.ownsRow 0 31 1 (.slice (some ⟨gg, 0, none⟩) m cv) m us) := by
        have h := HW4.out.2.own
        rw [← HMF.out.1] at h
        exact h
      go_wp2
      go_loopw [6, 43] (fun s i wr => ∃ k : Nat, k ≤ m - j ∧ i = .int .i64 (k : Int) ∧ s = .int .i64 (zAt g.recs j k : Int) ∧ wr = w4) (fun _ i _ => (m - j) - (intOf i).toNat)
      case atStart => exact ⟨0, by omega, rfl, by rw [zAt_start, HSZ.out.1], rfl⟩
      case round =>
        obtain ⟨k, hk, rfl, rfl, rfl⟩ := hrel
        obtain ⟨z, hz⟩ : ∃ z : Nat, z = zAt g.recs j k := ⟨_, rfl⟩
        have HZK : Hid (z = zAt g.recs j k ∧ z ≤ 1000000000) := ⟨hz, by rw [hz]; exact Nat.le_trans (zAt_le _ _ _) (by rw [← HSZ.out.1]; exact HSZ.out.2)⟩
        rw [← hz]
        clear hz
        by_cases hlt : k < m - j
        · obtain ⟨x, hx⟩ : ∃ x, g.recs[j + k]? = some x := ⟨g.recs[j + k]'(by rw [← HMF.out.1]; omega), List.getElem?_eq_getElem _⟩
          obtain ⟨u, hu⟩ : ∃ u, us[j + k]? = some u := ⟨us[j + k]'(by rw [HW4.out.2.ulen, ← HMF.out.1]; omega), List.getElem?_eq_getElem _⟩
          have lu : wr.cell? ⟨gg, j + k, none⟩ = some u := by rw [HO4.out.cellAt (j + k) (by omega), hu]
          obtain ⟨au, cu, hu2, hcu⟩ := row_slice (HW4.out.2.rows (j + k) u x hu hx).1
          subst hu2
          obtain ⟨z2, hz2⟩ : ∃ z2 : Nat, z2 = zAt g.recs j (k + 1) := ⟨_, rfl⟩
          have HZ2 : Hid (z2 = zAt g.recs j (k + 1) ∧ z = z2 + (12 + x.length)) := ⟨hz2, by rw [HZK.out.1, hz2]; exact zAt_next hx⟩
          obtain ⟨xl, hxl⟩ : ∃ xl, xl = x.length := ⟨_, rfl⟩
          rw [← hxl] at HZ2 lu
          have hxb : xl ≤ 1000000000 := by have h1 := HZ2.out.2; have h2 := HZK.out.2; omega
          have hzb : z ≤ 1000000000 := HZK.out.2
          have hzz : (z : Int) - (12 + (xl : Int)) = (z2 : Int) := by have h1 := HZ2.out.2; omega
          have hz2b : z2 ≤ 1000000000 := by have h1 := HZ2.out.2; omega
          have hlt' : (k : Int) < ((m - j : Nat) : Int) := by omega
          have hk0 : (0 : Int) ≤ (k : Int) := by omega
          have hw12 : IntKind.wrap .i64 (12 + (xl : Int)) = 12 + (xl : Int) := by rw [IntKind.wrap_i64]; omega
          have hw13 : IntKind.wrap .i64 ((z : Int) - (12 + (xl : Int))) = (z2 : Int) := by rw [hzz, IntKind.wrap_i64]; omega
          have hw14 : IntKind.wrap .i64 ((k : Int) + 1) = (k : Int) + 1 := by rw [IntKind.wrap_i64]; omega
          clear hx hu hz2 hxl hcu hzz l4
          go_wp2
          go_roundw
          case rel => exact ⟨k + 1, by omega, by go_num, by rw [← HZ2.out.1], trivial⟩
          case measure => simp [intOf]; omega
        · have hkm : k = m - j := by omega
          subst hkm
          have hzT : z = T := by
            rw [HZK.out.1, HT.out]
            exact zAt_end _ _ _ (by rw [← HMF.out.1]; omega)
          subst hzT
          have hlt' : ¬ ((m - j : Nat) : Int) < ((m - j : Nat) : Int) := by omega
          have l0 : wr.cell? ⟨ql, 0, none⟩ = some (dptr qd) := HW4.out.2.blk.cell 0
          clear hlt hk
          go_wp2_with fail
          refine (specs_any7.cut qd st F Wq.logN (z : Int) wr HW4.out.1 HD.out.2.2.2).mono ?_
          rintro e w5 ⟨F2, rfl, g1, g2⟩
          have hoth := HW4.out.2.other g2 HD.out.2.2.1
          have HW5 : Hid (DkD w5 qd (Dq.cut st Wq.logN (z : Int)).2 F2 ∧ WlU w5 ql qd g G (.slice (some ⟨gg, 0, none⟩) m cv) us (sz : Int) ∧ (∀ k, F2 k → ¬ G k) ∧ Moved w w5 (both F G) (both F2 G)) := ⟨g1, hoth.1, hoth.2, (Moved.of_below _ HB4.out).trans g2.both_l⟩
          clear g1 g2 hoth l0 l4
          rw [HX.out.2]
          go_wp2_with fail
          refine wp_region_U (fun w' => w'.cell? ⟨ql, 4, none⟩ = some (.slice (some ⟨gg, 0, none⟩) m cv)) [16, 17, 18, 19] (by kernel_rfl) ?_
          have HW6 : Hid (DkD w5.drew qd (Dq.cut st Wq.logN (z : Int)).2 F2 ∧ WlU w5.drew ql qd g G (.slice (some ⟨gg, 0, none⟩) m cv) us (sz : Int) ∧ (∀ k, F2 k → ¬ G k) ∧ Moved w w5.drew (both F G) (both F2 G)) := ⟨HW5.out.1.below (Below.refl _ _).drew, HW5.out.2.1.below (Below.refl _ _).drew, HW5.out.2.2.1, HW5.out.2.2.2.trans (Moved.of_below _ (Below.refl _ _).drew)⟩
          clear HW5
          generalize w5.drew = wX at *
          have HSX : Hid (wX.cell? ⟨ql, 4, none⟩ = some (.slice (some ⟨gg, 0, none⟩) m cv)) := HW6.out.2.1.blk.cell 4
          refine' take_P (i := 1) (d := 65) (v := _) rfl rfl (by kernel_rfl) (by kernel_rfl) (by kernel_rfl) (by kernel_rfl) (by kernel_rfl) (fun _ _ _ h => h) (Or.inl ⟨by rfl, ?h1⟩) (fun _ => HSX.out) ?_
          case h1 => intro w hSw; go_simp; with_reducible rfl
          simp only [List.setIfInBounds_toArray, List.set_cons_zero, List.set_cons_succ]
          refine' take_P (i := 13) (d := 77) (v := _) rfl rfl (by kernel_rfl) (by kernel_rfl) (by kernel_rfl) (by kernel_rfl) (by kernel_rfl) (fun _ _ _ h => h) (Or.inl ⟨by rfl, ?h13⟩) (fun _ => HSX.out) ?_
          case h13 => intro w hSw; go_simp; with_reducible rfl
          simp only [List.setIfInBounds_toArray, List.set_cons_zero, List.set_cons_succ]
          refine' take_U (i := 0) (d := 64) (v := _) rfl rfl (by kernel_rfl) (by kernel_rfl) (by kernel_rfl) (by kernel_rfl) (by kernel_rfl) (by kernel_rfl) (fun _ _ _ h => h) (Or.inl ⟨by rfl, ?h0⟩) (HSX.out) ?_
          case h0 => intro w hSw; go_simp; with_reducible rfl
          simp only [List.setIfInBounds_toArray, List.set_cons_zero, List.set_cons_succ]
          refine' take_U (i := 2) (d := 66) (v := _) rfl rfl (by kernel_rfl) (by kernel_rfl) (by kernel_rfl) (by kernel_rfl) (by kernel_rfl) (by kernel_rfl) (fun _ _ _ h => h) (Or.inl ⟨by rfl, ?h2⟩) (HSX.out) ?_
          case h2 => intro w hSw; go_simp; with_reducible rfl
          simp only [List.setIfInBounds_toArray, List.set_cons_zero, List.set_cons_succ]
          refine' take_U (i := 3) (d := 67) (v := _) rfl rfl (by kernel_rfl) (by kernel_rfl) (by kernel_rfl) (by kernel_rfl) (by kernel_rfl) (by kernel_rfl) (fun _ _ _ h => h) (Or.inl ⟨by rfl, ?h3⟩) (HSX.out) ?_
          case h3 => intro w hSw; go_simp; with_reducible rfl
          simp only [List.setIfInBounds_toArray, List.set_cons_zero, List.set_cons_succ]
          refine' take_U (i := 4) (d := 68) (v := _) rfl rfl (by kernel_rfl) (by kernel_rfl) (by kernel_rfl) (by kernel_rfl) (by kernel_rfl) (by kernel_rfl) (fun _ _ _ h => h) (Or.inl ⟨by rfl, ?h4⟩) (HSX.out) ?_
          case h4 => intro w hSw; go_simp; with_reducible rfl
          simp only [List.setIfInBounds_toArray, List.set_cons_zero, List.set_cons_succ]
          refine' take_U (i := 5) (d := 69) (v := _) rfl rfl (by kernel_rfl) (by kernel_rfl) (by kernel_rfl) (by kernel_rfl) (by kernel_rfl) (by kernel_rfl) (fun _ _ _ h => h) (Or.inl ⟨by rfl, ?h5⟩) (HSX.out) ?_
          case h5 => intro w hSw; go_simp; with_reducible rfl
          simp only [List.setIfInBounds_toArray, List.set_cons_zero, List.set_cons_succ]
          refine' take_U (i := 6) (d := 70) (v := _) rfl rfl (by kernel_rfl) (by kernel_rfl) (by kernel_rfl) (by kernel_rfl) (by kernel_rfl) (by kernel_rfl) (fun _ _ _ h => h) (Or.inl ⟨by rfl, ?h6⟩) (HSX.out) ?_
          case h6 => intro w hSw; go_simp; with_reducible rfl
          simp only [List.setIfInBounds_toArray, List.set_cons_zero, List.set_cons_succ]
          refine' take_U (i := 7) (d := 71) (v := _) rfl rfl (by kernel_rfl) (by kernel_rfl) (by kernel_rfl) (by kernel_rfl) (by kernel_rfl) (by kernel_rfl) (fun _ _ _ h => h) (Or.inl ⟨by rfl, ?h7⟩) (HSX.out) ?_
          case h7 => intro w hSw; go_simp; with_reducible rfl
          simp only [List.setIfInBounds_toArray, List.set_cons_zero, List.set_cons_succ]
          refine' take_U (i := 8) (d := 72) (v := _) rfl rfl (by kernel_rfl) (by kernel_rfl) (by kernel_rfl) (by kernel_rfl) (by kernel_rfl) (by kernel_rfl) (fun _ _ _ h => h) (Or.inl ⟨by rfl, ?h8⟩) (HSX.out) ?_
          case h8 => intro w hSw; go_simp; with_reducible rfl
          simp only [List.setIfInBounds_toArray, List.set_cons_zero, List.set_cons_succ]
          refine' take_U (i := 9) (d := 73) (v := _) rfl rfl (by kernel_rfl) (by kernel_rfl) (by kernel_rfl) (by kernel_rfl) (by kernel_rfl) (by kernel_rfl) (fun _ _ _ h => h) (Or.inl ⟨by rfl, ?h9⟩) (HSX.out) ?_
          case h9 => intro w hSw; go_simp; with_reducible rfl
          simp only [List.setIfInBounds_toArray, List.set_cons_zero, List.set_cons_succ]
          refine' take_U (i := 10) (d := 74) (v := _) rfl rfl (by kernel_rfl) (by kernel_rfl) (by kernel_rfl) (by kernel_rfl) (by kernel_rfl) (by kernel_rfl) (fun _ _ _ h => h) (Or.inl ⟨by rfl, ?h10⟩) (HSX.out) ?_
          case h10 => intro w hSw; go_simp; with_reducible rfl
          simp only [List.setIfInBounds_toArray, List.set_cons_zero, List.set_cons_succ]
          refine' take_U (i := 11) (d := 75) (v := _) rfl rfl (by kernel_rfl) (by kernel_rfl) (by kernel_rfl) (by kernel_rfl) (by kernel_rfl) (by kernel_rfl) (fun _ _ _ h => h) (Or.inl ⟨by rfl, ?h11⟩) (HSX.out) ?_
          case h11 => intro w hSw; go_simp; with_reducible rfl
          simp only [List.setIfInBounds_toArray, List.set_cons_zero, List.set_cons_succ]
          refine wpAnyU_ready (rs := [12]) (by kernel_rfl) (by simp) ?_
          refine AllReadyU.cons (o := _) rfl (fun K hK => ?_) AllReadyU.nil
          go_simp
          have HOX : Hid (wX.ownsRow 0 31 1 (.slice (some ⟨gg, 0, none⟩) m cv) m us ∧ ∀ u ∈ us, ∃ a n c, u = Value.slice a n c) := by
            have h := HW6.out.2.1.own
            rw [← HMF.out.1] at h
            refine ⟨h, fun u hu => ?_⟩
            obtain ⟨i, hi⟩ := List.mem_iff_getElem?.1 hu
            have hil := (List.getElem?_eq_some_iff.1 hi).1
            have hul := HW6.out.2.1.ulen
            obtain ⟨a, c, e, _⟩ := row_slice (HW6.out.2.1.rows i u (g.recs[i]'(by omega)) hi (List.getElem?_eq_getElem _)).1
            exact ⟨a, _, c, e⟩
          refine (delete_any gg m cv j us wX HOX.out.1 HOX.out.2 (by omega)).mono ?_
          rintro e w7 ⟨rfl, ho7, hg7⟩
          have hcr := HW6.out.2.1.cutRows (by rw [← HMF.out.1]; omega) hg7 ho7
          have HCR : Hid (WlU (w7.setCell ⟨ql, 4, none⟩ (.slice (some ⟨gg, 0, none⟩) j cv)) ql qd { g with recs := g.recs.take j } (Gl wX w7 G) (.slice (some ⟨gg, 0, none⟩) j cv) (us.take j) (sz : Int) ∧ Moved wX (w7.setCell ⟨ql, 4, none⟩ (.slice (some ⟨gg, 0, none⟩) j cv)) G (Gl wX w7 G)) := hcr
          have HQ7 : Hid (Blk w7 ql [dptr qd, .int .i64 (g.lives : Int), .bool g.done, .int .i64 g.first, .slice (some ⟨gg, 0, none⟩) m cv, .int .i64 (sz : Int)] 56) := HW6.out.2.1.blk.keep (hg7.block ql HW6.out.2.1.blk.lt (fun e => HW6.out.2.1.vne ql e.symm rfl))
          have HS7 : Hid (w7.cell? ⟨ql, 4, none⟩ = some (.slice (some ⟨gg, 0, none⟩) m cv)) := HQ7.out.cell 4
          clear ho7 hg7 hcr
          refine hK.out _ _ (fun _ _ => HS7.out) ?_
          clear hK K
          refine' take_U (i := 14) (d := 78) (v := _) rfl rfl (by kernel_rfl) (by kernel_rfl) (by kernel_rfl) (by kernel_rfl) (by kernel_rfl) (by kernel_rfl) (fun _ _ _ h => h) (Or.inl ⟨by rfl, ?h14⟩) (HS7.out) ?_
          case h14 => intro w hSw; go_simp; with_reducible rfl
          simp only [List.setIfInBounds_toArray, List.set_cons_zero, List.set_cons_succ]
          refine' take_U (i := 15) (d := 79) (v := _) rfl rfl (by kernel_rfl) (by kernel_rfl) (by kernel_rfl) (by kernel_rfl) (by kernel_rfl) (by kernel_rfl) (fun _ _ _ h => h) (Or.inl ⟨by rfl, ?h15⟩) (HS7.out) ?_
          case h15 => intro w hSw; go_simp; with_reducible rfl
          simp only [List.setIfInBounds_toArray, List.set_cons_zero, List.set_cons_succ]
          refine wpAnyU_ready (rs := [16]) (by kernel_rfl) (by simp) ?_
          refine AllReadyU.cons (o := _) rfl (fun K hK => ?_) AllReadyU.nil
          have hc := HQ7.out.cell 4
          have hz4 := HQ7.out.free 4
          go_simp
          clear hc hz4
          refine hK.out _ _ (fun h => absurd (by decide) h) ?_
          clear hK K
          have l5 : (w7.setCell ⟨ql, 4, none⟩ (.slice (some ⟨gg, 0, none⟩) j cv)).cell? ⟨ql, 5, none⟩ = some (.int .i64 (sz : Int)) := HCR.out.1.blk.cell 5
          have z5 := HCR.out.1.blk.free 5
          generalize w7.setCell ⟨ql, 4, none⟩ (.slice (some ⟨gg, 0, none⟩) j cv) = w8 at *
          refine wpAnyU_ready (rs := [17]) (by kernel_rfl) (by simp) ?_
          refine AllReadyU.cons (o := _) rfl (fun K hK => ?_) AllReadyU.nil
          go_simp
          refine hK.out _ _ (fun h => absurd (by decide) h) ?_
          clear hK K
          refine wpAnyU_ready (rs := [18]) (by kernel_rfl) (by simp) ?_
          refine AllReadyU.cons (o := _) rfl (fun K hK => ?_) AllReadyU.nil
          go_simp
          refine hK.out _ _ (fun h => absurd (by decide) h) ?_
          clear hK K
          refine wpAnyU_ready (rs := [19]) (by kernel_rfl) (by simp) ?_
          refine AllReadyU.cons (o := _) rfl (fun K hK => ?_) AllReadyU.nil
          go_simp
          clear l5 z5
          refine hK.out _ _ (fun h => absurd (by decide) h) ?_
          clear hK K
          refine wpAnyU_done (by kernel_rfl) ?_ _
          go_wp2
          go_ret
          refine ⟨rfl, ?_⟩
          have hS := HCR.out.1.setSize (z : Int)
          have hmv : Moved wX (w8.setCell ⟨ql, 5, none⟩ (.int .i64 (z : Int))) G (Gl wX w7 G) := HCR.out.2.trans (moved_set (Or.inl HD.out.2.1.gq))
          have hzt : ((Fr.frames (g.recs.take j)).length : Int) = (z : Int) := by rw [← HT.out]
          refine post_of (F' := F2) (G' := Gl wX w7 G) (HW6.out.1.keep (fun k hk => hmv.block k (HW6.out.1.lt hk) (HW6.out.2.2.1 k hk))) ⟨_, _, by rw [hzt]; exact hS⟩ (fun k hF hG => ?_) (HW6.out.2.2.2.trans hmv.rightL)
          rcases hmv.sub k hG with e | e
          · exact HW6.out.2.2.1 k hF e
          · have := HW6.out.1.lt hF
            omega

    · have HX : Hid (Wq.cutTo g st n = ((Dq.cut st Wq.logN (T : Int)).1, { g with done := true }, (Dq.cut st Wq.logN (T : Int)).2) ∧ ¬ (Dq.cut st Wq.logN (T : Int)).1 = 0) := ⟨by rw [HCE.out, if_neg hz], hz⟩
      rw [HX.out.1]
      clear hz
      go_enter Try.func13, Try.ntmps13
      go_wp2_with fail
      refine HO.out.mono ?_
      rintro e w1 ⟨rfl, n9, hw1⟩
      have HB : Hid (Below w.heap.size w w1) := by rw [hw1]; exact below_drewN (Below.refl _ _) _
      have HD1 : Hid (DkD w1 qd st F ∧ WlU w1 ql qd g G (.slice av m cv) us ((Fr.frames g.recs).length : Int)) := ⟨HD.out.1.below HB.out, HD.out.2.1.below HB.out⟩
      clear hw1
      go_wp2_with fail
      refine (first_any8 ql qd g G (.slice av m cv) us _ w1 HD1.out.2).mono ?_
      rintro e w2 ⟨rfl, hw2⟩
      rw [hw2, ← HMF.out.2]
      clear hw2 w2
      go_wp2_with fail
      refine (next_any8 ql qd g G (.slice av m cv) us _ w1 HD1.out.2).mono ?_
      rintro e w2 ⟨rfl, n8, hw2⟩
      rw [HNX.out]
      have HB2 : Hid (Below w1.heap.size w1 w2) := by rw [hw2]; exact below_drewN (Below.refl _ _) _
      clear hw2
      go_wp2_with fail
      refine (next_any8 ql qd g G (.slice av m cv) us _ w2 (HD1.out.2.below HB2.out)).mono ?_
      rintro e w3 ⟨rfl, n7, hw3⟩
      rw [HNX.out]
      have HB3 : Hid (Below w.heap.size w w3) := by rw [hw3]; exact below_drewN (HB.out.trans (HB2.out.mono HB.out.size)) _
      clear hw3
      obtain ⟨gg, hav⟩ : ∃ gg, av = some ⟨gg, 0, none⟩ := by
        rcases HD1.out.2.own.2 with ⟨e, h0⟩ | ⟨gg, cap, cur, e, _⟩
        · have := HMF.out.1; omega
        · simp only [Value.slice.injEq] at e
          exact ⟨gg, e.1⟩
      subst hav
      obtain ⟨sz, hsz⟩ : ∃ sz, sz = (Fr.frames g.recs).length := ⟨_, rfl⟩
      have HSZ : Hid (sz = (Fr.frames g.recs).length ∧ sz ≤ 1000000000) := ⟨hsz, by rw [hsz]; exact frames_small HD.out.2.1.fine⟩
      clear hsz
      have HW3 : Hid (DkD w3 qd st F ∧ WlU w3 ql qd g G (.slice (some ⟨gg, 0, none⟩) m cv) us (sz : Int)) := ⟨HD.out.1.below HB3.out, by rw [HSZ.out.1]; exact HD.out.2.1.below HB3.out⟩
      have l3 : w3.cell? ⟨ql, 3, none⟩ = some (.int .i64 f) := by rw [HMF.out.2]; exact HW3.out.2.blk.cell 3
      have l5 : w3.cell? ⟨ql, 5, none⟩ = some (.int .i64 (sz : Int)) := HW3.out.2.blk.cell 5
      have hj0 : (0 : Int) ≤ (j : Int) := by omega
      have hjm2 : (j : Int) < (m : Int) := by omega
      have hwj : IntKind.wrap .i64 (j : Int) = (j : Int) := by rw [IntKind.wrap_i64]; omega
      have hjc : ¬ cv = j := by omega
      have hjc2 : (j : Int) ≤ (cv : Int) := by omega
      have hjm3 : (j : Int) ≤ (m : Int) := by omega
      clear c1b c2b c3b n1 n2 c1 c2
      go_wp2
      go_quiet (fail)
      clear l3 l5
      have HB4 : Hid (Below w.heap.size w (w3.drewN nq)) := below_drewN HB3.out _
      have HW4 : Hid (DkD (w3.drewN nq) qd st F ∧ WlU (w3.drewN nq) ql qd g G (.slice (some ⟨gg, 0, none⟩) m cv) us (sz : Int)) := ⟨HD.out.1.below HB4.out, by rw [HSZ.out.1]; exact HD.out.2.1.below HB4.out⟩
      clear HW3 HB3
      generalize w3.drewN nq = w4 at *
      have l4 : w4.cell? ⟨ql, 4, none⟩ = some (.slice (some ⟨gg, 0, none⟩) m cv) := HW4.out.2.blk.cell 4
      have HO4 : Hid (w4.ownsRow 0 31 1 (.slice (some ⟨gg, 0, none⟩) m cv) m us) := by
        have h := HW4.out.2.own
        rw [← HMF.out.1] at h
        exact h
      go_wp2
      go_loopw [6, 43] (fun s i wr => ∃ k : Nat, k ≤ m - j ∧ i = .int .i64 (k : Int) ∧ s = .int .i64 (zAt g.recs j k : Int) ∧ wr = w4) (fun _ i _ => (m - j) - (intOf i).toNat)
      case atStart => exact ⟨0, by omega, rfl, by rw [zAt_start, HSZ.out.1], rfl⟩
      case round =>
        obtain ⟨k, hk, rfl, rfl, rfl⟩ := hrel
        obtain ⟨z, hz⟩ : ∃ z : Nat, z = zAt g.recs j k := ⟨_, rfl⟩
        have HZK : Hid (z = zAt g.recs j k ∧ z ≤ 1000000000) := ⟨hz, by rw [hz]; exact Nat.le_trans (zAt_le _ _ _) (by rw [← HSZ.out.1]; exact HSZ.out.2)⟩
        rw [← hz]
        clear hz
        by_cases hlt : k < m - j
        · obtain ⟨x, hx⟩ : ∃ x, g.recs[j + k]? = some x := ⟨g.recs[j + k]'(by rw [← HMF.out.1]; omega), List.getElem?_eq_getElem _⟩
          obtain ⟨u, hu⟩ : ∃ u, us[j + k]? = some u := ⟨us[j + k]'(by rw [HW4.out.2.ulen, ← HMF.out.1]; omega), List.getElem?_eq_getElem _⟩
          have lu : wr.cell? ⟨gg, j + k, none⟩ = some u := by rw [HO4.out.cellAt (j + k) (by omega), hu]
          obtain ⟨au, cu, hu2, hcu⟩ := row_slice (HW4.out.2.rows (j + k) u x hu hx).1
          subst hu2
          obtain ⟨z2, hz2⟩ : ∃ z2 : Nat, z2 = zAt g.recs j (k + 1) := ⟨_, rfl⟩
          have HZ2 : Hid (z2 = zAt g.recs j (k + 1) ∧ z = z2 + (12 + x.length)) := ⟨hz2, by rw [HZK.out.1, hz2]; exact zAt_next hx⟩
          obtain ⟨xl, hxl⟩ : ∃ xl, xl = x.length := ⟨_, rfl⟩
          rw [← hxl] at HZ2 lu
          have hxb : xl ≤ 1000000000 := by have h1 := HZ2.out.2; have h2 := HZK.out.2; omega
          have hzb : z ≤ 1000000000 := HZK.out.2
          have hzz : (z : Int) - (12 + (xl : Int)) = (z2 : Int) := by have h1 := HZ2.out.2; omega
          have hz2b : z2 ≤ 1000000000 := by have h1 := HZ2.out.2; omega
          have hlt' : (k : Int) < ((m - j : Nat) : Int) := by omega
          have hk0 : (0 : Int) ≤ (k : Int) := by omega
          have hw12 : IntKind.wrap .i64 (12 + (xl : Int)) = 12 + (xl : Int) := by rw [IntKind.wrap_i64]; omega
          have hw13 : IntKind.wrap .i64 ((z : Int) - (12 + (xl : Int))) = (z2 : Int) := by rw [hzz, IntKind.wrap_i64]; omega
          have hw14 : IntKind.wrap .i64 ((k : Int) + 1) = (k : Int) + 1 := by rw [IntKind.wrap_i64]; omega
          clear hx hu hz2 hxl hcu hzz l4
          go_wp2
          go_roundw
          case rel => exact ⟨k + 1, by omega, by go_num, by rw [← HZ2.out.1], trivial⟩
          case measure => simp [intOf]; omega
        · have hkm : k = m - j := by omega
          subst hkm
          have hzT : z = T := by
            rw [HZK.out.1, HT.out]
            exact zAt_end _ _ _ (by rw [← HMF.out.1]; omega)
          subst hzT
          have hlt' : ¬ ((m - j : Nat) : Int) < ((m - j : Nat) : Int) := by omega
          have l0 : wr.cell? ⟨ql, 0, none⟩ = some (dptr qd) := HW4.out.2.blk.cell 0
          clear hlt hk
          go_wp2_with fail
          refine (specs_any7.cut qd st F Wq.logN (z : Int) wr HW4.out.1 HD.out.2.2.2).mono ?_
          rintro e w5 ⟨F2, rfl, g1, g2⟩
          have hoth := HW4.out.2.other g2 HD.out.2.2.1
          have HW5 : Hid (DkD w5 qd (Dq.cut st Wq.logN (z : Int)).2 F2 ∧ WlU w5 ql qd g G (.slice (some ⟨gg, 0, none⟩) m cv) us (sz : Int) ∧ (∀ k, F2 k → ¬ G k) ∧ Moved w w5 (both F G) (both F2 G)) := ⟨g1, hoth.1, hoth.2, (Moved.of_below _ HB4.out).trans g2.both_l⟩
          clear g1 g2 hoth l0 l4
          obtain ⟨zz, hzz⟩ : ∃ zz, zz = (Dq.cut st Wq.logN (z : Int)).1 := ⟨_, rfl⟩
          have hz0 : ¬ zz = 0 := by rw [hzz]; exact HX.out.2
          rw [← hzz]
          have HZZ : Hid (zz = (Dq.cut st Wq.logN (z : Int)).1) := hzz
          clear hzz
          go_wp2_with fail
          refine (fail_any8 ql qd g G (.slice (some ⟨gg, 0, none⟩) m cv) us _ zz w5 HW5.out.2.1).mono ?_
          rintro e wE ⟨rfl, hwE⟩
          have HP : Hid (Post8 DkD WlD w ql qd F G { g with done := true } (Dq.cut st Wq.logN (z : Int)).2 wE) := by
            rw [hwE]
            exact (post_done HW5.out.1 (by rw [← HSZ.out.1]; exact HW5.out.2.1) HW5.out.2.2.1).before HW5.out.2.2.2
          clear hwE
          go_wp2
          go_ret
          exact ⟨by rw [← HZZ.out]; rfl, HP.out⟩

end Go.Proofs.Ytmbpkbdaakchiaa
