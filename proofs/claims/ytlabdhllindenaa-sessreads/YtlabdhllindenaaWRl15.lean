/- What readLive does. -/
import Derived.Test.YtlabdhllindenaaWRead15
namespace Go.Proofs.Ytlabdhllindenaa
open Go.RowKit

/-- What readLive leaves. -/
def LvP (w0 : World) (r q : Nat) (s : Sq.St) (o : Option (List Sq.One × List UInt8 × Bool)) (e : Ending) (w' : World) : Prop :=
  (o = none → e = .returned (.bool false) ∧ Below w0.heap.size w0 w') ∧ ∀ l ys b, o = some (l, ys, b) → e = .returned (.bool true) ∧ ∃ v', Gs15 w0 w' r ys b q ⟨s.room, s.now, s.next, l⟩ v'
theorem LvP.no {w0 w' : World} {r q : Nat} {s : Sq.St} {o : Option (List Sq.One × List UInt8 × Bool)} (h : o = none) (hb : Below w0.heap.size w0 w') : LvP w0 r q s o (.returned (.bool false)) w' :=
  ⟨fun _ => ⟨rfl, hb⟩, fun l ys b e => by rw [h] at e; cases e⟩
theorem LvP.yes {w0 w' : World} {r q : Nat} {s : Sq.St} {o : Option (List Sq.One × List UInt8 × Bool)} {l : List Sq.One} {ys : List UInt8} {b : Bool} {v : Value} (h : o = some (l, ys, b)) (hg : Gs15 w0 w' r ys b q ⟨s.room, s.now, s.next, l⟩ v) : LvP w0 r q s o (.returned (.bool true)) w' := by
  refine ⟨fun e => (by rw [h] at e; cases e), fun l' ys' b' e => ?_⟩
  rw [h] at e
  simp only [Option.some.injEq, Prod.mk.injEq] at e
  obtain ⟨rfl, rfl, rfl⟩ := e
  exact ⟨rfl, v, hg⟩
/-- A block that lies apart. -/
def Kept15b (w : World) (F : Nat → Prop) (k : Nat) (cs : List Value) (t : TypeId) : Prop := Cb w k cs t ∧ ¬ F k
set_option maxRecDepth 20000 in
set_option maxHeartbeats 8000000 in
theorem readLive_any15 (w0 w : World) (r : Nat) (xs : List UInt8) (bad : Bool) (q : Nat) (s : Sq.St) (v : Value) (h : Gs15 w0 w r xs bad q s v) (hl : s.l = []) (hr1 : 1 ≤ s.room) (hr2 : s.room ≤ 64) (h0 : 0 ≤ s.now) (h1 : s.now ≤ 1099511627776)
    (c : Int × List UInt8 × Bool) (hc : c = Pk.rC s.room xs bad) :
    Calls Try.prog 35 #[dptr q, dptr r] w fun e w' => LvP w0 r q s (Sq.rdL s.now s.next c.1.toNat [] 0 c.2.1 c.2.2) e w' := by
  have hcn := Pk.rC_nonneg s.room xs bad
  rw [← hc] at hcn
  obtain ⟨N, hN⟩ : ∃ N, N = c.1.toNat := ⟨_, rfl⟩
  have hcN : c.1 = (N : Int) := by omega
  have hNr : N ≤ 64 := by
    have : c.1 ≤ s.room := by
      rw [hc]
      unfold Pk.rC
      split
      · simp only []
        omega
      · omega
    omega
  have H0 : Hid (Gs15 w0 w r xs bad q s v ∧ c = Pk.rC s.room xs bad ∧ s.l = [] ∧ N = c.1.toNat ∧ c.1 = (N : Int)) := ⟨h, hc, hl, hN, hcN⟩
  have c0 : w.cell? ⟨q, 0, none⟩ = some (.int .i64 s.room) := h.se.blk.cell 0
  rw [← hN]
  clear h hc hl hcn hN hcN
  unfold dptr
  go_enter Try.func35, Try.ntmps35
  go_wp2_with fail
  refine (Pw.rCount_any r s.room xs bad w H0.out.1.rd).mono ?_
  rintro e w1 ⟨rfl, hrd, hg⟩
  rw [← H0.out.2.1] at hrd ⊢
  rw [H0.out.2.2.2.2]
  have H1 : Hid (Gs15 w0 w1 r c.2.1 c.2.2 q s v) := H0.out.1.read hrd hg
  clear hrd hg c0
  go_wp2
  go_loopw [5, 13] (fun u i wx => ∃ (k : Nat) (acc : List Sq.One) (last : Int) (ys : List UInt8) (b : Bool) (v' : Value), k ≤ N ∧ i = .int .i64 (k : Int) ∧ u = .int .i64 last ∧ 0 ≤ last ∧ acc.length = k ∧ Gs15 w0 wx r ys b q ⟨s.room, s.now, s.next, acc⟩ v' ∧ Sq.rdL s.now s.next N [] 0 c.2.1 c.2.2 = Sq.rdL s.now s.next (N - k) acc last ys b) (fun _ i _ => N - (intOf i).toNat)
  case atStart => exact ⟨0, [], 0, _, _, v, Nat.zero_le _, rfl, rfl, Int.le_refl 0, rfl, by
    have h := H1.out
    have e : s = ⟨s.room, s.now, s.next, []⟩ := by rw [← H0.out.2.2.1]
    rw [e] at h
    exact h, rfl⟩
  case round =>
    obtain ⟨k, acc, last, ys, b, v', hk, rfl, rfl, hla, hac, hG, hT⟩ := hrel
    have H2 : Hid (Gs15 w0 wr r ys b q ⟨s.room, s.now, s.next, acc⟩ v' ∧ acc.length = k ∧ 0 ≤ last ∧ Sq.rdL s.now s.next N [] 0 c.2.1 c.2.2 = Sq.rdL s.now s.next (N - k) acc last ys b) := ⟨hG, hac, hla, hT⟩
    clear hG hac hla hT H1
    by_cases hlt : k < N
    · have hlt' : (k : Int) < (N : Int) := by omega
      have hwk : IntKind.wrap .i64 ((k : Int) + 1) = (k : Int) + 1 := by rw [IntKind.wrap_i64]; omega
      obtain ⟨n1, hn1⟩ : ∃ n, n = Pk.rI ys b := ⟨_, rfl⟩
      obtain ⟨n2, hn2⟩ : ∃ n, n = Pk.rI n1.2.1 n1.2.2 := ⟨_, rfl⟩
      obtain ⟨n3, hn3⟩ : ∃ n, n = Pk.rI n2.2.1 n2.2.2 := ⟨_, rfl⟩
      obtain ⟨x, hx⟩ : ∃ x : Sq.One, x = ⟨n1.1, n2.1, n3.1⟩ := ⟨_, rfl⟩
      have HN : Hid (n1 = Pk.rI ys b ∧ n2 = Pk.rI n1.2.1 n1.2.2 ∧ n3 = Pk.rI n2.2.1 n2.2.2 ∧ n1.1 = x.id ∧ n2.1 = x.span ∧ n3.1 = x.till ∧ x.till ≤ 9223372036854775807) := ⟨hn1, hn2, hn3, by rw [hx], by rw [hx], by rw [hx], by rw [hx]; simp only []; rw [hn3]; exact (wrap_rI _ _).2⟩
      have HST : Hid (Sq.rdL s.now s.next N [] 0 c.2.1 c.2.2 = if Sq.okB s.now s.next last x then Sq.rdL s.now s.next (N - (k + 1)) (acc ++ [x]) x.id n3.2.1 n3.2.2 else none) := (show Sq.rdL s.now s.next N [] 0 c.2.1 c.2.2 = if Sq.okB s.now s.next last x then Sq.rdL s.now s.next (N - (k + 1)) (acc ++ [x]) x.id n3.2.1 n3.2.2 else none by
        rw [H2.out.2.2.2, show N - k = N - (k + 1) + 1 by omega, Sq.rdL]
        have e : Sq.rd1 ys b = (x, n3.2) := by rw [hx, hn3, hn2, hn1]; rfl
        rw [e])
      clear hn1 hn2 hn3 hx
      go_wp2_with fail
      refine (Pw.rI64_any r ys b wr H2.out.1.rd).mono ?_
      rintro e w2 ⟨rfl, hrd, hg⟩
      rw [← HN.out.1] at hrd ⊢
      rw [HN.out.2.2.2.1]
      have H3 : Hid (Gs15 w0 w2 r n1.2.1 n1.2.2 q ⟨s.room, s.now, s.next, acc⟩ v') := H2.out.1.read hrd hg
      clear hrd hg
      go_wp2_with fail
      refine (Pw.rI64_any r n1.2.1 n1.2.2 w2 H3.out.rd).mono ?_
      rintro e w3 ⟨rfl, hrd, hg⟩
      rw [← HN.out.2.1] at hrd ⊢
      rw [HN.out.2.2.2.2.1]
      have H4 : Hid (Gs15 w0 w3 r n2.2.1 n2.2.2 q ⟨s.room, s.now, s.next, acc⟩ v') := H3.out.read hrd hg
      clear hrd hg H3
      go_wp2_with fail
      refine (Pw.rI64_any r n2.2.1 n2.2.2 w3 H4.out.rd).mono ?_
      rintro e w4 ⟨rfl, hrd, hg⟩
      rw [← HN.out.2.2.1] at hrd ⊢
      rw [HN.out.2.2.2.2.2.1]
      have H5 : Hid (Gs15 w0 w4 r n3.2.1 n3.2.2 q ⟨s.room, s.now, s.next, acc⟩ v') := H4.out.read hrd hg
      clear hrd hg H4
      obtain ⟨xb, hxb⟩ : ∃ z, z = w4.heap.size := ⟨_, rfl⟩
      have H6 : Hid (Gs15 w0 (w4.alloc (.cells #[.int .i64 x.id, .int .i64 x.span, .int .i64 x.till] 58)) r n3.2.1 n3.2.2 q ⟨s.room, s.now, s.next, acc⟩ v' ∧ Kept15b (w4.alloc (.cells #[.int .i64 x.id, .int .i64 x.span, .int .i64 x.till] 58)) (Fs15 v' q) xb (oc x) 58) := by
        have hb := (Below.refl _ w4).alloc (Nat.le_refl _) (.cells #[.int .i64 x.id, .int .i64 x.span, .int .i64 x.till] 58)
        rw [hxb]
        refine ⟨H5.out.later hb, Cb.made w4 (oc x) _, fun e => ?_⟩
        rcases e with e | e
        · have := (H5.out.se.row.lt _ e).2
          omega
        · have := H5.out.se.blk.lt
          omega
      go_upto_region 5 with fail
      rw [← hxb]
      clear hxb H5
      generalize (w4.alloc (.cells #[.int .i64 x.id, .int .i64 x.span, .int .i64 x.till] 58)) = w5 at *
      obtain ⟨va, vc, hve, _, _⟩ := row_form H6.out.1.se.row
      subst hve
      have d0 : w5.cell? ⟨xb, 0, none⟩ = some (.int .i64 x.id) := H6.out.2.1.cell 0
      have d1 : w5.cell? ⟨xb, 1, none⟩ = some (.int .i64 x.span) := H6.out.2.1.cell 1
      have d2 : w5.cell? ⟨xb, 2, none⟩ = some (.int .i64 x.till) := H6.out.2.1.cell 2
      have c2 : w5.cell? ⟨q, 2, none⟩ = some (.int .i64 s.next) := H6.out.1.se.blk.cell 2
      by_cases a1 : x.id ≤ last
      · have HNO : Hid (Sq.rdL s.now s.next N [] 0 c.2.1 c.2.2 = none) := (show Sq.rdL s.now s.next N [] 0 c.2.1 c.2.2 = none by
          rw [HST.out, if_neg]
          intro e
          have := Sq.okB_may.1 e
          omega)
        go_quiet (fail)
        have HB : Hid (Below w0.heap.size w0 (w5.drewN nq)) := below_drewN H6.out.1.below _
        go_wp2
        go_ret
        exact LvP.no HNO.out HB.out
      by_cases a2 : s.next ≤ x.id
      · have HNO : Hid (Sq.rdL s.now s.next N [] 0 c.2.1 c.2.2 = none) := (show Sq.rdL s.now s.next N [] 0 c.2.1 c.2.2 = none by
          rw [HST.out, if_neg]
          intro e
          have := Sq.okB_may.1 e
          omega)
        go_quiet (fail)
        have HB : Hid (Below w0.heap.size w0 (w5.drewN nq)) := below_drewN H6.out.1.below _
        go_wp2
        go_ret
        exact LvP.no HNO.out HB.out
      have HA : Hid (¬ x.id ≤ last ∧ ¬ s.next ≤ x.id) := ⟨a1, a2⟩
      refine wp_region_held_drew (S := fun w' => w'.cell? ⟨xb, 0, none⟩ = some (.int .i64 x.id) ∧ w'.cell? ⟨xb, 1, none⟩ = some (.int .i64 x.span) ∧ w'.cell? ⟨xb, 2, none⟩ = some (.int .i64 x.till) ∧ w'.cell? ⟨q, 2, none⟩ = some (.int .i64 s.next)) (by kernel_rfl) ⟨d0, d1, d2, c2⟩ (fun _ => ?_)
      have HSX : Hid (∀ w', Below w5.heap.size w5 w' → w'.cell? ⟨xb, 0, none⟩ = some (.int .i64 x.id) ∧ w'.cell? ⟨xb, 1, none⟩ = some (.int .i64 x.span) ∧ w'.cell? ⟨xb, 2, none⟩ = some (.int .i64 x.till) ∧ w'.cell? ⟨q, 2, none⟩ = some (.int .i64 s.next)) := by
        have h : w5.cell? ⟨xb, 0, none⟩ = some (.int .i64 x.id) ∧ w5.cell? ⟨xb, 1, none⟩ = some (.int .i64 x.span) ∧ w5.cell? ⟨xb, 2, none⟩ = some (.int .i64 x.till) ∧ w5.cell? ⟨q, 2, none⟩ = some (.int .i64 s.next) := ⟨d0, d1, d2, c2⟩
        exact fun w' hb => ⟨Below.kept hb h.1, Below.kept hb h.2.1, Below.kept hb h.2.2.1, Below.kept hb h.2.2.2⟩
      have HD : Hid (Below w5.heap.size w5 w5.drew) := (Below.refl _ _).drew
      clear d0 d1 d2 c2
      generalize w5.drew = wX at *
      refine' take_at (i := 0) (d := 22) (v := _) rfl rfl (by kernel_rfl) (by kernel_rfl) (by kernel_rfl) (fun _ _ _ h => h) (Or.inl ⟨by rfl, ?h0⟩) (HSX.out _ HD.out) ?_
      case h0 =>
        intro w hSw
        obtain ⟨t0, t1, t2, t3⟩ := hSw
        go_simp
        with_reducible rfl
      simp only [List.setIfInBounds_toArray, List.set_cons_zero, List.set_cons_succ]
      refine' take_at (i := 1) (d := 23) (v := _) rfl rfl (by kernel_rfl) (by kernel_rfl) (by kernel_rfl) (fun _ _ _ h => h) (Or.inl ⟨by rfl, ?h1⟩) (HSX.out _ HD.out) ?_
      case h1 =>
        intro w hSw
        obtain ⟨t0, t1, t2, t3⟩ := hSw
        go_simp
        with_reducible rfl
      simp only [List.setIfInBounds_toArray, List.set_cons_zero, List.set_cons_succ]
      refine' take_at (i := 2) (d := 24) (v := _) rfl rfl (by kernel_rfl) (by kernel_rfl) (by kernel_rfl) (fun _ _ _ h => h) (Or.inl ⟨by rfl, ?h2⟩) (HSX.out _ HD.out) ?_
      case h2 =>
        intro w hSw
        obtain ⟨t0, t1, t2, t3⟩ := hSw
        go_simp
        with_reducible rfl
      simp only [List.setIfInBounds_toArray, List.set_cons_zero, List.set_cons_succ]
      refine' take_at (i := 3) (d := 25) (v := _) rfl rfl (by kernel_rfl) (by kernel_rfl) (by kernel_rfl) (fun _ _ _ h => h) (Or.inl ⟨by rfl, ?h3⟩) (HSX.out _ HD.out) ?_
      case h3 =>
        intro w hSw
        obtain ⟨t0, t1, t2, t3⟩ := hSw
        go_simp
        with_reducible rfl
      simp only [List.setIfInBounds_toArray, List.set_cons_zero, List.set_cons_succ]
      refine' take_at (i := 4) (d := 26) (v := _) rfl rfl (by kernel_rfl) (by kernel_rfl) (by kernel_rfl) (fun _ _ _ h => h) (Or.inl ⟨by rfl, ?h4⟩) (HSX.out _ HD.out) ?_
      case h4 =>
        intro w hSw
        obtain ⟨t0, t1, t2, t3⟩ := hSw
        go_simp
        with_reducible rfl
      simp only [List.setIfInBounds_toArray, List.set_cons_zero, List.set_cons_succ]
      refine' take_at (i := 5) (d := 27) (v := _) rfl rfl (by kernel_rfl) (by kernel_rfl) (by kernel_rfl) (fun _ _ _ h => h) (Or.inl ⟨by rfl, ?h5⟩) (HSX.out _ HD.out) ?_
      case h5 =>
        intro w hSw
        obtain ⟨t0, t1, t2, t3⟩ := hSw
        go_simp
        with_reducible rfl
      simp only [List.setIfInBounds_toArray, List.set_cons_zero, List.set_cons_succ]
      refine' take_at (i := 6) (d := 28) (v := _) rfl rfl (by kernel_rfl) (by kernel_rfl) (by kernel_rfl) (fun _ _ _ h => h) (Or.inl ⟨by rfl, ?h6⟩) (HSX.out _ HD.out) ?_
      case h6 =>
        intro w hSw
        obtain ⟨t0, t1, t2, t3⟩ := hSw
        go_simp
        with_reducible rfl
      simp only [List.setIfInBounds_toArray, List.set_cons_zero, List.set_cons_succ]
      refine' take_at (i := 7) (d := 29) (v := _) rfl rfl (by kernel_rfl) (by kernel_rfl) (by kernel_rfl) (fun _ _ _ h => h) (Or.inl ⟨by rfl, ?h7⟩) (HSX.out _ HD.out) ?_
      case h7 =>
        intro w hSw
        obtain ⟨t0, t1, t2, t3⟩ := hSw
        go_simp
        with_reducible rfl
      simp only [List.setIfInBounds_toArray, List.set_cons_zero, List.set_cons_succ]
      refine' take_at (i := 8) (d := 30) (v := _) rfl rfl (by kernel_rfl) (by kernel_rfl) (by kernel_rfl) (fun _ _ _ h => h) (Or.inl ⟨by rfl, ?h8⟩) (HSX.out _ HD.out) ?_
      case h8 =>
        intro w hSw
        obtain ⟨t0, t1, t2, t3⟩ := hSw
        go_simp
        with_reducible rfl
      simp only [List.setIfInBounds_toArray, List.set_cons_zero, List.set_cons_succ]
      refine' take_at (i := 9) (d := 31) (v := _) rfl rfl (by kernel_rfl) (by kernel_rfl) (by kernel_rfl) (fun _ _ _ h => h) (Or.inl ⟨by rfl, ?h9⟩) (HSX.out _ HD.out) ?_
      case h9 =>
        intro w hSw
        obtain ⟨t0, t1, t2, t3⟩ := hSw
        go_simp
        with_reducible rfl
      simp only [List.setIfInBounds_toArray, List.set_cons_zero, List.set_cons_succ]
      refine' take_at (i := 10) (d := 32) (v := _) rfl rfl (by kernel_rfl) (by kernel_rfl) (by kernel_rfl) (fun _ _ _ h => h) (Or.inl ⟨by rfl, ?h10⟩) (HSX.out _ HD.out) ?_
      case h10 =>
        intro w hSw
        obtain ⟨t0, t1, t2, t3⟩ := hSw
        go_simp
        with_reducible rfl
      simp only [List.setIfInBounds_toArray, List.set_cons_zero, List.set_cons_succ]
      refine' take_at (i := 11) (d := 33) (v := _) rfl rfl (by kernel_rfl) (by kernel_rfl) (by kernel_rfl) (fun _ _ _ h => h) (Or.inl ⟨by rfl, ?h11⟩) (HSX.out _ HD.out) ?_
      case h11 =>
        intro w hSw
        obtain ⟨t0, t1, t2, t3⟩ := hSw
        go_simp
        with_reducible rfl
      simp only [List.setIfInBounds_toArray, List.set_cons_zero, List.set_cons_succ]
      refine' take_at (i := 12) (d := 34) (v := _) rfl rfl (by kernel_rfl) (by kernel_rfl) (by kernel_rfl) (fun _ _ _ h => h) (Or.inl ⟨by rfl, ?h12⟩) (HSX.out _ HD.out) ?_
      case h12 =>
        intro w hSw
        obtain ⟨t0, t1, t2, t3⟩ := hSw
        go_simp
        with_reducible rfl
      simp only [List.setIfInBounds_toArray, List.set_cons_zero, List.set_cons_succ]
      refine' take_at (i := 13) (d := 35) (v := _) rfl rfl (by kernel_rfl) (by kernel_rfl) (by kernel_rfl) (fun _ _ _ h => h) (Or.inl ⟨by rfl, ?h13⟩) (HSX.out _ HD.out) ?_
      case h13 =>
        intro w hSw
        obtain ⟨t0, t1, t2, t3⟩ := hSw
        go_simp
        with_reducible rfl
      simp only [List.setIfInBounds_toArray, List.set_cons_zero, List.set_cons_succ]
      refine' take_at (i := 14) (d := 36) (v := _) rfl rfl (by kernel_rfl) (by kernel_rfl) (by kernel_rfl) (fun _ _ _ h => h) (Or.inl ⟨by rfl, ?h14⟩) (HSX.out _ HD.out) ?_
      case h14 =>
        intro w hSw
        obtain ⟨t0, t1, t2, t3⟩ := hSw
        go_simp
        with_reducible rfl
      simp only [List.setIfInBounds_toArray, List.set_cons_zero, List.set_cons_succ]
      refine' take_at (i := 15) (d := 37) (v := _) rfl rfl (by kernel_rfl) (by kernel_rfl) (by kernel_rfl) (fun _ _ _ h => h) (Or.inl ⟨by rfl, ?h15⟩) (HSX.out _ HD.out) ?_
      case h15 =>
        intro w hSw
        obtain ⟨t0, t1, t2, t3⟩ := hSw
        go_simp
        with_reducible rfl
      simp only [List.setIfInBounds_toArray, List.set_cons_zero, List.set_cons_succ]
      refine wpAnyH_ready (rs := [16]) (by kernel_rfl) (by simp) ?_
      refine AllReadyH.cons (o := _) rfl (fun KQ hKQ => ?_) AllReadyH.nil
      go_simp
      refine (may_any15 q ⟨s.room, s.now, s.next, acc⟩ _ x wX (H6.out.1.se.later HD.out) h0 h1 HN.out.2.2.2.2.2.2).mono ?_
      rintro e w6 ⟨rfl, hb6⟩
      have HD6 : Hid (Below w5.heap.size w5 w6) := HD.out.trans (hb6.mono HD.out.size)
      clear hb6 HD
      simp only []
      refine hKQ.out _ _ (HSX.out _ HD6.out) (fun _ => ?_)
      clear hKQ KQ
      obtain ⟨mb, hmb⟩ : ∃ z, z = Sq.mayB s.now x := ⟨_, rfl⟩
      rw [← hmb]
      have HMB : Hid (mb = Sq.mayB s.now x) := hmb
      clear hmb
      have H7 : Hid (Gs15 w0 w6 r n3.2.1 n3.2.2 q ⟨s.room, s.now, s.next, acc⟩ (.slice va acc.length vc) ∧ Kept15b w6 (Fs15 (.slice va acc.length vc) q) xb (oc x) 58) := ⟨H6.out.1.later HD6.out, H6.out.2.1.below HD6.out, H6.out.2.2⟩
      cases mb with
      | false =>
        have HNO : Hid (Sq.rdL s.now s.next N [] 0 c.2.1 c.2.2 = none) := (show Sq.rdL s.now s.next N [] 0 c.2.1 c.2.2 = none by
          rw [HST.out, if_neg]
          intro e
          have h := (Sq.okB_may.1 e).2.2
          rw [← HMB.out] at h
          cases h)
        refine' take_at (i := 17) (d := 39) (v := _) rfl rfl (by kernel_rfl) (by kernel_rfl) (by kernel_rfl) (fun _ _ _ h => h) (Or.inl ⟨by rfl, ?h17⟩) (HSX.out _ HD6.out) ?_
        case h17 =>
          intro w hSw
          clear hSw
          go_simp
          with_reducible rfl
        simp only [List.setIfInBounds_toArray, List.set_cons_zero, List.set_cons_succ]
        refine' take_at (i := 18) (d := 40) (v := _) rfl rfl (by kernel_rfl) (by kernel_rfl) (by kernel_rfl) (fun _ _ _ h => h) (Or.inl ⟨by rfl, ?h18⟩) (HSX.out _ HD6.out) ?_
        case h18 =>
          intro w hSw
          clear hSw
          go_simp
          with_reducible rfl
        simp only [List.setIfInBounds_toArray, List.set_cons_zero, List.set_cons_succ]
        refine wpAnyH_done (by kernel_rfl) ?_ _
        go_wp2
        go_ret
        exact LvP.no HNO.out H7.out.1.below
      | true =>
        have HYES : Hid (Sq.rdL s.now s.next N [] 0 c.2.1 c.2.2 = Sq.rdL s.now s.next (N - (k + 1)) (acc ++ [x]) x.id n3.2.1 n3.2.2) := by
          have e := HST.out
          have h := HA.out
          rw [if_pos (Sq.okB_may.2 ⟨by omega, by omega, HMB.out.symm⟩)] at e
          exact e
        refine' take_at (i := 17) (d := 39) (v := _) rfl rfl (by kernel_rfl) (by kernel_rfl) (by kernel_rfl) (fun _ _ _ h => h) (Or.inl ⟨by rfl, ?h17⟩) (HSX.out _ HD6.out) ?_
        case h17 =>
          intro w hSw
          clear hSw
          go_simp
          with_reducible rfl
        simp only [List.setIfInBounds_toArray, List.set_cons_zero, List.set_cons_succ]
        refine' take_at (i := 18) (d := 40) (v := _) rfl rfl (by kernel_rfl) (by kernel_rfl) (by kernel_rfl) (fun _ _ _ h => h) (Or.inl ⟨by rfl, ?h18⟩) (HSX.out _ HD6.out) ?_
        case h18 =>
          intro w hSw
          clear hSw
          go_simp
          with_reducible rfl
        simp only [List.setIfInBounds_toArray, List.set_cons_zero, List.set_cons_succ]
        refine wpAnyH_done (by kernel_rfl) ?_ _
        clear HSX HD6 H6
        go_upto_region 7 with fail
        obtain ⟨M, hM⟩ : ∃ z, z = acc.length := ⟨_, rfl⟩
        rw [← hM] at H7
        have HM : Hid (M = acc.length ∧ M ≤ 64) := ⟨hM, by have := H2.out.2.1; omega⟩
        clear hM
        refine wp_region_T (fun w' => w'.cell? ⟨xb, 0, none⟩ = some (.int .i64 x.id) ∧ w'.cell? ⟨xb, 1, none⟩ = some (.int .i64 x.span) ∧ w'.cell? ⟨xb, 2, none⟩ = some (.int .i64 x.till) ∧ w'.cell? ⟨q, 3, none⟩ = some (Value.slice va M vc)) 10 (by kernel_rfl) ?_
        have H8 : Hid (Gs15 w0 w6.drew r n3.2.1 n3.2.2 q ⟨s.room, s.now, s.next, acc⟩ (Value.slice va M vc) ∧ Kept15b w6.drew (Fs15 (Value.slice va M vc) q) xb (oc x) 58) := ⟨H7.out.1.later (Below.refl _ _).drew, H7.out.2.1.below (Below.refl _ _).drew, H7.out.2.2⟩
        clear H7
        generalize w6.drew = w7 at *
        have HSY : Hid ((fun w' : World => w'.cell? ⟨xb, 0, none⟩ = some (.int .i64 x.id) ∧ w'.cell? ⟨xb, 1, none⟩ = some (.int .i64 x.span) ∧ w'.cell? ⟨xb, 2, none⟩ = some (.int .i64 x.till) ∧ w'.cell? ⟨q, 3, none⟩ = some (Value.slice va M vc)) w7) := ⟨H8.out.2.1.cell 0, H8.out.2.1.cell 1, H8.out.2.1.cell 2, H8.out.1.se.blk.cell 3⟩
        refine' take_T (i := 0) (d := 41) (v := _) rfl rfl (by kernel_rfl) (by kernel_rfl) (by kernel_rfl) (by kernel_rfl) (by kernel_rfl) (fun _ _ _ h => h) (Or.inl ⟨by rfl, ?h0⟩) (HSY.out) ?_
        case h0 =>
          intro w hSw
          obtain ⟨t0, t1, t2, t3⟩ := hSw
          go_simp
          with_reducible rfl
        simp only [List.setIfInBounds_toArray, List.set_cons_zero, List.set_cons_succ]
        refine' take_T (i := 1) (d := 42) (v := _) rfl rfl (by kernel_rfl) (by kernel_rfl) (by kernel_rfl) (by kernel_rfl) (by kernel_rfl) (fun _ _ _ h => h) (Or.inl ⟨by rfl, ?h1⟩) (HSY.out) ?_
        case h1 =>
          intro w hSw
          obtain ⟨t0, t1, t2, t3⟩ := hSw
          go_simp
          with_reducible rfl
        simp only [List.setIfInBounds_toArray, List.set_cons_zero, List.set_cons_succ]
        refine' take_T (i := 2) (d := 43) (v := _) rfl rfl (by kernel_rfl) (by kernel_rfl) (by kernel_rfl) (by kernel_rfl) (by kernel_rfl) (fun _ _ _ h => h) (Or.inl ⟨by rfl, ?h2⟩) (HSY.out) ?_
        case h2 =>
          intro w hSw
          obtain ⟨t0, t1, t2, t3⟩ := hSw
          go_simp
          with_reducible rfl
        simp only [List.setIfInBounds_toArray, List.set_cons_zero, List.set_cons_succ]
        refine' take_T (i := 3) (d := 44) (v := _) rfl rfl (by kernel_rfl) (by kernel_rfl) (by kernel_rfl) (by kernel_rfl) (by kernel_rfl) (fun _ _ _ h => h) (Or.inl ⟨by rfl, ?h3⟩) (HSY.out) ?_
        case h3 =>
          intro w hSw
          obtain ⟨t0, t1, t2, t3⟩ := hSw
          go_simp
          with_reducible rfl
        simp only [List.setIfInBounds_toArray, List.set_cons_zero, List.set_cons_succ]
        refine' take_T (i := 4) (d := 45) (v := _) rfl rfl (by kernel_rfl) (by kernel_rfl) (by kernel_rfl) (by kernel_rfl) (by kernel_rfl) (fun _ _ _ h => h) (Or.inl ⟨by rfl, ?h4⟩) (HSY.out) ?_
        case h4 =>
          intro w hSw
          obtain ⟨t0, t1, t2, t3⟩ := hSw
          go_simp
          with_reducible rfl
        simp only [List.setIfInBounds_toArray, List.set_cons_zero, List.set_cons_succ]
        refine' take_T (i := 5) (d := 46) (v := _) rfl rfl (by kernel_rfl) (by kernel_rfl) (by kernel_rfl) (by kernel_rfl) (by kernel_rfl) (fun _ _ _ h => h) (Or.inl ⟨by rfl, ?h5⟩) (HSY.out) ?_
        case h5 =>
          intro w hSw
          obtain ⟨t0, t1, t2, t3⟩ := hSw
          go_simp
          with_reducible rfl
        simp only [List.setIfInBounds_toArray, List.set_cons_zero, List.set_cons_succ]
        refine wpAnyT_ready (rs := [6]) (by kernel_rfl) (by simp) ?_
        refine AllReadyT.cons (o := _) rfl (fun KQ hKQ => ?_) AllReadyT.nil
        go_simp
        obtain ⟨sb, hsb⟩ : ∃ z, z = w7.heap.size := ⟨_, rfl⟩
        rw [← hsb]
        have H9 : Hid (Gs15 w0 (w7.alloc (.cells #[.int .i64 x.id, .int .i64 x.span, .int .i64 x.till] 58)) r n3.2.1 n3.2.2 q ⟨s.room, s.now, s.next, acc⟩ (Value.slice va M vc) ∧ Kept15b (w7.alloc (.cells #[.int .i64 x.id, .int .i64 x.span, .int .i64 x.till] 58)) (Fs15 (Value.slice va M vc) q) xb (oc x) 58 ∧ Cb (w7.alloc (.cells #[.int .i64 x.id, .int .i64 x.span, .int .i64 x.till] 58)) sb (oc x) 58) := by
          have hb := (Below.refl _ w7).alloc (Nat.le_refl _) (.cells #[.int .i64 x.id, .int .i64 x.span, .int .i64 x.till] 58)
          rw [hsb]
          exact ⟨H8.out.1.later hb, ⟨H8.out.2.1.below hb, H8.out.2.2⟩, Cb.made w7 (oc x) _⟩
        clear HSY H8 hsb
        generalize (w7.alloc (.cells #[.int .i64 x.id, .int .i64 x.span, .int .i64 x.till] 58)) = w8 at *
        refine hKQ.out _ _ (fun _ => ⟨H9.out.2.1.1.cell 0, H9.out.2.1.1.cell 1, H9.out.2.1.1.cell 2, H9.out.1.se.blk.cell 3⟩) ?_
        clear hKQ KQ
        refine wpAnyT_ready (rs := [7]) (by kernel_rfl) (by simp) ?_
        refine AllReadyT.cons (o := _) rfl (fun KQ hKQ => ?_) AllReadyT.nil
        refine wp_oc15 infoSe Try.underlying54 _ _ rfl 0 (Value.slice va M vc) (.slice (some ⟨sb, 0, none⟩) 1 1) acc [x] w8 rfl rfl H9.out.1.se.row (Nat.zero_le _) (Soc.one H9.out.2.2) (by have := HM.out; simp only [List.length_singleton]; omega) ?_
        intro v9 w9 hr9 hb9 hg9 hv9
        have H10 : Hid (Cb w9 q [.int .i64 s.room, .int .i64 s.now, .int .i64 s.next, (Value.slice va M vc)] 56 ∧ Gs15 w0 (w9.setCell ⟨q, 3, none⟩ v9) r n3.2.1 n3.2.2 q ⟨s.room, s.now, s.next, acc ++ [x]⟩ v9 ∧ Kept15b w9 (Fs15 (Value.slice va M vc) q) xb (oc x) 58 ∧ (w9.setCell ⟨q, 3, none⟩ v9).cell? ⟨xb, 0, none⟩ = some (.int .i64 x.id)) := by
          have hap := H9.out.1.se.blk.apart H9.out.1.se.row (by decide)
          have hq : Cb w9 q [.int .i64 s.room, .int .i64 s.now, .int .i64 s.next, (Value.slice va M vc)] 56 := H9.out.1.se.blk.keep (hg9.block q H9.out.1.se.blk.lt (fun e => hap e.symm))
          have hx9 : Cb w9 xb (oc x) 58 := H9.out.2.1.1.keep (hg9.block xb H9.out.2.1.1.lt (fun e => H9.out.2.1.2 (Or.inl e.symm)))
          have hg := grownBy_setCell w9 ⟨q, 3, none⟩ v9
          have hap9 : v9.ownBlock ≠ some q := hq.apart hr9 (by decide)
          have hxq : xb ≠ q := fun e => H9.out.2.1.2 (Or.inr e)
          have hrq := H9.out.1.hi q (Or.inr rfl)
          have hlo := H9.out.1.lo
          have hrd9 : Pw.Rd w0.heap.size w9 r n3.2.1 n3.2.2 := by
            cases ho : ((Value.slice va M vc)).ownBlock with
            | none =>
              rw [ho] at hg9
              exact H9.out.1.rd.grown (r := w8.heap.size) ⟨hg9.os, hg9.tape, hg9.output, hg9.size, fun i hi _ => hg9.block i hi (by simp)⟩ H9.out.1.rd.lt
            | some g =>
              rw [ho] at hg9
              exact H9.out.1.rd.grown hg9 (H9.out.1.hi g (Or.inl ho))
          have hbe : Below w0.heap.size w0 w9 := H9.out.1.below.grown hg9 H9.out.1.below.size (fun k hk => by have := H9.out.1.hi k (Or.inl hk); omega)
          refine ⟨hq, ⟨hrd9.grown hg hrq, hlo, ⟨hq.set 3 _, ?_⟩, fun k hk => ?_, hbe.grown hg hbe.size (fun k hk => by simp at hk; omega)⟩, ⟨hx9, H9.out.2.1.2⟩, ?_⟩
          · exact row_stays hr9 fun k hk => hg.block k (hr9.lt k hk).2 (fun e => hap9 (by rw [hk]; simpa using e))
          · rcases hk with hk | rfl
            · rcases hv9 with e | e
              · exact H9.out.1.hi k (Or.inl (by rw [← e]; exact hk))
              · rw [e] at hk
                simp only [Option.some.injEq] at hk
                have := H9.out.1.rd.lt
                omega
            · exact hrq
          · rw [World.cell?_of_block (hg.block xb hx9.lt (by simpa using hxq))]
            exact hx9.cell 0
        obtain ⟨a9, c9, e9, j1, j2⟩ := row_form hr9
        obtain ⟨M9, hM9⟩ : ∃ z, z = (acc ++ [x]).length := ⟨_, rfl⟩
        rw [← hM9] at e9
        subst e9
        clear hr9 hb9 hg9 hv9 j1 j2 hM9 H9
        refine hKQ.out _ _ (fun _ => ⟨H10.out.2.2.1.1.cell 0, H10.out.2.2.1.1.cell 1, H10.out.2.2.1.1.cell 2, H10.out.1.cell 3⟩) ?_
        clear hKQ KQ
        refine' take_T (i := 8) (d := 49) (v := _) rfl rfl (by kernel_rfl) (by kernel_rfl) (by kernel_rfl) (by kernel_rfl) (by kernel_rfl) (fun _ _ _ h => h) (Or.inl ⟨by rfl, ?h8⟩) (⟨H10.out.2.2.1.1.cell 0, H10.out.2.2.1.1.cell 1, H10.out.2.2.1.1.cell 2, H10.out.1.cell 3⟩) ?_
        case h8 =>
          intro w hSw
          go_simp
          with_reducible rfl
        simp only [List.setIfInBounds_toArray, List.set_cons_zero, List.set_cons_succ]
        refine' take_T (i := 9) (d := 50) (v := _) rfl rfl (by kernel_rfl) (by kernel_rfl) (by kernel_rfl) (by kernel_rfl) (by kernel_rfl) (fun _ _ _ h => h) (Or.inl ⟨by rfl, ?h9⟩) (⟨H10.out.2.2.1.1.cell 0, H10.out.2.2.1.1.cell 1, H10.out.2.2.1.1.cell 2, H10.out.1.cell 3⟩) ?_
        case h9 =>
          intro w hSw
          go_simp
          with_reducible rfl
        simp only [List.setIfInBounds_toArray, List.set_cons_zero, List.set_cons_succ]
        refine wpAnyT_ready (rs := [10]) (by kernel_rfl) (by simp) ?_
        refine AllReadyT.cons (o := _) rfl (fun KQ hKQ => ?_) AllReadyT.nil
        have z3 : w9.cell? ⟨q, 3, none⟩ = some (Value.slice va M vc) := H10.out.1.cell 3
        have f3 := H10.out.1.free 3
        go_simp
        clear z3 f3
        have H11 : Hid (Gs15 w0 (w9.setCell ⟨q, 3, none⟩ (.slice a9 M9 c9)) r n3.2.1 n3.2.2 q ⟨s.room, s.now, s.next, acc ++ [x]⟩ (.slice a9 M9 c9)) := H10.out.2.1
        have y0 : (w9.setCell ⟨q, 3, none⟩ (.slice a9 M9 c9)).cell? ⟨xb, 0, none⟩ = some (.int .i64 x.id) := H10.out.2.2.2
        clear H10
        generalize w9.setCell ⟨q, 3, none⟩ (.slice a9 M9 c9) = w10 at *
        refine hKQ.out _ _ (fun h => absurd rfl h) ?_
        clear hKQ KQ
        refine wpAnyT_done (by kernel_rfl) ?_ _
        go_wp2
        go_roundw
        case rel => exact ⟨k + 1, acc ++ [x], x.id, _, _, _, by omega, by go_num, rfl, by have := HA.out; have := H2.out.2.2.1; omega, by rw [List.length_append, H2.out.2.1]; rfl, H11.out, HYES.out⟩
        case measure => simp [intOf]; omega
    · have hlt' : ¬ (k : Int) < (N : Int) := by omega
      obtain rfl : k = N := by omega
      have HE : Hid (Sq.rdL s.now s.next k [] 0 c.2.1 c.2.2 = some (acc, ys, b)) := (show Sq.rdL s.now s.next k [] 0 c.2.1 c.2.2 = some (acc, ys, b) by
        rw [H2.out.2.2.2, Nat.sub_self]
        rfl)
      go_wp2
      go_ret
      exact LvP.yes HE.out H2.out.1
end Go.Proofs.Ytlabdhllindenaa
