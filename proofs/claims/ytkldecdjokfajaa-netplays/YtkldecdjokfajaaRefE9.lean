/- nm; the reference's Same. -/
import Derived.Test.YtkldecdjokfajaaRefV9
namespace Go.Proofs.Ytkldecdjokfajaa
open Go.RowKit

theorem results_one {fn : Func} {p : Tmp} {ty : TypeId} (h : fn.results = #[.cell p ty]) (tmps : Array Value) (P : Program) (w : World) :
    (results fn tmps).run P w = ((asAddr (tmps.getD p undef)).run P w).andThen fun a w₁ => (loadVar ty a).run P w₁ := by
  simp only [results, h]
  simp [Sem.run_bind, Result.andThen]

set_option maxRecDepth 20000 in
set_option maxHeartbeats 2000000 in
/-- A message as the reference takes it. -/
theorem nm_any (m : Nq.Ms) (a b : Value) (ha : ∃ x k c, a = .slice x k c) (hb : ∃ x k c, b = .slice x k c) (w : World) :
    Calls Try.prog 16 #[mv m a b] w fun e w' => e = .returned (mv m a b) ∧ Below w.heap.size w w' := by
  obtain ⟨x1, k1, c1, rfl⟩ := ha
  obtain ⟨x2, k2, c2, rfl⟩ := hb
  unfold mv
  obtain ⟨fr, hfr⟩ : ∃ z, z = m.fr := ⟨_, rfl⟩
  obtain ⟨tt, htt⟩ : ∃ z, z = m.to := ⟨_, rfl⟩
  obtain ⟨kd, hkd⟩ : ∃ z, z = m.kind := ⟨_, rfl⟩
  rw [← hfr, ← htt, ← hkd]
  clear hfr htt hkd
  go_enter Try.func16, Try.ntmps16
  go_wp2
  refine bodyPost_ret (v := .agg #[.int .i64 fr, .int .i64 tt, .int .i64 kd, .slice x1 k1 c1, .slice x2 k2 c2]) ?_ rfl ⟨rfl, ?_⟩
  · rw [results_one rfl]
    go_simp
  · exact ((Below.refl _ w).alloc (Nat.le_refl _) _).alloc ((Below.refl _ w).alloc (Nat.le_refl _) _).size _

set_option maxRecDepth 20000 in
set_option maxHeartbeats 4000000 in
/-- Two of one message are the same. -/
theorem refSame_yes (m : Nq.Ms) (a1 a2 a3 a4 : Option Addr) (n1 n2 c1 c2 c3 c4 : Nat) (K K' : Nat → Prop) (w : World) (h : Mp w m (.slice a1 n1 c1) (.slice a2 n2 c2) K) (h' : Mp w m (.slice a3 n1 c3) (.slice a4 n2 c4) K') (hl : Lite m) :
    Calls Try.prog 19 #[.agg #[.int .i64 m.fr, .int .i64 m.to, .int .i64 m.kind, .slice a1 n1 c1, .slice a2 n2 c2], .agg #[.int .i64 m.fr, .int .i64 m.to, .int .i64 m.kind, .slice a3 n1 c3, .slice a4 n2 c4]] w fun e w' => e = .returned (.bool true) ∧ Below w.heap.size w w' := by
  obtain ⟨fr, hfr⟩ : ∃ z, z = m.fr := ⟨_, rfl⟩
  obtain ⟨tt, htt⟩ : ∃ z, z = m.to := ⟨_, rfl⟩
  obtain ⟨kd, hkd⟩ : ∃ z, z = m.kind := ⟨_, rfl⟩
  rw [← hfr, ← htt, ← hkd]
  clear hfr htt hkd
  have hN : n1 = m.ns.length ∧ ∀ (j : Nat) z, m.ns[j]? = some z → ∃ g o, a1 = some ⟨g, o, none⟩ ∧ w.cell? ⟨g, o + j, none⟩ = some (.int .i64 z) := by
    obtain ⟨x, k, c, e, hk, hc⟩ := h.ns
    simp only [Value.slice.injEq] at e
    obtain ⟨rfl, rfl, rfl⟩ := e
    exact ⟨hk, fun j z hz => by obtain ⟨g, o, e1, e2, _⟩ := hc j z hz; exact ⟨g, o, e1, e2⟩⟩
  have hN' : ∀ (j : Nat) z, m.ns[j]? = some z → ∃ g o, a3 = some ⟨g, o, none⟩ ∧ w.cell? ⟨g, o + j, none⟩ = some (.int .i64 z) := by
    obtain ⟨x, k, c, e, hk, hc⟩ := h'.ns
    simp only [Value.slice.injEq] at e
    obtain ⟨rfl, rfl, rfl⟩ := e
    exact fun j z hz => by obtain ⟨g, o, e1, e2, _⟩ := hc j z hz; exact ⟨g, o, e1, e2⟩
  have hM : n2 = m.bs.length ∧ ∀ (j : Nat) xs, m.bs[j]? = some xs → ∃ g o au nu cu, a2 = some ⟨g, o, none⟩ ∧ w.cell? ⟨g, o + j, none⟩ = some (.slice au nu cu) ∧ Bs w (.slice au nu cu) xs := by
    obtain ⟨x, k, c, e, hk, hc⟩ := h.bs
    simp only [Value.slice.injEq] at e
    obtain ⟨rfl, rfl, rfl⟩ := e
    refine ⟨hk, fun j z hz => ?_⟩
    obtain ⟨g, o, u, e1, e2, e3, _⟩ := hc j z hz
    obtain ⟨au, nu, cu, e4, _⟩ := id e3
    subst e4
    exact ⟨g, o, au, nu, cu, e1, e2, e3⟩
  have hM' : ∀ (j : Nat) xs, m.bs[j]? = some xs → ∃ g o au nu cu, a4 = some ⟨g, o, none⟩ ∧ w.cell? ⟨g, o + j, none⟩ = some (.slice au nu cu) ∧ Bs w (.slice au nu cu) xs := by
    obtain ⟨x, k, c, e, hk, hc⟩ := h'.bs
    simp only [Value.slice.injEq] at e
    obtain ⟨rfl, rfl, rfl⟩ := e
    intro j z hz
    obtain ⟨g, o, u, e1, e2, e3, _⟩ := hc j z hz
    obtain ⟨au, nu, cu, e4, _⟩ := id e3
    subst e4
    exact ⟨g, o, au, nu, cu, e1, e2, e3⟩
  have HN : Hid (n1 = m.ns.length ∧ n1 ≤ 2000000 ∧ ∀ (j : Nat) z, m.ns[j]? = some z → (∃ g o, a1 = some ⟨g, o, none⟩ ∧ w.cell? ⟨g, o + j, none⟩ = some (.int .i64 z)) ∧ (∃ g o, a3 = some ⟨g, o, none⟩ ∧ w.cell? ⟨g, o + j, none⟩ = some (.int .i64 z))) := ⟨hN.1, by rw [hN.1]; exact hl.ns, fun j z hz => ⟨hN.2 j z hz, hN' j z hz⟩⟩
  have HM : Hid (n2 = m.bs.length ∧ n2 ≤ 2000000 ∧ ∀ (j : Nat) xs, m.bs[j]? = some xs → (∃ g o au nu cu, a2 = some ⟨g, o, none⟩ ∧ w.cell? ⟨g, o + j, none⟩ = some (.slice au nu cu) ∧ Bs w (.slice au nu cu) xs) ∧ (∃ g o au nu cu, a4 = some ⟨g, o, none⟩ ∧ w.cell? ⟨g, o + j, none⟩ = some (.slice au nu cu) ∧ Bs w (.slice au nu cu) xs)) := ⟨hM.1, by rw [hM.1]; exact hl.bs, fun j z hz => ⟨hM.2 j z hz, hM' j z hz⟩⟩
  clear hN hN' hM hM' h h' hl
  go_enter Try.func19, Try.ntmps19
  go_wp2
  have HB : Hid (Below w.heap.size w ((w.alloc (.cells #[.int .i64 fr, .int .i64 tt, .int .i64 kd, .slice a1 n1 c1, .slice a2 n2 c2] 47)).alloc (.cells #[.int .i64 fr, .int .i64 tt, .int .i64 kd, .slice a3 n1 c3, .slice a4 n2 c4] 47))) := ((Below.refl _ w).alloc (Nat.le_refl _) _).alloc ((Below.refl _ w).alloc (Nat.le_refl _) _).size _
  have HQ1 : Hid (∀ i u, ([.int .i64 fr, .int .i64 tt, .int .i64 kd, .slice a1 n1 c1, .slice a2 n2 c2] : List Value)[i]? = some u → ((w.alloc (.cells #[.int .i64 fr, .int .i64 tt, .int .i64 kd, .slice a1 n1 c1, .slice a2 n2 c2] 47)).alloc (.cells #[.int .i64 fr, .int .i64 tt, .int .i64 kd, .slice a3 n1 c3, .slice a4 n2 c4] 47)).cell? ⟨w.heap.size, i, none⟩ = some u) := fun i u hu => Below.kept ((Below.refl _ (w.alloc (.cells #[.int .i64 fr, .int .i64 tt, .int .i64 kd, .slice a1 n1 c1, .slice a2 n2 c2] 47))).alloc (Nat.le_refl _) _) (cell?_alloc_at _ _ _ _ _ _ (by simpa using hu))
  have HQ2 : Hid (∀ i u, ([.int .i64 fr, .int .i64 tt, .int .i64 kd, .slice a3 n1 c3, .slice a4 n2 c4] : List Value)[i]? = some u → ((w.alloc (.cells #[.int .i64 fr, .int .i64 tt, .int .i64 kd, .slice a1 n1 c1, .slice a2 n2 c2] 47)).alloc (.cells #[.int .i64 fr, .int .i64 tt, .int .i64 kd, .slice a3 n1 c3, .slice a4 n2 c4] 47)).cell? ⟨w.heap.size + 1, i, none⟩ = some u) := fun i u hu => by
    have e := cell?_alloc_at (w.alloc (.cells #[.int .i64 fr, .int .i64 tt, .int .i64 kd, .slice a1 n1 c1, .slice a2 n2 c2] 47)) #[.int .i64 fr, .int .i64 tt, .int .i64 kd, .slice a3 n1 c3, .slice a4 n2 c4] 47 (0, 0) i u (by simpa using hu)
    have hs : (w.alloc (.cells #[.int .i64 fr, .int .i64 tt, .int .i64 kd, .slice a1 n1 c1, .slice a2 n2 c2] 47)).heap.size = w.heap.size + 1 := by simp
    rw [hs] at e
    exact e
  generalize ((w.alloc (.cells #[.int .i64 fr, .int .i64 tt, .int .i64 kd, .slice a1 n1 c1, .slice a2 n2 c2] 47)).alloc (.cells #[.int .i64 fr, .int .i64 tt, .int .i64 kd, .slice a3 n1 c3, .slice a4 n2 c4] 47)) = wA at *
  go_loopw [5] (fun i wr => ∃ k : Nat, k ≤ n1 ∧ i = .int .i64 (k : Int) ∧ Below wA.heap.size wA wr) (fun i _ => n1 - (intOf i).toNat)
  case atStart => exact ⟨0, Nat.zero_le _, rfl, Below.refl _ _⟩
  case round =>
    obtain ⟨k, hk, rfl, hbr⟩ := hrel
    have HBR : Hid (Below wA.heap.size wA wr) := hbr
    have r1 := Below.kept hbr (HQ1.out 3 _ rfl)
    have r2 := Below.kept hbr (HQ2.out 3 _ rfl)
    have r4 := Below.kept hbr (HQ1.out 4 _ rfl)
    clear hbr
    by_cases hlt : k < n1
    · have hlt' : (k : Int) < (n1 : Int) := by omega
      have hk0 : (0 : Int) ≤ (k : Int) := by omega
      have hwk : IntKind.wrap .i64 ((k : Int) + 1) = (k : Int) + 1 := by
        have h1 := HN.out.2.1
        rw [IntKind.wrap_i64]
        omega
      obtain ⟨z, hz⟩ : ∃ z, m.ns[k]? = some z := ⟨m.ns[k]'(by rw [← HN.out.1]; exact hlt), List.getElem?_eq_getElem _⟩
      obtain ⟨⟨g, o, e1, e2⟩, ⟨g2, o2, e3, e4⟩⟩ := HN.out.2.2 k z hz
      subst e1 e3
      have y1 := Below.kept HBR.out (Below.kept HB.out e2)
      have y2 := Below.kept HBR.out (Below.kept HB.out e4)
      clear e2 e4 hz r4
      go_wp2
      go_quiet (fail)
      go_wp2
      go_roundw
      case rel => exact ⟨k + 1, by omega, by go_num, below_drewN HBR.out _⟩
      case measure => simp [intOf]; omega
    · have hlt' : ¬ (k : Int) < (n1 : Int) := by omega
      clear r2 r4
      go_wp2_with fail
      clear r1
      go_loopw [6] (fun i wq => ∃ k : Nat, k ≤ n2 ∧ i = .int .i64 (k : Int) ∧ Below wA.heap.size wA wq) (fun i _ => n2 - (intOf i).toNat)
      case atStart => exact ⟨0, Nat.zero_le _, rfl, HBR.out⟩
      case round =>
        obtain ⟨k, hk, rfl, hbr⟩ := hrel
        have HBQ : Hid (Below wA.heap.size wA wr) := hbr
        have r4 := Below.kept hbr (HQ1.out 4 _ rfl)
        clear hbr
        by_cases hlw : k < n2
        · have hlw' : (k : Int) < (n2 : Int) := by omega
          have hk0 : (0 : Int) ≤ (k : Int) := by omega
          have hwk : IntKind.wrap .i64 ((k : Int) + 1) = (k : Int) + 1 := by
            have h1 := HM.out.2.1
            rw [IntKind.wrap_i64]
            omega
          obtain ⟨z, hz⟩ : ∃ z, m.bs[k]? = some z := ⟨m.bs[k]'(by rw [← HM.out.1]; exact hlw), List.getElem?_eq_getElem _⟩
          obtain ⟨⟨g, o, au, nu, cu, e1, e2, e5⟩, ⟨g2, o2, av, nv, cv, e3, e4, e6⟩⟩ := HM.out.2.2 k z hz
          subst e1 e3
          obtain ⟨X, hX⟩ : ∃ X : ByteArray, X = ⟨z.toArray⟩ := ⟨_, rfl⟩
          have HS : Hid (∀ u, Below wA.heap.size wA u → u.cell? ⟨w.heap.size, 4, none⟩ = some (.slice (some ⟨g, o, none⟩) n2 c2) ∧ u.cell? ⟨w.heap.size + 1, 4, none⟩ = some (.slice (some ⟨g2, o2, none⟩) n2 c4) ∧ u.cell? ⟨g, o + k, none⟩ = some (.slice au nu cu) ∧ u.cell? ⟨g2, o2 + k, none⟩ = some (.slice av nv cv) ∧ (convert 66 9 (.slice au nu cu)).run Try.prog u = .ok (.string X) u ∧ (convert 66 9 (.slice av nv cv)).run Try.prog u = .ok (.string X) u) := fun u hb => by
            have hb2 := HB.out.trans (hb.mono HB.out.size)
            rw [hX]
            exact ⟨Below.kept hb (HQ1.out 4 _ rfl), Below.kept hb (HQ2.out 4 _ rfl), Below.kept hb2 e2, Below.kept hb2 e4, (e5.below hb2).conv, (e6.below hb2).conv⟩
          clear hX e2 e4 e5 e6 hz
          go_wp2_with fail
          clear r4
          refine wp_region_held_drew (S := fun u => u.cell? ⟨w.heap.size, 4, none⟩ = some (.slice (some ⟨g, o, none⟩) n2 c2) ∧ u.cell? ⟨w.heap.size + 1, 4, none⟩ = some (.slice (some ⟨g2, o2, none⟩) n2 c4) ∧ u.cell? ⟨g, o + k, none⟩ = some (.slice au nu cu) ∧ u.cell? ⟨g2, o2 + k, none⟩ = some (.slice av nv cv) ∧ (convert 66 9 (.slice au nu cu)).run Try.prog u = .ok (.string X) u ∧ (convert 66 9 (.slice av nv cv)).run Try.prog u = .ok (.string X) u) (by kernel_rfl) (HS.out _ HBQ.out.drew) (fun _ => ?_)
          have HBD : Hid (Below wA.heap.size wA wr.drew) := HBQ.out.drew
          generalize wr.drew = wX at *
          refine' take_at (i := 0) (d := 69) (v := _) rfl rfl (by kernel_rfl) (by kernel_rfl) (by kernel_rfl) (fun _ _ _ h => h) (Or.inl ⟨by rfl, ?h0⟩) (HS.out _ HBD.out) ?_
          case h0 => intro w hSw; obtain ⟨s1, s2, s3, s4, s5, s6⟩ := hSw; go_simp; with_reducible rfl
          simp only [List.setIfInBounds_toArray, List.set_cons_zero, List.set_cons_succ]
          refine' take_at (i := 1) (d := 70) (v := _) rfl rfl (by kernel_rfl) (by kernel_rfl) (by kernel_rfl) (fun _ _ _ h => h) (Or.inl ⟨by rfl, ?h1⟩) (HS.out _ HBD.out) ?_
          case h1 => intro w hSw; obtain ⟨s1, s2, s3, s4, s5, s6⟩ := hSw; go_simp; with_reducible rfl
          simp only [List.setIfInBounds_toArray, List.set_cons_zero, List.set_cons_succ]
          refine' take_at (i := 2) (d := 71) (v := _) rfl rfl (by kernel_rfl) (by kernel_rfl) (by kernel_rfl) (fun _ _ _ h => h) (Or.inl ⟨by rfl, ?h2⟩) (HS.out _ HBD.out) ?_
          case h2 => intro w hSw; obtain ⟨s1, s2, s3, s4, s5, s6⟩ := hSw; go_simp; with_reducible rfl
          simp only [List.setIfInBounds_toArray, List.set_cons_zero, List.set_cons_succ]
          refine' take_at (i := 3) (d := 72) (v := _) rfl rfl (by kernel_rfl) (by kernel_rfl) (by kernel_rfl) (fun _ _ _ h => h) (Or.inl ⟨by rfl, ?h3⟩) (HS.out _ HBD.out) ?_
          case h3 => intro w hSw; obtain ⟨s1, s2, s3, s4, s5, s6⟩ := hSw; go_simp; with_reducible rfl
          simp only [List.setIfInBounds_toArray, List.set_cons_zero, List.set_cons_succ]
          refine' take_at (i := 4) (d := 73) (v := _) rfl rfl (by kernel_rfl) (by kernel_rfl) (by kernel_rfl) (fun _ _ _ h => h) (Or.inl ⟨by rfl, ?h4⟩) (HS.out _ HBD.out) ?_
          case h4 => intro w hSw; obtain ⟨s1, s2, s3, s4, s5, s6⟩ := hSw; go_simp; with_reducible rfl
          simp only [List.setIfInBounds_toArray, List.set_cons_zero, List.set_cons_succ]
          refine' take_at (i := 5) (d := 74) (v := _) rfl rfl (by kernel_rfl) (by kernel_rfl) (by kernel_rfl) (fun _ _ _ h => h) (Or.inl ⟨by rfl, ?h5⟩) (HS.out _ HBD.out) ?_
          case h5 => intro w hSw; obtain ⟨s1, s2, s3, s4, s5, s6⟩ := hSw; go_simp; with_reducible rfl
          simp only [List.setIfInBounds_toArray, List.set_cons_zero, List.set_cons_succ]
          refine' take_at (i := 6) (d := 75) (v := _) rfl rfl (by kernel_rfl) (by kernel_rfl) (by kernel_rfl) (fun _ _ _ h => h) (Or.inl ⟨by rfl, ?h6⟩) (HS.out _ HBD.out) ?_
          case h6 => intro w hSw; obtain ⟨s1, s2, s3, s4, s5, s6⟩ := hSw; go_simp; with_reducible rfl
          simp only [List.setIfInBounds_toArray, List.set_cons_zero, List.set_cons_succ]
          refine' take_at (i := 7) (d := 76) (v := _) rfl rfl (by kernel_rfl) (by kernel_rfl) (by kernel_rfl) (fun _ _ _ h => h) (Or.inl ⟨by rfl, ?h7⟩) (HS.out _ HBD.out) ?_
          case h7 => intro w hSw; obtain ⟨s1, s2, s3, s4, s5, s6⟩ := hSw; go_simp; with_reducible rfl
          simp only [List.setIfInBounds_toArray, List.set_cons_zero, List.set_cons_succ]
          refine' take_at (i := 8) (d := 77) (v := _) rfl rfl (by kernel_rfl) (by kernel_rfl) (by kernel_rfl) (fun _ _ _ h => h) (Or.inl ⟨by rfl, ?h8⟩) (HS.out _ HBD.out) ?_
          case h8 => intro w hSw; obtain ⟨s1, s2, s3, s4, s5, s6⟩ := hSw; go_simp; with_reducible rfl
          simp only [List.setIfInBounds_toArray, List.set_cons_zero, List.set_cons_succ]
          refine' take_at (i := 9) (d := 78) (v := _) rfl rfl (by kernel_rfl) (by kernel_rfl) (by kernel_rfl) (fun _ _ _ h => h) (Or.inl ⟨by rfl, ?h9⟩) (HS.out _ HBD.out) ?_
          case h9 => intro w hSw; obtain ⟨s1, s2, s3, s4, s5, s6⟩ := hSw; go_simp; with_reducible rfl
          simp only [List.setIfInBounds_toArray, List.set_cons_zero, List.set_cons_succ]
          refine' take_at (i := 10) (d := 79) (v := _) rfl rfl (by kernel_rfl) (by kernel_rfl) (by kernel_rfl) (fun _ _ _ h => h) (Or.inl ⟨by rfl, ?h10⟩) (HS.out _ HBD.out) ?_
          case h10 => intro w hSw; obtain ⟨s1, s2, s3, s4, s5, s6⟩ := hSw; go_simp; with_reducible rfl
          simp only [List.setIfInBounds_toArray, List.set_cons_zero, List.set_cons_succ]
          refine' take_at (i := 11) (d := 80) (v := _) rfl rfl (by kernel_rfl) (by kernel_rfl) (by kernel_rfl) (fun _ _ _ h => h) (Or.inl ⟨by rfl, ?h11⟩) (HS.out _ HBD.out) ?_
          case h11 => intro w hSw; obtain ⟨s1, s2, s3, s4, s5, s6⟩ := hSw; go_simp; with_reducible rfl
          simp only [List.setIfInBounds_toArray, List.set_cons_zero, List.set_cons_succ]
          refine' take_at (i := 12) (d := 81) (v := _) rfl rfl (by kernel_rfl) (by kernel_rfl) (by kernel_rfl) (fun _ _ _ h => h) (Or.inl ⟨by rfl, ?h12⟩) (HS.out _ HBD.out) ?_
          case h12 => intro w hSw; obtain ⟨s1, s2, s3, s4, s5, s6⟩ := hSw; go_simp; with_reducible rfl
          simp only [List.setIfInBounds_toArray, List.set_cons_zero, List.set_cons_succ]
          refine wpAnyH_done (by kernel_rfl) ?_ _
          go_wp2
          go_roundw
          case rel => exact ⟨k + 1, by omega, by go_num, HBD.out⟩
          case measure => simp [intOf]; omega
        · have hlw' : ¬ (k : Int) < (n2 : Int) := by omega
          go_wp2
          go_ret
          exact ⟨rfl, HB.out.trans (HBQ.out.mono HB.out.size)⟩
end Go.Proofs.Ytkldecdjokfajaa
