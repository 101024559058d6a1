/- What the landed network's passes answers. -/
import Derived.Test.YtkldecdjokfajaaNtA9
namespace Go.Proofs.Ytkldecdjokfajaa
open Go.RowKit

theorem zeroUnit9 (w : World) : (zeroValue 67).run Try.prog w = .ok (.agg #[]) w := by kernel_rfl
theorem look9 {w : World} {mm : Nat} {D : DataW Nat} {key : Value} {kl : Lit} (h : w.ownsMap Try.prog 69 unitElem mm 4096 D) (hk : keyOf Try.prog 69 key = some kl) : (Instr.lookup 58 (.map (some mm)) key true).run Try.prog w = .ok (.tuple #[.agg #[], .bool (Maps.has D kl)]) w := by
  obtain ⟨v, ps, hrun, hv⟩ := h.look_ok keyed9 Try.underlying58 (zeroUnit9 w) unitElem_mk hk
  obtain ⟨rfl, _⟩ := unitElem_inv hv
  exact hrun

set_option maxRecDepth 20000 in
set_option maxHeartbeats 4000000 in
theorem passes_yes9 {w : World} {q mm : Nat} {n : Nq.Nt} {G : Nat → Prop} {D : DataW Nat} {v : Value} {ps : List Nat} (a b : Nat) (h : NtU w q n G mm D v ps) (ha : a < n.nodes) (hb : b < n.nodes) (h64 : n.nodes ≤ 64) :
    Calls Try.prog 25 #[dptr q, .int .i64 (a : Int), .int .i64 (b : Int)] w fun e w' => e = .returned (.bool (!n.cut a b)) ∧ Below w.heap.size w w' := by
  have HH : Hid (NtU w q n G mm D v ps) := h
  clear h
  have d1 : decide ((0 : Int) ≤ (a : Int)) = true := decide_eq_true (by omega)
  have d2 : decide ((a : Int) < (n.nodes : Int)) = true := decide_eq_true (by omega)
  have d3 : decide ((0 : Int) ≤ (b : Int)) = true := decide_eq_true (by omega)
  have d4 : decide ((b : Int) < (n.nodes : Int)) = true := decide_eq_true (by omega)
  have N1 : Hid (Calls Try.prog 32 #[dptr q, .int .i64 (a : Int)] w fun e w' => e = .returned (.bool true) ∧ w' = w) := by
    have h := isNode_any9 (a : Int) HH.out.blk
    rw [d1, d2] at h
    exact h
  have N2 : Hid (Calls Try.prog 32 #[dptr q, .int .i64 (b : Int)] w fun e w' => e = .returned (.bool true) ∧ w' = w) := by
    have h := isNode_any9 (b : Int) HH.out.blk
    rw [d3, d4] at h
    exact h
  have HKY : Hid (keyOf Try.prog 69 (.agg #[.int .i64 (min (a : Int) (b : Int)), .int .i64 (max (a : Int) (b : Int))]) = some (wkey (min (a : Int) (b : Int)) (max (a : Int) (b : Int)))) := key9 (by omega) (by omega)
  have HCUT : Hid (Maps.has D (wkey (min (a : Int) (b : Int)) (max (a : Int) (b : Int))) = n.cut a b) := by
    have h := HH.out.cut a b ha hb
    rw [show ((min a b : Nat) : Int) = min (a : Int) (b : Int) by omega, show ((max a b : Nat) : Int) = max (a : Int) (b : Int) by omega] at h
    exact h
  clear d1 d2 d3 d4 ha hb h64
  go_enter Try.func25, Try.ntmps25
  go_wp2_with fail
  refine N1.out.mono ?_
  rintro e w1 ⟨rfl, hw⟩
  rw [hw]
  clear hw w1
  go_wp2_with fail
  refine N2.out.mono ?_
  rintro e w1 ⟨rfl, hw⟩
  rw [hw]
  clear hw w1
  go_wp2_with fail
  refine wp_region_held_drew (S := fun w' => w'.cell? ⟨q, 3, none⟩ = some (.map (some mm)) ∧ w'.ownsMap Try.prog 69 unitElem mm 4096 D) (by kernel_rfl) ⟨HH.out.blk.cell 3, HH.out.own⟩ (fun _ => ?_)
  have B0 : Hid (Below w.heap.size w w.drew) := (Below.refl _ w).drew
  have S0 : Hid (w.drew.cell? ⟨q, 3, none⟩ = some (.map (some mm)) ∧ w.drew.ownsMap Try.prog 69 unitElem mm 4096 D) := ⟨HH.out.blk.cell 3, HH.out.own⟩
  generalize w.drew = wX at *
  refine' take_at (i := 0) (d := 20) (v := _) rfl rfl (by kernel_rfl) (by kernel_rfl) (by kernel_rfl) (fun _ _ _ h => h) (Or.inl ⟨by rfl, ?h0⟩) (S0.out) ?_
  case h0 => intro w hSw; go_simp; with_reducible rfl
  simp only [List.setIfInBounds_toArray, List.set_cons_zero, List.set_cons_succ]
  refine' take_at (i := 1) (d := 21) (v := _) rfl rfl (by kernel_rfl) (by kernel_rfl) (by kernel_rfl) (fun _ _ _ h => h) (Or.inl ⟨by rfl, ?h1⟩) (S0.out) ?_
  case h1 => intro w hSw; go_simp; with_reducible rfl
  simp only [List.setIfInBounds_toArray, List.set_cons_zero, List.set_cons_succ]
  refine' take_at (i := 2) (d := 22) (v := _) rfl rfl (by kernel_rfl) (by kernel_rfl) (by kernel_rfl) (fun _ _ _ h => h) (Or.inl ⟨by rfl, ?h2⟩) (S0.out) ?_
  case h2 => intro w hSw; go_simp; with_reducible rfl
  simp only [List.setIfInBounds_toArray, List.set_cons_zero, List.set_cons_succ]
  refine' take_at (i := 3) (d := 23) (v := _) rfl rfl (by kernel_rfl) (by kernel_rfl) (by kernel_rfl) (fun _ _ _ h => h) (Or.inl ⟨by rfl, ?h3⟩) (S0.out) ?_
  case h3 => intro w hSw; obtain ⟨hc, _⟩ := hSw; go_simp; with_reducible rfl
  simp only [List.setIfInBounds_toArray, List.set_cons_zero, List.set_cons_succ]
  refine' take_at (i := 4) (d := 24) (v := _) rfl rfl (by kernel_rfl) (by kernel_rfl) (by kernel_rfl) (fun _ _ _ h => h) (Or.inl ⟨by rfl, ?h4⟩) (S0.out) ?_
  case h4 => intro w hSw; go_simp; with_reducible rfl
  simp only [List.setIfInBounds_toArray, List.set_cons_zero, List.set_cons_succ]
  refine' take_at (i := 5) (d := 25) (v := _) rfl rfl (by kernel_rfl) (by kernel_rfl) (by kernel_rfl) (fun _ _ _ h => h) (Or.inl ⟨by rfl, ?h5⟩) (S0.out) ?_
  case h5 => intro w hSw; go_simp; with_reducible rfl
  simp only [List.setIfInBounds_toArray, List.set_cons_zero, List.set_cons_succ]
  refine wpAnyH_ready (rs := [6, 11]) (by kernel_rfl) (by simp) ?_
  refine AllReadyH.cons (o := _) rfl (fun K hK => ?_) ?_
  · go_simp
    refine (between_any9 (a : Int) (b : Int) wX).mono ?_
    rintro e wY ⟨rfl, hb⟩
    have B1 : Hid (Below w.heap.size w wY) := B0.out.trans (hb.mono B0.out.size)
    have S1 : Hid (wY.cell? ⟨q, 3, none⟩ = some (.map (some mm)) ∧ wY.ownsMap Try.prog 69 unitElem mm 4096 D) := ⟨(HH.out.below B1.out).blk.cell 3, (HH.out.below B1.out).own⟩
    clear hb
    unfold wv
    refine hK.out _ _ S1.out (fun _ => ?_)
    clear hK K
    refine' take_at (i := 7) (d := 27) (v := _) rfl rfl (by kernel_rfl) (by kernel_rfl) (by kernel_rfl) (fun _ _ _ h => h) (Or.inl ⟨by rfl, ?h7⟩) (S1.out) ?_
    case h7 => intro w hSw; have hl := look9 hSw.2 HKY.out; go_simp; with_reducible rfl
    simp only [List.setIfInBounds_toArray, List.set_cons_zero, List.set_cons_succ]
    refine' take_at (i := 8) (d := 19) (v := _) rfl rfl (by kernel_rfl) (by kernel_rfl) (by kernel_rfl) (fun _ _ _ h => h) (Or.inl ⟨by rfl, ?h8⟩) (S1.out) ?_
    case h8 => intro w hSw; go_simp; with_reducible rfl
    simp only [List.setIfInBounds_toArray, List.set_cons_zero, List.set_cons_succ]
    refine' take_at (i := 9) (d := 28) (v := _) rfl rfl (by kernel_rfl) (by kernel_rfl) (by kernel_rfl) (fun _ _ _ h => h) (Or.inl ⟨by rfl, ?h9⟩) (S1.out) ?_
    case h9 => intro w hSw; go_simp; with_reducible rfl
    simp only [List.setIfInBounds_toArray, List.set_cons_zero, List.set_cons_succ]
    refine' take_at (i := 10) (d := 29) (v := _) rfl rfl (by kernel_rfl) (by kernel_rfl) (by kernel_rfl) (fun _ _ _ h => h) (Or.inl ⟨by rfl, ?h10⟩) (S1.out) ?_
    case h10 => intro w hSw; go_simp; with_reducible rfl
    simp only [List.setIfInBounds_toArray, List.set_cons_zero, List.set_cons_succ]
    refine wpAnyH_ready (rs := [11]) (by kernel_rfl) (by simp) ?_
    refine AllReadyH.cons (o := _) rfl (fun K hK => ?_) AllReadyH.nil
    go_simp
    have B2 : Hid (Below w.heap.size w (wY.alloc (.cells #[] 67))) := B1.out.alloc B1.out.size _
    have S2 : Hid ((wY.alloc (.cells #[] 67)).cell? ⟨q, 3, none⟩ = some (.map (some mm)) ∧ (wY.alloc (.cells #[] 67)).ownsMap Try.prog 69 unitElem mm 4096 D) := ⟨(HH.out.below B2.out).blk.cell 3, (HH.out.below B2.out).own⟩
    obtain ⟨p, hqq⟩ : ∃ z, z = wY.heap.size := ⟨_, rfl⟩
    rw [← hqq]
    clear hqq
    generalize wY.alloc (.cells #[] 67) = wZ at *
    refine hK.out _ _ S2.out (fun _ => ?_)
    clear hK K
    refine wpAnyH_ready (rs := [12]) (by kernel_rfl) (by simp) ?_
    refine AllReadyH.cons (o := _) rfl (fun K hK => ?_) AllReadyH.nil
    go_simp
    refine hK.out _ _ S2.out (fun _ => ?_)
    clear hK K
    refine' take_at (i := 13) (d := 8) (v := _) rfl rfl (by kernel_rfl) (by kernel_rfl) (by kernel_rfl) (fun _ _ _ h => h) (Or.inl ⟨by rfl, ?h13⟩) (S2.out) ?_
    case h13 => intro w hSw; go_simp; with_reducible rfl
    simp only [List.setIfInBounds_toArray, List.set_cons_zero, List.set_cons_succ]
    refine wpAnyH_done (by kernel_rfl) ?_ _
    go_wp2
    go_ret
    exact ⟨by rw [HCUT.out]; rfl, B2.out⟩
  refine AllReadyH.cons (o := _) rfl (fun K hK => ?_) ?_
  · go_simp
    have B1 : Hid (Below w.heap.size w (wX.alloc (.cells #[] 67))) := B0.out.alloc B0.out.size _
    have S1 : Hid ((wX.alloc (.cells #[] 67)).cell? ⟨q, 3, none⟩ = some (.map (some mm)) ∧ (wX.alloc (.cells #[] 67)).ownsMap Try.prog 69 unitElem mm 4096 D) := ⟨(HH.out.below B1.out).blk.cell 3, (HH.out.below B1.out).own⟩
    obtain ⟨p, hqq⟩ : ∃ z, z = wX.heap.size := ⟨_, rfl⟩
    rw [← hqq]
    clear hqq
    generalize wX.alloc (.cells #[] 67) = wY at *
    refine hK.out _ _ S1.out (fun _ => ?_)
    clear hK K
    refine wpAnyH_ready (rs := [6]) (by kernel_rfl) (by simp) ?_
    refine AllReadyH.cons (o := _) rfl (fun K hK => ?_) AllReadyH.nil
    go_simp
    refine (between_any9 (a : Int) (b : Int) wY).mono ?_
    rintro e wZ ⟨rfl, hb⟩
    have B2 : Hid (Below w.heap.size w wZ) := B1.out.trans (hb.mono B1.out.size)
    have S2 : Hid (wZ.cell? ⟨q, 3, none⟩ = some (.map (some mm)) ∧ wZ.ownsMap Try.prog 69 unitElem mm 4096 D) := ⟨(HH.out.below B2.out).blk.cell 3, (HH.out.below B2.out).own⟩
    clear hb
    unfold wv
    refine hK.out _ _ S2.out (fun _ => ?_)
    clear hK K
    refine' take_at (i := 7) (d := 27) (v := _) rfl rfl (by kernel_rfl) (by kernel_rfl) (by kernel_rfl) (fun _ _ _ h => h) (Or.inl ⟨by rfl, ?h7⟩) (S2.out) ?_
    case h7 => intro w hSw; have hl := look9 hSw.2 HKY.out; go_simp; with_reducible rfl
    simp only [List.setIfInBounds_toArray, List.set_cons_zero, List.set_cons_succ]
    refine' take_at (i := 8) (d := 19) (v := _) rfl rfl (by kernel_rfl) (by kernel_rfl) (by kernel_rfl) (fun _ _ _ h => h) (Or.inl ⟨by rfl, ?h8⟩) (S2.out) ?_
    case h8 => intro w hSw; go_simp; with_reducible rfl
    simp only [List.setIfInBounds_toArray, List.set_cons_zero, List.set_cons_succ]
    refine' take_at (i := 9) (d := 28) (v := _) rfl rfl (by kernel_rfl) (by kernel_rfl) (by kernel_rfl) (fun _ _ _ h => h) (Or.inl ⟨by rfl, ?h9⟩) (S2.out) ?_
    case h9 => intro w hSw; go_simp; with_reducible rfl
    simp only [List.setIfInBounds_toArray, List.set_cons_zero, List.set_cons_succ]
    refine' take_at (i := 10) (d := 29) (v := _) rfl rfl (by kernel_rfl) (by kernel_rfl) (by kernel_rfl) (fun _ _ _ h => h) (Or.inl ⟨by rfl, ?h10⟩) (S2.out) ?_
    case h10 => intro w hSw; go_simp; with_reducible rfl
    simp only [List.setIfInBounds_toArray, List.set_cons_zero, List.set_cons_succ]
    refine wpAnyH_ready (rs := [12]) (by kernel_rfl) (by simp) ?_
    refine AllReadyH.cons (o := _) rfl (fun K hK => ?_) AllReadyH.nil
    go_simp
    refine hK.out _ _ S2.out (fun _ => ?_)
    clear hK K
    refine' take_at (i := 13) (d := 8) (v := _) rfl rfl (by kernel_rfl) (by kernel_rfl) (by kernel_rfl) (fun _ _ _ h => h) (Or.inl ⟨by rfl, ?h13⟩) (S2.out) ?_
    case h13 => intro w hSw; go_simp; with_reducible rfl
    simp only [List.setIfInBounds_toArray, List.set_cons_zero, List.set_cons_succ]
    refine wpAnyH_done (by kernel_rfl) ?_ _
    go_wp2
    go_ret
    exact ⟨by rw [HCUT.out]; rfl, B2.out⟩
  exact AllReadyH.nil

set_option maxRecDepth 20000 in
set_option maxHeartbeats 4000000 in
theorem passes_any9 {w : World} {q mm : Nat} {n : Nq.Nt} {G : Nat → Prop} {D : DataW Nat} {v : Value} {ps : List Nat} (a b : Int) (h : NtU w q n G mm D v ps) (h64 : n.nodes ≤ 64) :
    Calls Try.prog 25 #[dptr q, .int .i64 a, .int .i64 b] w fun e w' => e = .returned (.bool (Nq.node n a && Nq.node n b && !n.cut a.toNat b.toNat)) ∧ Below w.heap.size w w' := by
  have HH : Hid (NtU w q n G mm D v ps) := h
  clear h
  have N1 : Hid (Calls Try.prog 32 #[dptr q, .int .i64 a] w fun e w' => e = .returned (.bool (Nq.node n a)) ∧ w' = w) := isNode_any9 a HH.out.blk
  have N2 : Hid (Calls Try.prog 32 #[dptr q, .int .i64 b] w fun e w' => e = .returned (.bool (Nq.node n b)) ∧ w' = w) := isNode_any9 b HH.out.blk
  cases ha : Nq.node n a with
  | false =>
    rw [ha] at N1
    rw [Bool.false_and, Bool.false_and]
    clear ha
    go_enter Try.func25, Try.ntmps25
    go_wp2_with fail
    refine N1.out.mono ?_
    rintro e w1 ⟨rfl, hw⟩
    rw [hw]
    clear hw w1
    go_wp2
    go_ret
    exact ⟨rfl, Below.refl _ _⟩
  | true =>
    cases hb : Nq.node n b with
    | false =>
      rw [ha] at N1
      rw [hb] at N2
      rw [Bool.true_and, Bool.false_and]
      clear ha hb
      go_enter Try.func25, Try.ntmps25
      go_wp2_with fail
      refine N1.out.mono ?_
      rintro e w1 ⟨rfl, hw⟩
      rw [hw]
      clear hw w1
      go_wp2_with fail
      refine N2.out.mono ?_
      rintro e w1 ⟨rfl, hw⟩
      rw [hw]
      clear hw w1
      go_wp2
      go_ret
      exact ⟨rfl, Below.refl _ _⟩
    | true =>
      obtain ⟨a0, a1⟩ := Nq.node_iff.1 ha
      obtain ⟨b0, b1⟩ := Nq.node_iff.1 hb
      have h := passes_yes9 a.toNat b.toNat HH.out (by omega) (by omega) h64
      rw [show ((a.toNat : Nat) : Int) = a by omega, show ((b.toNat : Nat) : Int) = b by omega] at h
      exact h
end Go.Proofs.Ytkldecdjokfajaa
