/- What slices.Delete does with one session of a row. -/
import Derived.Test.YtlabdhllindenaaWTick15
namespace Go.Proofs.Ytlabdhllindenaa
open Go.RowKit

theorem zero_run15 : ∀ w, (zeroValue 58).run Try.prog w = .ok (Value.agg #[.int .i64 0, .int .i64 0, .int .i64 0]) w := fun w => by
  obtain ⟨i0, hi, hz0, _, _⟩ := info_parts infoSe
  simp [zeroValue, typeInfo, hi, hz0]
theorem zeros_len15 (n : Nat) : (Builtin.zeroCells (Value.agg #[.int .i64 0, .int .i64 0, .int .i64 0]).cells n).toList.length = n * 3 := by rw [Array.length_toList, size_zeroCells]; rfl
theorem zeros_one15 (n : Nat) : ∀ v ∈ (Builtin.zeroCells (Value.agg #[.int .i64 0, .int .i64 0, .int .i64 0]).cells n).toList, v.oneCell' = true := by
  intro v hv
  unfold Builtin.zeroCells at hv
  simp only [Array.toList_map, List.mem_map] at hv
  obtain ⟨i, _, rfl⟩ := hv
  have h3 : i % 3 = 0 ∨ i % 3 = 1 ∨ i % 3 = 2 := by omega
  show ((#[.int .i64 0, .int .i64 0, .int .i64 0] : Array Value)[i % 3]!).oneCell' = true
  rcases h3 with e | e | e <;> rw [e] <;> rfl
set_option maxRecDepth 20000 in
set_option maxHeartbeats 8000000 in
theorem delete_any15 (g N c i : Nat) (l : List Sq.One) (w : World) (h : w.ownsRow 0 58 3 (.slice (some ⟨g, 0, none⟩) N c) N (ocs l)) (hN : N = l.length) (hl : N ≤ 64) (hi : i < N) :
    Calls Try.prog 31 #[.slice (some ⟨g, 0, none⟩) N c, .int .i64 (i : Int), .int .i64 ((i : Int) + 1)] w fun e w' => e = .returned (.slice (some ⟨g, 0, none⟩) (N - 1) c) ∧ w'.ownsRow 0 58 3 (.slice (some ⟨g, 0, none⟩) (N - 1) c) (N - 1) (ocs (l.take i ++ l.drop (i + 1))) ∧ w.grownBy w' (some g) := by
  obtain ⟨C0, hC, hcl, htk, hcm, hNc⟩ := row_whole15 h
  have H0 : Hid (w.ownsRow 0 58 3 (.slice (some ⟨g, 0, none⟩) N c) N (ocs l) ∧ N = l.length ∧ C0.length = c * 3 ∧ C0.take (N * 3) = ocs l ∧ c ≤ maxLen ∧ Cb w g C0 58) := ⟨h, hN, hcl, htk, hcm, hC⟩
  have Nc : (N : Int) ≤ (c : Int) := by omega
  have hc63 : c ≤ 9223372036854775807 := by unfold maxLen at hcm; omega
  have i0 : (0 : Int) ≤ (i : Int) := by omega
  have i1 : (i : Int) + 1 ≤ (N : Int) := by omega
  have i2 : (0 : Int) ≤ (i : Int) + 1 := by omega
  have i3 : (i : Int) ≤ (i : Int) + 1 := by omega
  have i4 : (i : Int) ≤ (c : Int) := by omega
  have i5 : ((i : Int) == (i : Int) + 1) = false := by simp; omega
  clear h hN hC hcl htk hcm
  go_enter Try.func31, Try.ntmps31
  go_upto_region 5 with fail
  refine wp_region_held_drew (S := fun _ => True) (by kernel_rfl) trivial (fun _ => ?_)
  have HX : Hid (w.drew.ownsRow 0 58 3 (.slice (some ⟨g, 0, none⟩) N c) N (ocs l) ∧ N = l.length ∧ C0.length = c * 3 ∧ C0.take (N * 3) = ocs l ∧ c ≤ maxLen ∧ Cb w.drew g C0 58 ∧ w.grownBy w.drew (some g)) := ⟨row_stays H0.out.1 fun _ _ => rfl, H0.out.2.1, H0.out.2.2.1, H0.out.2.2.2.1, H0.out.2.2.2.2.1, H0.out.2.2.2.2.2, grownBy_drew w _⟩
  clear H0
  generalize w.drew = wX at *
  -- what is left
  obtain ⟨zs, hzs⟩ : ∃ z, z = (Builtin.zeroCells (Value.agg #[.int .i64 0, .int .i64 0, .int .i64 0]).cells 1).toList := ⟨_, rfl⟩
  have hzl : zs.length = 3 := by rw [hzs]; exact zeros_len15 1
  obtain ⟨C1, hC1⟩ : ∃ z, z = over C0 (i * 3) (ocs (l.drop (i + 1))) := ⟨_, rfl⟩
  have hdl : (ocs (l.drop (i + 1))).length = (N - (i + 1)) * 3 := by rw [ocs_len, List.length_drop, HX.out.2.1]
  have hC1l : C1.length = c * 3 := by rw [hC1, over_len (by rw [hdl, HX.out.2.2.1]; omega), HX.out.2.2.1]
  have hC1t : C1.take ((N - 1) * 3) = ocs (l.take i ++ l.drop (i + 1)) := by
    have e1 : (N - 1) * 3 = i * 3 + (ocs (l.drop (i + 1))).length := by rw [hdl]; omega
    rw [hC1, e1, over_take (by rw [HX.out.2.2.1]; omega), ocs_app, ← ocs_take, ← HX.out.2.2.2.1, List.take_take, Nat.min_eq_left (by omega)]
  have HA : Hid (∀ (a : Addr) (cc : Nat) (ty : TypeId), (N - (i + 1) = 0 ∨ a = ⟨g, (i + 1) * 3, none⟩) → (Builtin.append_ #[54, 54] ty #[.slice (some ⟨g, 0, none⟩) i c, .slice (some a) (N - (i + 1)) cc]).run Try.prog wX = .ok (.slice (some ⟨g, 0, none⟩) (N - 1) c) (wX.setRow g C1.toArray)) := fun a cc ty ha => by
    obtain ⟨i0, hi, hz0, hz1, hz2⟩ := info_parts infoSe
    have hsrc : Src Try.prog i0.size 54 (.slice (some a) (N - (i + 1)) cc) (N - (i + 1)) (ocs (l.drop (i + 1))) wX := by
      rw [hz1]
      refine Src.ofSlice wX Try.underlying54 a (N - (i + 1)) cc (ocs (l.drop (i + 1))) hdl (fun j u hu => ?_) (ocs_one _)
      have hj := (List.getElem?_eq_some_iff.1 hu).1
      rcases ha with ha | rfl
      · rw [hdl, ha] at hj
        omega
      · rw [hdl] at hj
        rw [Addr.add_lit, HX.out.1.cellAt _ (by omega)]
        rw [← ocs_drop, List.getElem?_drop] at hu
        exact hu
    have e1 := run_append_part (P := Try.prog) wX 54 54 ty 58 i0 Try.underlying54 hi g 0 i c (.slice (some a) (N - (i + 1)) cc) (N - (i + 1)) (ocs (l.drop (i + 1))) C0 58 hsrc (by omega) HX.out.2.2.2.2.2.1 (by
      rw [hz1, hdl, HX.out.2.2.1]
      omega)
    rw [hz1, Nat.zero_add, ← hC1, show i + (N - (i + 1)) = N - 1 by omega] at e1
    exact e1
  have HC : Hid (Cb (wX.setRow g C1.toArray) g C1 58 ∧ wX.grownBy (wX.setRow g C1.toArray) (some g)) := ⟨HX.out.2.2.2.2.2.1.rowed C1, rowed_grown wX g _⟩
  have hcl : ∀ ty, (Builtin.clear_ #[54] ty #[.slice (some ⟨g, (N - 1) * 3, none⟩) 1 (c - (N - 1))]).run Try.prog (wX.setRow g C1.toArray) = .ok (.tuple #[]) ((wX.setRow g C1.toArray).setRow g (over C1 ((N - 1) * 3) zs).toArray) := fun ty =>
    run_clear_part (P := Try.prog) _ 54 58 ty (Value.agg #[.int .i64 0, .int .i64 0, .int .i64 0]) Try.underlying54 zero_run15 g ((N - 1) * 3) 1 (c - (N - 1)) zs C1 58 (by omega) hzs.symm (by rw [hzs]; exact zeros_one15 _) HC.out.1 (by rw [hC1l, hzl]; omega)
  have HE : Hid (((wX.setRow g C1.toArray).setRow g (over C1 ((N - 1) * 3) zs).toArray).ownsRow 0 58 3 (.slice (some ⟨g, 0, none⟩) (N - 1) c) (N - 1) (ocs (l.take i ++ l.drop (i + 1))) ∧ wX.grownBy ((wX.setRow g C1.toArray).setRow g (over C1 ((N - 1) * 3) zs).toArray) (some g)) := by
    have hD := HC.out.1.rowed (over C1 ((N - 1) * 3) zs)
    have e2 : (over C1 ((N - 1) * 3) zs).length = c * 3 := by rw [over_len (by rw [hC1l, hzl]; omega), hC1l]
    have e1 : (over C1 ((N - 1) * 3) zs).take ((N - 1) * 3) = ocs (l.take i ++ l.drop (i + 1)) := by
      unfold over
      rw [List.append_assoc, List.take_append, List.take_of_length_le (by rw [List.length_take]; omega), List.length_take, hC1l, Nat.min_eq_left (by omega), Nat.sub_self, List.take_zero, List.append_nil]
      exact hC1t
    refine ⟨⟨?_, Or.inr ⟨g, c, _, rfl, Nat.zero_le _, hD, by omega, HX.out.2.2.2.2.1, by simpa using e2, ?_⟩⟩, grownBy_trans HC.out.2 (rowed_grown _ g _)⟩
    · rw [ocs_len, List.length_append, List.length_take, List.length_drop, ← HX.out.2.1, Nat.min_eq_left (by omega)]
      omega
    · show (over C1 ((N - 1) * 3) zs).take ((N - 1) * 3) = _
      exact e1
  have n1 : (0 : Int) ≤ ((N - 1 : Nat) : Int) := by omega
  have n2 : ((N - 1 : Nat) : Int) ≤ (N : Int) := by omega
  have n3 : ¬ c = N - 1 := by omega
  have n4 : N - (N - 1) = 1 := by omega
  have i6 : (((i : Int) + 1).toNat) = i + 1 := by omega
  clear hzs hzl hC1 hdl hC1l hC1t
  obtain ⟨w1, hw1⟩ : ∃ z, z = wX.setRow g C1.toArray := ⟨_, rfl⟩
  rw [← hw1] at HA HC hcl HE
  clear hw1
  obtain ⟨w2, hw2⟩ : ∃ z, z = w1.setRow g (over C1 ((N - 1) * 3) zs).toArray := ⟨_, rfl⟩
  rw [← hw2] at hcl HE
  clear hw2
  by_cases hc : c = i + 1
  · subst hc
    have e0 : N - (i + 1) = 0 := by omega
    have HA1 := fun ty => HA.out ⟨g, 0, none⟩ 0 ty (Or.inl e0)
    rw [e0] at HA1
    clear e0
    refine' take_at (i := 0) (d := 20) (v := _) rfl rfl (by kernel_rfl) (by kernel_rfl) (by kernel_rfl) (fun _ _ _ h => h) (Or.inl ⟨by rfl, ?h0⟩) (trivial) ?_
    case h0 =>
      intro w hSw
      clear hSw
      go_simp
      with_reducible rfl
    simp only [List.setIfInBounds_toArray, List.set_cons_zero, List.set_cons_succ]
    refine' take_at (i := 1) (d := 21) (v := _) rfl rfl (by kernel_rfl) (by kernel_rfl) (by kernel_rfl) (fun _ _ _ h => h) (Or.inl ⟨by rfl, ?h1⟩) (trivial) ?_
    case h1 =>
      intro w hSw
      clear hSw
      go_simp
      with_reducible rfl
    simp only [List.setIfInBounds_toArray, List.set_cons_zero, List.set_cons_succ]
    refine' take_at (i := 2) (d := 22) (v := _) rfl rfl (by kernel_rfl) (by kernel_rfl) (by kernel_rfl) (fun _ _ _ h => h) (Or.inl ⟨by rfl, ?h2⟩) (trivial) ?_
    case h2 =>
      intro w hSw
      clear hSw
      go_simp
      with_reducible rfl
    simp only [List.setIfInBounds_toArray, List.set_cons_zero, List.set_cons_succ]
    refine' take_at (i := 3) (d := 23) (v := _) rfl rfl (by kernel_rfl) (by kernel_rfl) (by kernel_rfl) (fun _ _ _ h => h) (Or.inl ⟨by rfl, ?h3⟩) (trivial) ?_
    case h3 =>
      intro w hSw
      clear hSw
      go_simp
      with_reducible rfl
    simp only [List.setIfInBounds_toArray, List.set_cons_zero, List.set_cons_succ]
    refine' take_at (i := 4) (d := 24) (v := _) rfl rfl (by kernel_rfl) (by kernel_rfl) (by kernel_rfl) (fun _ _ _ h => h) (Or.inl ⟨by rfl, ?h4⟩) (trivial) ?_
    case h4 =>
      intro w hSw
      clear hSw
      go_simp
      with_reducible rfl
    simp only [List.setIfInBounds_toArray, List.set_cons_zero, List.set_cons_succ]
    refine' take_at (i := 5) (d := 25) (v := _) rfl rfl (by kernel_rfl) (by kernel_rfl) (by kernel_rfl) (fun _ _ _ h => h) (Or.inl ⟨by rfl, ?h5⟩) (trivial) ?_
    case h5 =>
      intro w hSw
      clear hSw
      go_simp
      with_reducible rfl
    simp only [List.setIfInBounds_toArray, List.set_cons_zero, List.set_cons_succ]
    refine wpAnyH_ready (rs := [6]) (by kernel_rfl) (by simp) ?_
    refine AllReadyH.cons (o := _) rfl (fun KQ hKQ => ?_) AllReadyH.nil
    refine wp_append_known wX _ _ 54 54 rfl (.slice (some ⟨g, 0, none⟩) i (i+1)) (.slice (some ⟨g,0,none⟩) 0 0) rfl rfl (HA1 _) ?_
    refine hKQ.out _ _ trivial (fun _ => ?_)
    clear hKQ KQ HA HA1
    refine' take_at (i := 7) (d := 0) (v := _) rfl rfl (by kernel_rfl) (by kernel_rfl) (by kernel_rfl) (fun _ _ _ h => h) (Or.inl ⟨by rfl, ?h7⟩) (trivial) ?_
    case h7 =>
      intro w hSw
      clear hSw
      go_simp
      with_reducible rfl
    simp only [List.setIfInBounds_toArray, List.set_cons_zero, List.set_cons_succ]
    refine wpAnyH_done (by kernel_rfl) ?_ _
    go_wp2_with (at_builtin; refine wpList_clear_known w1 rfl _ 54 rfl (.slice (some ⟨g, (N - 1) * 3, none⟩) 1 ((i+1) - (N - 1))) rfl (hcl _) ?_)
    go_wp2
    go_ret
    exact ⟨rfl, HE.out.1, grownBy_trans HX.out.2.2.2.2.2.2 HE.out.2⟩
  · have HA1 := fun ty => HA.out ⟨g, (i + 1) * 3, none⟩ (c - (i + 1)) ty (Or.inr rfl)
    refine' take_at (i := 0) (d := 20) (v := _) rfl rfl (by kernel_rfl) (by kernel_rfl) (by kernel_rfl) (fun _ _ _ h => h) (Or.inl ⟨by rfl, ?h0⟩) (trivial) ?_
    case h0 =>
      intro w hSw
      clear hSw
      go_simp
      with_reducible rfl
    simp only [List.setIfInBounds_toArray, List.set_cons_zero, List.set_cons_succ]
    refine' take_at (i := 1) (d := 21) (v := _) rfl rfl (by kernel_rfl) (by kernel_rfl) (by kernel_rfl) (fun _ _ _ h => h) (Or.inl ⟨by rfl, ?h1⟩) (trivial) ?_
    case h1 =>
      intro w hSw
      clear hSw
      go_simp
      with_reducible rfl
    simp only [List.setIfInBounds_toArray, List.set_cons_zero, List.set_cons_succ]
    refine' take_at (i := 2) (d := 22) (v := _) rfl rfl (by kernel_rfl) (by kernel_rfl) (by kernel_rfl) (fun _ _ _ h => h) (Or.inl ⟨by rfl, ?h2⟩) (trivial) ?_
    case h2 =>
      intro w hSw
      clear hSw
      go_simp
      with_reducible rfl
    simp only [List.setIfInBounds_toArray, List.set_cons_zero, List.set_cons_succ]
    refine' take_at (i := 3) (d := 23) (v := _) rfl rfl (by kernel_rfl) (by kernel_rfl) (by kernel_rfl) (fun _ _ _ h => h) (Or.inl ⟨by rfl, ?h3⟩) (trivial) ?_
    case h3 =>
      intro w hSw
      clear hSw
      go_simp
      with_reducible rfl
    simp only [List.setIfInBounds_toArray, List.set_cons_zero, List.set_cons_succ]
    refine' take_at (i := 4) (d := 24) (v := _) rfl rfl (by kernel_rfl) (by kernel_rfl) (by kernel_rfl) (fun _ _ _ h => h) (Or.inl ⟨by rfl, ?h4⟩) (trivial) ?_
    case h4 =>
      intro w hSw
      clear hSw
      go_simp
      with_reducible rfl
    simp only [List.setIfInBounds_toArray, List.set_cons_zero, List.set_cons_succ]
    refine' take_at (i := 5) (d := 25) (v := _) rfl rfl (by kernel_rfl) (by kernel_rfl) (by kernel_rfl) (fun _ _ _ h => h) (Or.inl ⟨by rfl, ?h5⟩) (trivial) ?_
    case h5 =>
      intro w hSw
      clear hSw
      go_simp
      with_reducible rfl
    simp only [List.setIfInBounds_toArray, List.set_cons_zero, List.set_cons_succ]
    refine wpAnyH_ready (rs := [6]) (by kernel_rfl) (by simp) ?_
    refine AllReadyH.cons (o := _) rfl (fun KQ hKQ => ?_) AllReadyH.nil
    refine wp_append_known wX _ _ 54 54 rfl (.slice (some ⟨g, 0, none⟩) i c) (.slice (some ⟨g,(i+1)*3,none⟩) (N-(i+1)) (c-(i+1))) rfl rfl (HA1 _) ?_
    refine hKQ.out _ _ trivial (fun _ => ?_)
    clear hKQ KQ HA HA1
    refine' take_at (i := 7) (d := 0) (v := _) rfl rfl (by kernel_rfl) (by kernel_rfl) (by kernel_rfl) (fun _ _ _ h => h) (Or.inl ⟨by rfl, ?h7⟩) (trivial) ?_
    case h7 =>
      intro w hSw
      clear hSw
      go_simp
      with_reducible rfl
    simp only [List.setIfInBounds_toArray, List.set_cons_zero, List.set_cons_succ]
    refine wpAnyH_done (by kernel_rfl) ?_ _
    go_wp2_with (at_builtin; refine wpList_clear_known w1 rfl _ 54 rfl (.slice (some ⟨g, (N - 1) * 3, none⟩) 1 (c - (N - 1))) rfl (hcl _) ?_)
    go_wp2
    go_ret
    exact ⟨rfl, HE.out.1, grownBy_trans HX.out.2.2.2.2.2.2 HE.out.2⟩
end Go.Proofs.Ytlabdhllindenaa
