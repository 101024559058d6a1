/- What slices.Insert makes of a row of first names. -/
import Derived.Test.YtpjdjobdbandhaaDoorWFind16
import Derived.Lib.Overlaps
import Derived.Lib.AppendZerosOnto
import Derived.Maps.AppendAt
namespace Go.Proofs.YtpjdjobdbandhaaDoor
open Go.RowKit

/-- One more watch at the row's end. -/
theorem wpList_wt16 {ops : Array Oper} {rest : List Oper} {o : Oper} {a : Act} {Q : Exit → Act → World → Prop} (hgd : o.guard = none) (s x : Operand)
    (ho : o.op = .call { callee := .builtin .append, args := #[s, x], argTypes := #[61, 61] })
    (B : Nat) (v : Value) (l : List Tb.Mv) (y : Tb.Mv) (sb N : Nat) (w : World) (hs : a.eval s = v) (hx : a.eval x = .slice (some ⟨sb, 0, none⟩) 1 1) (hown : w.ownsRow B 68 2 v N (mcs l)) (hB : B ≤ w.heap.size) (hc : Cb w sb (mc y) 68) (hN : N ≤ 3000)
    (h : ∀ v' w', w'.ownsRow B 68 2 v' (N + 1) (mcs (l ++ [y])) → w.grownBy w' v.ownBlock → (v'.ownBlock = v.ownBlock ∨ v'.ownBlock = some w.heap.size) → wpList Tryd.prog ops Q rest (a.put o.dst v') w') : wpList Tryd.prog ops Q (o :: rest) a w := by
  refine wpList_plain hgd fun K hK => ?_
  obtain ⟨i0, hi, hz0, hz1, hz2⟩ := info_parts infoMv
  have hcell : ∀ j u, (mc y)[j]? = some u → w.cell? ((⟨sb, 0, none⟩ : Addr).add j) = some u := fun j u hu => by
    rw [Addr.add_lit, Nat.zero_add, hc.cell j]
    exact hu
  obtain ⟨v', w', hr, h2, h3, h4, h5⟩ := run_append_own_at (P := Tryd.prog) w B 61 o.type 68 i0 _ 2 24 Tryd.underlying61 hi hz0 hz1 hz2 rfl (by decide) v N (mcs l) hown ⟨sb, 0, none⟩ 1 1 (mc y) rfl hcell (by have := mcs_one [y]; simpa [mcs] using this) (by unfold maxLen; omega) (by omega) hB
  unfold Oper.wp execOp
  simp only [ho, resolve, invoke, builtin, Sem.run_bind, Sem.run_pure, Result.andThen_ok, List.map_toArray, List.map_cons, List.map_nil, hs, hx, hr]
  refine hK _ _ (h v' w' ?_ h3 h5)
  rw [mcs_app]
  simpa [mcs] using h2

/-- What Insert leaves. -/
def InsP (B : Nat) (v : Value) (N : Nat) (ms : List Tb.Mv) (w : World) (e : Ending) (w' : World) : Prop :=
  ∃ v', e = .returned v' ∧ w'.ownsRow B 68 2 v' (N + 1) (mcs ms) ∧ w.grownBy w' v.ownBlock ∧ (v'.ownBlock = v.ownBlock ∨ v'.ownBlock = some w.heap.size)

set_option maxRecDepth 20000 in
set_option maxHeartbeats 4000000 in
theorem insert_end16 (B : Nat) (v : Value) (N : Nat) (l : List Tb.Mv) (x : Tb.Mv) (vb : Nat) (w : World) (h : w.ownsRow B 68 2 v N (mcs l)) (hB : B ≤ w.heap.size) (hN : N ≤ 1000) (hc : Cb w vb (mc x) 68) :
    Calls Tryd.prog 30 #[v, .int .i64 (N : Int), .slice (some ⟨vb, 0, none⟩) 1 1] w (InsP B v N (l ++ [x]) w) := by
  have H0 : Hid (w.ownsRow B 68 2 v N (mcs l) ∧ B ≤ w.heap.size ∧ Cb w vb (mc x) 68) := ⟨h, hB, hc⟩
  have hB2 := hB
  rcases h.2 with ⟨rfl, rfl⟩ | ⟨g, c, cur, rfl, hg1, hg2, hNc, hg3⟩
  · clear h hB hc hN
    go_enter Tryd.func30, Tryd.ntmps30
    go_wp2_with (at_builtin; refine wpList_wt16 rfl _ _ rfl B (.slice none 0 0) l x vb 0 w rfl rfl H0.out.1 H0.out.2.1 H0.out.2.2 (by omega) ?_)
    intro v' w' h1 h2 h3
    obtain ⟨a2, c2, e2, _, _⟩ := row_form h1
    subst e2
    have HR : Hid _ := And.intro h1 (And.intro h2 h3)
    clear h1 h2 h3
    go_wp2
    go_ret
    exact ⟨_, rfl, HR.out.1, HR.out.2.1, HR.out.2.2⟩
  · have n0 : (0 : Int) ≤ (N : Int) := by omega
    have nc : (N : Int) ≤ (c : Int) := by omega
    clear h hB hc hg1 hg2 hg3
    by_cases hcn : c = N
    · subst hcn
      go_enter Tryd.func30, Tryd.ntmps30
      go_wp2_with (at_builtin; refine wpList_wt16 rfl _ _ rfl B (.slice (some ⟨g, 0, none⟩) c c) l x vb c w rfl rfl H0.out.1 H0.out.2.1 H0.out.2.2 (by omega) ?_)
      intro v' w' h1 h2 h3
      obtain ⟨a2, c2, e2, _, _⟩ := row_form h1
      subst e2
      have HR : Hid _ := And.intro h1 (And.intro h2 h3)
      clear h1 h2 h3
      go_wp2
      go_ret
      exact ⟨_, rfl, HR.out.1, HR.out.2.1, HR.out.2.2⟩
    · go_enter Tryd.func30, Tryd.ntmps30
      go_wp2_with (at_builtin; refine wpList_wt16 rfl _ _ rfl B (.slice (some ⟨g, 0, none⟩) N c) l x vb N w rfl rfl H0.out.1 H0.out.2.1 H0.out.2.2 (by omega) ?_)
      intro v' w' h1 h2 h3
      obtain ⟨a2, c2, e2, _, _⟩ := row_form h1
      subst e2
      have HR : Hid _ := And.intro h1 (And.intro h2 h3)
      clear h1 h2 h3
      go_wp2
      go_ret
      exact ⟨_, rfl, HR.out.1, HR.out.2.1, HR.out.2.2⟩

theorem take_mcs16 {l : List Tb.Mv} (i : Nat) : (mcs l).take (i * 2) = mcs (l.take i) := by
  by_cases h : i ≤ l.length
  · conv => lhs; rw [← List.take_append_drop i l, mcs_app]
    have e : (mcs (l.take i)).length = i * 2 := by rw [mcs_len, List.length_take, Nat.min_eq_left h]
    rw [← e, List.take_left]
  · rw [List.take_of_length_le (by rw [mcs_len]; omega), List.take_of_length_le (by omega)]
/-- The cells behind a place. -/
theorem drop_cell16 {w : World} {B g N c : Nat} {l : List Tb.Mv} (h : w.ownsRow B 68 2 (.slice (some ⟨g, 0, none⟩) N c) N (mcs l)) {i : Nat} (hi : i ≤ l.length) (j : Nat) (u : Value) (hu : (mcs (l.drop i))[j]? = some u) : w.cell? ((⟨g, i * 2, none⟩ : Addr).add j) = some u := by
  have hj := (List.getElem?_eq_some_iff.1 hu).1
  have hN : l.length * 2 = N * 2 := by rw [← mcs_len]; exact h.1
  rw [mcs_len, List.length_drop] at hj
  rw [Addr.add_lit, h.cellAt _ (by omega)]
  have e : mcs l = mcs (l.take i) ++ mcs (l.drop i) := by rw [← mcs_app, List.take_append_drop]
  have e2 : (mcs (l.take i)).length = i * 2 := by rw [mcs_len, List.length_take, Nat.min_eq_left hi]
  rw [e, List.getElem?_append_right (by rw [e2]; omega), e2, Nat.add_sub_cancel_left]
  exact hu
theorem sizeMv : (Tryd.prog.info? 68).map (·.size) = some 2 := by kernel_rfl
theorem size_run16 : ∀ w, (Go.sizeOf 68).run Tryd.prog w = .ok 2 w := fun w => by
  obtain ⟨i0, hi, _, hz1, _⟩ := info_parts infoMv
  simp [Go.sizeOf, typeInfo, hi, hz1]

set_option maxRecDepth 20000 in
set_option maxHeartbeats 8000000 in
theorem insert_shift16 (B g N c i : Nat) (l : List Tb.Mv) (x : Tb.Mv) (vb : Nat) (w : World) (h : w.ownsRow B 68 2 (.slice (some ⟨g, 0, none⟩) N c) N (mcs l)) (hN : N ≤ 1000) (hl : N = l.length) (hi : i < N) (hr : N + 1 ≤ c) (hc : Cb w vb (mc x) 68) (hv : vb ≠ g) :
    Calls Tryd.prog 30 #[.slice (some ⟨g, 0, none⟩) N c, .int .i64 (i : Int), .slice (some ⟨vb, 0, none⟩) 1 1] w (InsP B (.slice (some ⟨g, 0, none⟩) N c) N (l.take i ++ x :: l.drop i) w) := by
  obtain ⟨cur, hg, hcur, htk, hcm, hBg⟩ : ∃ cur : List Value, Cb w g cur 68 ∧ cur.length = c * 2 ∧ cur.take (N * 2) = mcs l ∧ c ≤ maxLen ∧ B ≤ g := by
    rcases h.2 with ⟨e, _⟩ | ⟨g', c', cur, e, h1, h2, h3, h4, h5, h6⟩
    · cases e
    · simp only [Value.slice.injEq, Option.some.injEq, Addr.mk.injEq, and_true] at e
      obtain ⟨⟨rfl, _⟩, _, rfl⟩ := e
      exact ⟨cur.toList, by unfold Cb; rw [Array.toArray_toList]; exact h2, by simpa using h5, h6, h4, h1⟩
  have hc63 : c ≤ 9223372036854775807 := by unfold maxLen at hcm; omega
  have hdl : (mcs (l.drop i)).length = (N - i) * 2 := by rw [mcs_len, List.length_drop, hl]
  -- what the first copy leaves
  obtain ⟨cur1, hcur1⟩ : ∃ z, z = over cur ((i + 1) * 2) (mcs (l.drop i)) := ⟨_, rfl⟩
  have hl1 : cur1.length = c * 2 := by rw [hcur1, over_len (by rw [hdl, hcur]; omega), hcur]
  obtain ⟨cur2, hcur2⟩ : ∃ z, z = over cur1 (i * 2) (mc x) := ⟨_, rfl⟩
  have hl2 : cur2.length = c * 2 := by rw [hcur2, over_len (by rw [hl1]; simp only [mc, List.length_cons, List.length_nil]; omega), hl1]
  have hfin : cur2.take ((N + 1) * 2) = mcs (l.take i ++ x :: l.drop i) := by
    have e1 : cur1.take (i * 2) = mcs (l.take i) := by
      rw [hcur1]
      unfold over
      rw [List.append_assoc, List.take_append_of_le_length (by rw [List.length_take, hcur]; omega), List.take_take, Nat.min_eq_left (by omega), ← take_mcs16, ← htk, List.take_take, Nat.min_eq_left (by omega)]
    have e2 : (cur1.drop (i * 2 + 2)).take ((N - i) * 2) = mcs (l.drop i) := by
      rw [hcur1]
      unfold over
      have e3 : (cur.take ((i + 1) * 2)).length = i * 2 + 2 := by rw [List.length_take, hcur]; omega
      rw [List.append_assoc, ← e3, List.drop_left, ← hdl, List.take_left]
    rw [hcur2]
    unfold over
    have e4 : (cur1.take (i * 2)).length = i * 2 := by rw [List.length_take, hl1]; omega
    have e5 : (N + 1) * 2 = (cur1.take (i * 2) ++ mc x).length + (N - i) * 2 := by rw [List.length_append, e4]; simp only [mc, List.length_cons, List.length_nil]; omega
    rw [e5, List.take_length_add_append, e1]
    have e6 : cur1.drop (i * 2 + (mc x).length) = cur1.drop (i * 2 + 2) := rfl
    rw [e6, e2, mcs_app]
    show _ = mcs (l.take i) ++ mcs ([x] ++ l.drop i)
    rw [mcs_app]
    simp [mcs]
  have hov : ∀ lb cb, (callFunc 54 #[.slice (some ⟨vb, 0, none⟩) 1 1, .slice (some ⟨g, (i + 1) * 2, none⟩) lb cb]).run Tryd.prog w = .ok (.value (.bool false)) w := fun lb cb => by
    rw [run_callFunc_extern Tryd.func54 (by kernel_rfl) (by kernel_rfl) (by kernel_rfl) (e := Extern.SlicesOverlaps.overlaps #[61, 61] #[4]) (by kernel_rfl),
      Lib.run_overlaps_apart w 61 4 68 Tryd.underlying61 2 size_run16 ⟨vb, 0, none⟩ ⟨g, (i + 1) * 2, none⟩ 1 1 lb cb hv 68 68 2 (c * 2)
        (by unfold Cb at hc; simp [World.shape?, hc, mc]) (by unfold Cb at hg; simp [World.shape?, hg, hcur]) (by omega) (hc.free 0) (hc.free 2)]
    rfl
  have hcp1 : ∀ ty dc sc, (Builtin.copy_ #[61, 61] ty #[.slice (some ⟨g, (i + 1) * 2, none⟩) (N - i) dc, .slice (some ⟨g, i * 2, none⟩) (N + 1 - i) sc]).run Tryd.prog w.drew = .ok (goInt ((N - i : Nat) : Int)) (w.drew.setRow g cur1.toArray) := fun ty dc sc => by
    rw [hcur1]
    exact run_copy_part (P := Tryd.prog) w.drew 61 61 ty 68 2 g ((i + 1) * 2) (N - i) dc ⟨g, i * 2, none⟩ (N + 1 - i) sc (N - i) (mcs (l.drop i)) cur 68 Tryd.underlying61 sizeMv (by simp only [Nat.min_def]; split <;> omega) hdl (fun j u hu => drop_cell16 h (by omega) j u hu) hg (by rw [hdl, hcur]; omega) (mcs_one _)
  obtain ⟨w1, hw1⟩ : ∃ z, z = w.drew.setRow g cur1.toArray := ⟨_, rfl⟩
  have HC1 : Hid (Cb w1 g cur1 68 ∧ Cb w1 vb (mc x) 68 ∧ w.grownBy w1 (some g)) := by
    have h1 : Cb w.drew g cur 68 := hg
    have h2 : Cb w.drew vb (mc x) 68 := hc
    rw [hw1]
    exact ⟨h1.rowed cur1, h2.rowed_other hv _, grownBy_trans (grownBy_drew w _) (rowed_grown w.drew g _)⟩
  have hcp2 : ∀ ty dc, (Builtin.copy_ #[61, 61] ty #[.slice (some ⟨g, i * 2, none⟩) (N + 1 - i) dc, .slice (some ⟨vb, 0, none⟩) 1 1]).run Tryd.prog w1 = .ok (goInt 1) (w1.setRow g cur2.toArray) := fun ty dc => by
    rw [hcur2]
    exact run_copy_part (P := Tryd.prog) w1 61 61 ty 68 2 g (i * 2) (N + 1 - i) dc ⟨vb, 0, none⟩ 1 1 1 (mc x) cur1 68 Tryd.underlying61 sizeMv (by simp only [Nat.min_def]; split <;> omega) rfl (fun j u hu => by rw [Addr.add_lit, Nat.zero_add, HC1.out.2.1.cell j]; exact hu) HC1.out.1 (by rw [hl1]; simp only [mc, List.length_cons, List.length_nil]; omega) (by have := mcs_one [x]; simpa [mcs] using this)
  rw [← hw1] at hcp1
  have HE : Hid ((w1.setRow g cur2.toArray).ownsRow B 68 2 (.slice (some ⟨g, 0, none⟩) (N + 1) c) (N + 1) (mcs (l.take i ++ x :: l.drop i)) ∧ w.grownBy (w1.setRow g cur2.toArray) (some g)) := by
    refine ⟨⟨by rw [← hfin, List.length_take, hl2]; omega, Or.inr ⟨g, c, cur2.toArray, rfl, hBg, HC1.out.1.rowed cur2, by omega, hcm, by simpa using hl2, by simpa using hfin⟩⟩, grownBy_trans HC1.out.2.2 (rowed_grown w1 g _)⟩
  have HW : Hid (w1 = w.drew.setRow g cur1.toArray) := hw1
  have i0 : (0 : Int) ≤ (i : Int) := by omega
  have iN : (i : Int) ≤ (N : Int) := by omega
  have iN1 : (i : Int) ≤ (N : Int) + 1 := by omega
  have iNe : ((i : Int) == (N : Int)) = false := by simp; omega
  have nc1 : (N : Int) + 1 ≤ (c : Int) := by omega
  have ncb : ¬ (c : Int) < (N : Int) + 1 := by omega
  have n10 : (0 : Int) ≤ (N : Int) + 1 := by omega
  have hw2 : IntKind.wrap .i64 ((N : Int) + 1) = (N : Int) + 1 := by rw [IntKind.wrap_i64]; omega
  have hw3 : IntKind.wrap .i64 ((i : Int) + 1) = (i : Int) + 1 := by rw [IntKind.wrap_i64]; omega
  have i10 : (0 : Int) ≤ (i : Int) + 1 := by omega
  have i1N : (i : Int) + 1 ≤ (N : Int) + 1 := by omega
  have cni : ¬ c = i := by omega
  have cni1 : ¬ c = i + 1 := by omega
  have Nc : (N : Int) ≤ (c : Int) := by omega
  clear h hg hcur htk hcm hBg hdl hcur1 hl1 hcur2 hl2 hfin hw1 hl hc
  go_enter Tryd.func30, Tryd.ntmps30
  go_wp2_with (simp only [hov])
  refine wp_region_held_drew (S := fun _ => True) (by kernel_rfl) trivial (fun _ => ?_)
  refine' take_at (i := 0) (d := 69) (v := _) rfl rfl (by kernel_rfl) (by kernel_rfl) (by kernel_rfl) (fun _ _ _ h => h) (Or.inl ⟨by rfl, ?h0⟩) (trivial) ?_
  case h0 =>
    intro w hSw
    clear hSw
    go_simp
    with_reducible rfl
  simp only [List.setIfInBounds_toArray, List.set_cons_zero, List.set_cons_succ]
  refine' take_at (i := 1) (d := 70) (v := _) rfl rfl (by kernel_rfl) (by kernel_rfl) (by kernel_rfl) (fun _ _ _ h => h) (Or.inl ⟨by rfl, ?h1⟩) (trivial) ?_
  case h1 =>
    intro w hSw
    clear hSw
    go_simp
    with_reducible rfl
  simp only [List.setIfInBounds_toArray, List.set_cons_zero, List.set_cons_succ]
  refine' take_at (i := 2) (d := 71) (v := _) rfl rfl (by kernel_rfl) (by kernel_rfl) (by kernel_rfl) (fun _ _ _ h => h) (Or.inl ⟨by rfl, ?h2⟩) (trivial) ?_
  case h2 =>
    intro w hSw
    clear hSw
    go_simp
    with_reducible rfl
  simp only [List.setIfInBounds_toArray, List.set_cons_zero, List.set_cons_succ]
  refine' take_at (i := 3) (d := 72) (v := _) rfl rfl (by kernel_rfl) (by kernel_rfl) (by kernel_rfl) (fun _ _ _ h => h) (Or.inl ⟨by rfl, ?h3⟩) (trivial) ?_
  case h3 =>
    intro w hSw
    clear hSw
    go_simp
    with_reducible rfl
  simp only [List.setIfInBounds_toArray, List.set_cons_zero, List.set_cons_succ]
  refine' take_at (i := 4) (d := 73) (v := _) rfl rfl (by kernel_rfl) (by kernel_rfl) (by kernel_rfl) (fun _ _ _ h => h) (Or.inl ⟨by rfl, ?h4⟩) (trivial) ?_
  case h4 =>
    intro w hSw
    clear hSw
    go_simp
    with_reducible rfl
  simp only [List.setIfInBounds_toArray, List.set_cons_zero, List.set_cons_succ]
  refine' take_at (i := 5) (d := 74) (v := _) rfl rfl (by kernel_rfl) (by kernel_rfl) (by kernel_rfl) (fun _ _ _ h => h) (Or.inl ⟨by rfl, ?h5⟩) (trivial) ?_
  case h5 =>
    intro w hSw
    clear hSw
    go_simp
    with_reducible rfl
  simp only [List.setIfInBounds_toArray, List.set_cons_zero, List.set_cons_succ]
  refine' take_at (i := 6) (d := 75) (v := _) rfl rfl (by kernel_rfl) (by kernel_rfl) (by kernel_rfl) (fun _ _ _ h => h) (Or.inl ⟨by rfl, ?h6⟩) (trivial) ?_
  case h6 =>
    intro w hSw
    clear hSw
    go_simp
    with_reducible rfl
  simp only [List.setIfInBounds_toArray, List.set_cons_zero, List.set_cons_succ]
  refine' take_at (i := 7) (d := 76) (v := _) rfl rfl (by kernel_rfl) (by kernel_rfl) (by kernel_rfl) (fun _ _ _ h => h) (Or.inl ⟨by rfl, ?h7⟩) (trivial) ?_
  case h7 =>
    intro w hSw
    clear hSw
    go_simp
    with_reducible rfl
  simp only [List.setIfInBounds_toArray, List.set_cons_zero, List.set_cons_succ]
  refine wpAnyH_ready (rs := [8]) (by kernel_rfl) (by simp) ?_
  refine AllReadyH.cons (o := _) rfl (fun KQ hKQ => ?_) AllReadyH.nil
  refine wp_copy_known w.drew _ _ 61 61 rfl (.slice (some ⟨g, (i + 1) * 2, none⟩) (N - i) (c - (i + 1))) (.slice (some ⟨g, i * 2, none⟩) (N + 1 - i) (c - i)) rfl rfl (hcp1 _ _ _) ?_
  refine hKQ.out _ _ trivial (fun _ => ?_)
  clear hKQ KQ
  refine wpAnyH_done (by kernel_rfl) ?_ _
  go_wp2_with (at_builtin; refine wpList_copy_known w1 rfl _ _ 61 61 rfl (.slice (some ⟨g, i * 2, none⟩) (N + 1 - i) (c - i)) (.slice (some ⟨vb, 0, none⟩) 1 1) rfl rfl (hcp2 _ _) ?_)
  go_wp2
  go_ret
  exact ⟨_, rfl, HE.out.1, HE.out.2, Or.inl rfl⟩

set_option maxRecDepth 20000 in
set_option maxHeartbeats 8000000 in
theorem insert_grow16 (B g N i : Nat) (l : List Tb.Mv) (x : Tb.Mv) (vb : Nat) (w : World) (h : w.ownsRow B 68 2 (.slice (some ⟨g, 0, none⟩) N N) N (mcs l)) (hB : B ≤ w.heap.size) (hN : N ≤ 1000) (hl : N = l.length) (hi : i < N) (hc : Cb w vb (mc x) 68) :
    Calls Tryd.prog 30 #[.slice (some ⟨g, 0, none⟩) N N, .int .i64 (i : Int), .slice (some ⟨vb, 0, none⟩) 1 1] w (InsP B (.slice (some ⟨g, 0, none⟩) N N) N (l.take i ++ x :: l.drop i) w) := by
  obtain ⟨i0, hi0, hz0, hz1, hz2⟩ := info_parts infoMv
  have hgw : g < w.heap.size := (h.lt g rfl).2
  have hvw : vb < w.heap.size := hc.lt
  have htl : (mcs (l.take i)).length = i * 2 := by rw [mcs_len, List.length_take, Nat.min_eq_left (by omega)]
  have hdl : (mcs (l.drop i)).length = (N - i) * 2 := by rw [mcs_len, List.length_drop, hl]
  have hold : (Builtin.firstCells i0.size i (.slice (some ⟨g, 0, none⟩) i N)).run Tryd.prog w.drew = .ok (mcs (l.take i)).toArray w.drew := by
    rw [hz1]
    refine run_firstCells_some w.drew 2 i ⟨g, 0, none⟩ i N (mcs (l.take i)) htl (fun j v hj => ?_)
    have hjl := (List.getElem?_eq_some_iff.1 hj).1
    rw [htl] at hjl
    rw [Addr.add_lit, Nat.zero_add]
    show w.cell? _ = _
    rw [h.cellAt _ (by omega)]
    rw [← take_mcs16, List.getElem?_take, if_pos hjl] at hj
    exact hj
  obtain ⟨G, hG⟩ : ∃ G, G = grownCap w (N + 1) N 68 := ⟨_, rfl⟩
  have hG1 : N + 1 ≤ G := by rw [hG]; exact grownCap_ge w (N + 1) N 68
  have hG2 : G ≤ maxLen := by rw [hG]; exact grownCap_le_maxLen w (N + 1) N 68 (by unfold maxLen; omega)
  obtain ⟨row, hrow⟩ : ∃ row : List Value, row = mcs (l.take i) ++ (Builtin.zeroCells (Value.agg #[.string ⟨#[]⟩, .int .i64 0]).cells (N + 1 - i)).toList ++ (Builtin.zeroCells (Value.agg #[.string ⟨#[]⟩, .int .i64 0]).cells (G - (N + 1))).toList := ⟨_, rfl⟩
  have hrl : row.length = G * 2 := by
    have e1 : ∀ n, (Builtin.zeroCells (Value.agg #[.string ⟨#[]⟩, .int .i64 0]).cells n).toList.length = n * 2 := fun n => by rw [Array.length_toList, size_zeroCells]; rfl
    rw [hrow, List.length_append, List.length_append, htl, e1, e1]
    omega
  obtain ⟨w1, hw1⟩ : ∃ z, z = w.drew.alloc (.cells row.toArray 68) := ⟨_, rfl⟩
  obtain ⟨r, hr⟩ : ∃ r, r = w.heap.size := ⟨_, rfl⟩
  have hkk : (N : Int) + 1 - (i : Int) = ((N + 1 - i : Nat) : Int) := by omega
  have hrz : ∀ ty, (Builtin.append_ #[61, 3] ty #[.slice (some ⟨g, 0, none⟩) i N, .int .i64 ((N : Int) + 1 - (i : Int))]).run Tryd.prog w = .ok (.slice (some ⟨r, 0, none⟩) (N + 1) G) w1 := fun ty => by
    have hik : i + (N + 1 - i) = N + 1 := by omega
    have h2 := Lib.run_append_grow_zeros w 61 3 ty 68 i0 (Value.agg #[.string ⟨#[]⟩, .int .i64 0]) .i64 .i64 Tryd.underlying61 Tryd.underlying3 hi0 hz0 (some ⟨g, 0, none⟩) i N (mcs (l.take i)) hold (N + 1 - i) (by omega) (by omega) (by omega) (by omega) (by rw [hz2]; omega) (by rw [hz2, hik]; exact growslice_fits (by omega) (by omega))
    rw [hik, ← hG] at h2
    rw [hkk, h2, hr, hw1, hrow]
    congr 3
    apply Array.ext'
    simp
  have HB1 : Hid (Below w.heap.size w w1) := by rw [hw1]; exact ((Below.refl _ w).drew).alloc (Nat.le_refl _) _
  have hc1 : Cb w1 r row 68 := by rw [hr, hw1]; exact Cb.made w.drew row _
  have hx1 : Cb w1 vb (mc x) 68 := hc.below HB1.out
  obtain ⟨cur1, hcur1⟩ : ∃ z, z = over row (i * 2) (mc x) := ⟨_, rfl⟩
  have hl1 : cur1.length = G * 2 := by rw [hcur1, over_len (by rw [hrl]; simp only [mc, List.length_cons, List.length_nil]; omega), hrl]
  obtain ⟨cur2, hcur2⟩ : ∃ z, z = over cur1 ((i + 1) * 2) (mcs (l.drop i)) := ⟨_, rfl⟩
  have hl2 : cur2.length = G * 2 := by rw [hcur2, over_len (by rw [hdl, hl1]; omega), hl1]
  have hfin : cur2.take ((N + 1) * 2) = mcs (l.take i ++ x :: l.drop i) := by
    have e1 : cur1.take (i * 2 + (mc x).length) = row.take (i * 2) ++ mc x := by rw [hcur1]; exact over_take (by rw [hrl]; omega)
    have e2 : row.take (i * 2) = mcs (l.take i) := by rw [hrow, List.append_assoc, ← htl, List.take_left]
    have e3 : (N + 1) * 2 = (i + 1) * 2 + (mcs (l.drop i)).length := by rw [hdl]; omega
    rw [hcur2, e3, over_take (by rw [hl1]; omega)]
    have e4 : cur1.take ((i + 1) * 2) = mcs (l.take i) ++ mc x := by
      have e5 : (i + 1) * 2 = i * 2 + (mc x).length := by simp only [mc, List.length_cons, List.length_nil]; omega
      rw [e5, e1, e2]
    rw [e4, mcs_app]
    show _ = mcs (l.take i) ++ mcs ([x] ++ l.drop i)
    rw [mcs_app]
    simp [mcs]
  have hcp1 : ∀ ty dc, (Builtin.copy_ #[61, 61] ty #[.slice (some ⟨r, i * 2, none⟩) (N + 1 - i) dc, .slice (some ⟨vb, 0, none⟩) 1 1]).run Tryd.prog w1 = .ok (goInt 1) (w1.setRow r cur1.toArray) := fun ty dc => by
    rw [hcur1]
    exact run_copy_part (P := Tryd.prog) w1 61 61 ty 68 2 r (i * 2) (N + 1 - i) dc ⟨vb, 0, none⟩ 1 1 1 (mc x) row 68 Tryd.underlying61 sizeMv (by simp only [Nat.min_def]; split <;> omega) rfl (fun j u hu => by rw [Addr.add_lit, Nat.zero_add, hx1.cell j]; exact hu) hc1 (by rw [hrl]; simp only [mc, List.length_cons, List.length_nil]; omega) (by have := mcs_one [x]; simpa [mcs] using this)
  obtain ⟨w2, hw2⟩ : ∃ z, z = w1.setRow r cur1.toArray := ⟨_, rfl⟩
  have HB2 : Hid (Below w.heap.size w w2.drew ∧ Cb w2.drew r cur1 68) := by
    rw [hw2]
    have h1 : Cb (w1.setRow r cur1.toArray).drew r cur1 68 := hc1.rowed cur1
    exact ⟨(rowed_below HB1.out (Nat.le_refl _) (by omega) _).drew, h1⟩
  have h2 : w2.drew.ownsRow B 68 2 (.slice (some ⟨g, 0, none⟩) N N) N (mcs l) := row_stays h fun k hk => HB2.out.1.block k (h.lt k hk).2
  have hcp2 : ∀ ty dc sc, (Builtin.copy_ #[61, 61] ty #[.slice (some ⟨r, (i + 1) * 2, none⟩) (N - i) dc, .slice (some ⟨g, i * 2, none⟩) (N - i) sc]).run Tryd.prog w2.drew = .ok (goInt ((N - i : Nat) : Int)) (w2.drew.setRow r cur2.toArray) := fun ty dc sc => by
    rw [hcur2]
    exact run_copy_part (P := Tryd.prog) w2.drew 61 61 ty 68 2 r ((i + 1) * 2) (N - i) dc ⟨g, i * 2, none⟩ (N - i) sc (N - i) (mcs (l.drop i)) cur1 68 Tryd.underlying61 sizeMv (by simp only [Nat.min_def]; split <;> omega) hdl (fun j u hu => drop_cell16 h2 (by omega) j u hu) HB2.out.2 (by rw [hdl, hl1]; omega) (mcs_one _)
  have HE : Hid ((w2.drew.setRow r cur2.toArray).ownsRow B 68 2 (.slice (some ⟨r, 0, none⟩) (N + 1) G) (N + 1) (mcs (l.take i ++ x :: l.drop i)) ∧ w.grownBy (w2.drew.setRow r cur2.toArray) (some g) ∧ r = w.heap.size) := by
    refine ⟨⟨by rw [← hfin, List.length_take, hl2]; omega, Or.inr ⟨r, G, cur2.toArray, rfl, by omega, HB2.out.2.rowed cur2, hG1, hG2, by simpa using hl2, by simpa using hfin⟩⟩, ?_, hr⟩
    exact grownBy_below (rowed_below HB2.out.1 (Nat.le_refl _) (by omega) _)
  rw [← hw2] at hcp1
  have i00 : (0 : Int) ≤ (i : Int) := by omega
  have iN : (i : Int) ≤ (N : Int) := by omega
  have iN1 : (i : Int) ≤ (N : Int) + 1 := by omega
  have iG : (i : Int) ≤ (G : Int) := by omega
  have i1G : (i : Int) + 1 ≤ (G : Int) := by omega
  have NG : (N : Int) + 1 ≤ (G : Int) := by omega
  have iNe : ((i : Int) == (N : Int)) = false := by simp; omega
  have ncb : (N : Int) < (N : Int) + 1 := by omega
  have hwa : IntKind.wrap .i64 ((N : Int) + 1) = (N : Int) + 1 := by rw [IntKind.wrap_i64]; omega
  have hwb : IntKind.wrap .i64 ((i : Int) + 1) = (i : Int) + 1 := by rw [IntKind.wrap_i64]; omega
  have hmc : IntKind.wrap .i64 ((N : Int) + 1 - (i : Int)) = (N : Int) + 1 - (i : Int) := by rw [IntKind.wrap_i64]; omega
  have i10 : (0 : Int) ≤ (i : Int) + 1 := by omega
  have i1N : (i : Int) + 1 ≤ (N : Int) + 1 := by omega
  have cni : ¬ N = i := by omega
  have cGi : ¬ G = i := by omega
  have cGi1 : ¬ G = i + 1 := by omega
  clear h hB hl hc hi0 hz0 hz1 hz2 hgw hvw htl hdl hold hG hG2 hrow hrl hw1 hr hkk hc1 hx1 hcur1 hl1 hcur2 hl2 hfin hw2 h2
  go_enter Tryd.func30, Tryd.ntmps30
  go_wp2_with (at_builtin; first
    | (refine wpList_append_known w rfl _ _ 61 3 rfl (.slice (some ⟨g, 0, none⟩) i N) (.int .i64 ((N : Int) + 1 - (i : Int))) rfl rfl (hrz _) ?_)
    | (refine wpList_copy_known w1 rfl _ _ 61 61 rfl (.slice (some ⟨r, i * 2, none⟩) (N + 1 - i) (G - i)) (.slice (some ⟨vb, 0, none⟩) 1 1) rfl rfl (hcp1 _ _) ?_))
  refine wp_region_held_drew (S := fun _ => True) (by kernel_rfl) trivial (fun _ => ?_)
  refine' take_at (i := 0) (d := 46) (v := _) rfl rfl (by kernel_rfl) (by kernel_rfl) (by kernel_rfl) (fun _ _ _ h => h) (Or.inl ⟨by rfl, ?h0⟩) (trivial) ?_
  case h0 =>
    intro w hSw
    clear hSw
    go_simp
    with_reducible rfl
  simp only [List.setIfInBounds_toArray, List.set_cons_zero, List.set_cons_succ]
  refine' take_at (i := 1) (d := 47) (v := _) rfl rfl (by kernel_rfl) (by kernel_rfl) (by kernel_rfl) (fun _ _ _ h => h) (Or.inl ⟨by rfl, ?h1⟩) (trivial) ?_
  case h1 =>
    intro w hSw
    clear hSw
    go_simp
    with_reducible rfl
  simp only [List.setIfInBounds_toArray, List.set_cons_zero, List.set_cons_succ]
  refine' take_at (i := 2) (d := 48) (v := _) rfl rfl (by kernel_rfl) (by kernel_rfl) (by kernel_rfl) (fun _ _ _ h => h) (Or.inl ⟨by rfl, ?h2⟩) (trivial) ?_
  case h2 =>
    intro w hSw
    clear hSw
    go_simp
    with_reducible rfl
  simp only [List.setIfInBounds_toArray, List.set_cons_zero, List.set_cons_succ]
  refine' take_at (i := 3) (d := 49) (v := _) rfl rfl (by kernel_rfl) (by kernel_rfl) (by kernel_rfl) (fun _ _ _ h => h) (Or.inl ⟨by rfl, ?h3⟩) (trivial) ?_
  case h3 =>
    intro w hSw
    clear hSw
    go_simp
    with_reducible rfl
  simp only [List.setIfInBounds_toArray, List.set_cons_zero, List.set_cons_succ]
  refine' take_at (i := 4) (d := 50) (v := _) rfl rfl (by kernel_rfl) (by kernel_rfl) (by kernel_rfl) (fun _ _ _ h => h) (Or.inl ⟨by rfl, ?h4⟩) (trivial) ?_
  case h4 =>
    intro w hSw
    clear hSw
    go_simp
    with_reducible rfl
  simp only [List.setIfInBounds_toArray, List.set_cons_zero, List.set_cons_succ]
  refine' take_at (i := 5) (d := 51) (v := _) rfl rfl (by kernel_rfl) (by kernel_rfl) (by kernel_rfl) (fun _ _ _ h => h) (Or.inl ⟨by rfl, ?h5⟩) (trivial) ?_
  case h5 =>
    intro w hSw
    clear hSw
    go_simp
    with_reducible rfl
  simp only [List.setIfInBounds_toArray, List.set_cons_zero, List.set_cons_succ]
  refine' take_at (i := 6) (d := 52) (v := _) rfl rfl (by kernel_rfl) (by kernel_rfl) (by kernel_rfl) (fun _ _ _ h => h) (Or.inl ⟨by rfl, ?h6⟩) (trivial) ?_
  case h6 =>
    intro w hSw
    clear hSw
    go_simp
    with_reducible rfl
  simp only [List.setIfInBounds_toArray, List.set_cons_zero, List.set_cons_succ]
  refine' take_at (i := 7) (d := 53) (v := _) rfl rfl (by kernel_rfl) (by kernel_rfl) (by kernel_rfl) (fun _ _ _ h => h) (Or.inl ⟨by rfl, ?h7⟩) (trivial) ?_
  case h7 =>
    intro w hSw
    clear hSw
    go_simp
    with_reducible rfl
  simp only [List.setIfInBounds_toArray, List.set_cons_zero, List.set_cons_succ]
  refine wpAnyH_ready (rs := [8]) (by kernel_rfl) (by simp) ?_
  refine AllReadyH.cons (o := _) rfl (fun KQ hKQ => ?_) AllReadyH.nil
  refine wp_copy_known w2.drew _ _ 61 61 rfl (.slice (some ⟨r, (i + 1) * 2, none⟩) (N - i) (G - (i + 1))) (.slice (some ⟨g, i * 2, none⟩) (N - i) (N - i)) rfl rfl (hcp2 _ _ _) ?_
  refine hKQ.out _ _ trivial (fun _ => ?_)
  clear hKQ KQ
  refine wpAnyH_done (by kernel_rfl) ?_ _
  go_wp2
  go_ret
  exact ⟨_, rfl, HE.out.1, HE.out.2.1, Or.inr (by rw [HE.out.2.2]; rfl)⟩
end Go.Proofs.YtpjdjobdbandhaaDoor
