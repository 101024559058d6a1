/- LockApart's walk. -/
import Derived.Test.YtadgjinlblloiaaDoorLAwake17
import Derived.Test.YtadgjinlblloiaaDoorActs17
import Derived.Test.YtadgjinlblloiaaDoorLibQ
import Derived.Test.YtadgjinlblloiaaDoorStrs
namespace Go.Proofs.YtadgjinlblloiaaDoor
open Go.RowKit

/-- 'append(s, x...)': texts that were handed in, behind what the call owns. -/
theorem append_tx17 {ops : Array Oper} {rest : List Oper} {o : Oper} {a : Act} {Q : Exit → Act → World → Prop} (hgd : o.guard = none) (s x : Operand)
    (ho : o.op = .call { callee := .builtin .append, args := #[s, x], argTypes := #[37, 37] })
    (B : Nat) (v u : Value) (ls ms : List ByteArray) (w : World) (hs : a.eval s = v) (hx : a.eval x = u) (hown : w.ownsRow B 9 1 v ls.length (sc ls)) (hB : B ≤ w.heap.size) (hb : Tx17 w u ms) (hN : ls.length + ms.length ≤ 3000)
    (h : ∀ v' w', w'.ownsRow B 9 1 v' (ls ++ ms).length (sc (ls ++ ms)) → w.grownBy w' v.ownBlock → (v'.ownBlock = v.ownBlock ∨ v'.ownBlock = some w.heap.size) → wpList Tryd.prog ops Q rest (a.put o.dst v') w') : wpList Tryd.prog ops Q (o :: rest) a w := by
  obtain ⟨i0, hi, hz0, hz1, hz2⟩ := info_parts infoText
  obtain ⟨⟨av, k, c, rfl, hk, hcs⟩, hf⟩ := hb
  rcases hf with hf | ⟨ad, c2, hf⟩
  · rw [hf] at hx
    simp only [Value.slice.injEq] at hf
    obtain ⟨_, rfl, _⟩ := hf
    obtain rfl : ms = [] := List.length_eq_zero_iff.1 hk.symm
    exact wpList_append_own_none hgd s x 37 ho B 9 i0 1 Tryd.underlying37 hi v ls.length (sc ls) hs hown hx (h _ _ (by simpa using hown) ⟨rfl, rfl, rfl, Nat.le_refl _, fun _ _ _ => rfl⟩ (Or.inl rfl))
  · simp only [Value.slice.injEq] at hf
    obtain ⟨rfl, rfl, rfl⟩ := hf
    refine wpList_plain hgd fun K hK => ?_
    have hcell : ∀ j u, (sc ms)[j]? = some u → w.cell? (ad.add j) = some u := fun j y hy => by
      unfold sc at hy
      rw [List.getElem?_map] at hy
      cases he : ms[j]? with
      | none => rw [he] at hy; cases hy
      | some z =>
        rw [he] at hy
        obtain rfl := Option.some.inj hy
        obtain ⟨g, o2, e, hc⟩ := hcs j z he
        rw [Option.some.inj e, Addr.add_lit]
        exact hc
    obtain ⟨v', w', hr, h2, h3, h4, h5⟩ := run_append_own_at (P := Tryd.prog) w B 37 o.type 9 i0 _ 1 16 Tryd.underlying37 hi hz0 hz1 hz2 rfl (by decide) v ls.length (sc ls) hown ad ms.length c (sc ms) (by simp [sc]) hcell (sc_one ms) (by unfold maxLen; omega) (by omega) hB
    unfold Oper.wp execOp
    simp only [ho, resolve, invoke, builtin, Sem.run_bind, Sem.run_pure, Result.andThen_ok, List.map_toArray, List.map_cons, List.map_nil, hs, hx, hr]
    exact hK _ _ (h v' w' (by unfold sc at h2 ⊢; rw [List.length_append, List.map_append]; exact h2) h3 h5)
/-- What the reference's Parent answers. -/
theorem refParent_any17 (p : ByteArray) (w : World) (hp : p.size ≤ maxLen) :
    Calls Tryd.prog 20 #[.string p] w fun e w' => e = .returned (.tuple #[.string (if Lk.under p then Lk.up p else ⟨#[]⟩), .bool (Lk.under p)]) ∧ Below w.heap.size w w' := by
  by_cases h2 : 2 ≤ (Pl.parts p.data.toList).length
  · have hg : Pl.goodB p.data.toList = true := by
      cases e : Pl.goodB p.data.toList with
      | true => rfl
      | false => rw [Pl.bad_parts e] at h2; simp at h2
    have hu : Lk.under p = true := by unfold Lk.under Lk.good; rw [hg]; simp [h2]
    refine (Pa.refParent_yes p w hg h2).mono ?_
    rintro e w' ⟨x, rfl, hx, hb⟩
    have e1 : x = Lk.up p := ByteArray.ext (Array.toList_inj.1 hx)
    rw [hu, if_pos rfl, e1]
    exact ⟨rfl, hb⟩
  · have hu : Lk.under p = false := by unfold Lk.under; simp [h2]
    refine (Pa.refParent_no p w hp (by omega)).mono ?_
    rintro e w' ⟨rfl, hb⟩
    rw [hu]
    exact ⟨rfl, hb⟩
theorem Lk.up_size {p : ByteArray} (hp : p.size ≤ maxLen) : (if Lk.under p then Lk.up p else (⟨#[]⟩ : ByteArray)).size ≤ maxLen := by
  cases h : Lk.under p with
  | false => exact Nat.zero_le _
  | true =>
    rw [if_pos rfl]
    unfold Lk.under at h
    rw [Bool.and_eq_true] at h
    have h1 := Pl.parent_len h.1
    rw [Pa.sz_list] at h1
    show (Pl.parent p.data.toList).toArray.size ≤ maxLen
    simp only [List.size_toArray]
    omega
/-- Locks, and the texts so far in a row of the statement's own. -/
structure Two17 (LS : Rep17) (W w : World) (q m : Nat) (s : Lk.St) (F : Nat → Prop) (v : Value) (ls : List ByteArray) : Prop where
  my : Mine17 LS W w q m s F
  row : w.ownsRow W.heap.size 9 1 v ls.length (sc ls)
  off : ∀ k, v.ownBlock = some k → ¬ F k
section
variable {LS : Rep17} {W w w' : World} {q m m' : Nat} {s s' : Lk.St} {F F' : Nat → Prop} {v v' : Value} {ls ls' : List ByteArray}
theorem Two17.later (S : Specs17 LS) (h : Two17 LS W w q m s F v ls) (hb : Below w.heap.size w w') : Two17 LS W w' q m s F v ls :=
  ⟨h.my.later S hb, row_stays h.row fun k hk => hb.block k (h.row.lt k hk).2, h.off⟩
theorem Two17.moved (h : Two17 LS W w q m s F v ls) (hm : Mine17 LS W w' q m' s' F') (hv : Moved w w' F F') : Two17 LS W w' q m' s' F' v ls :=
  ⟨hm, row_stays h.row fun k hk => hv.block k (h.row.lt k hk).2 (h.off k hk), fun k hk e => (hv.sub k e).elim (h.off k hk) (fun e2 => by have := (h.row.lt k hk).2; omega)⟩
theorem Two17.grown (S : Specs17 LS) (h : Two17 LS W w q m s F v ls) (hr : w'.ownsRow W.heap.size 9 1 v' ls'.length (sc ls')) (hg : w.grownBy w' v.ownBlock) (ho : v'.ownBlock = v.ownBlock ∨ ∀ k, v'.ownBlock = some k → w.heap.size ≤ k) : Two17 LS W w' q m s F v' ls' := by
  refine ⟨⟨S.keep h.my.ld fun k hk => hg.block k (S.lt h.my.ld hk) (fun e => h.off k e.symm hk), h.my.fine, h.my.hi, h.my.below.grown hg h.my.below.size (fun k hk => (h.row.lt k hk).1)⟩, hr, fun k hk e => ?_⟩
  rcases ho with ho | ho
  · exact h.off k (by rw [← ho]; exact hk) e
  · have := ho k hk
    have := S.lt h.my.ld e
    omega
theorem sc_at {ls : List ByteArray} {j : Nat} {x : ByteArray} (h : ls[j]? = some x) : (sc ls)[j]? = some (.string x) := by unfold sc; rw [List.getElem?_map, h]; rfl
end
set_option maxRecDepth 20000 in
set_option maxHeartbeats 8000000 in
theorem apart_any17 {LS : Rep17} (S : Specs17 LS) (v : Value) (xs : List Lk.Ac) (W : World) (hS : Pa.Std W) (hv : Acl17 W v xs) (hl : xs.length ≤ maxLen) (hok : ∀ x ∈ xs, AcOk17 x) :
    Calls Tryd.prog 5 #[v] W fun e w' => e = .returned (.bool true) ∧ Below W.heap.size W w' := by
  have HS : Hid (Specs17 LS ∧ Pa.Std W ∧ (∀ x ∈ xs, AcOk17 x)) := ⟨S, hS, hok⟩
  obtain ⟨av, N, c, rfl, hN, hj⟩ := hv
  have HV : Hid (Acl17 W (.slice av N c) xs ∧ N = xs.length) := ⟨⟨av, N, c, rfl, hN, hj⟩, hN⟩
  have hN63 : N ≤ 9223372036854775807 := by unfold maxLen at hl; omega
  clear S hS hok hl hN hj
  go_enter Tryd.func5, Tryd.ntmps5
  go_wp2_with fail
  refine (awake_any17 HS.out.1 W HS.out.2.1).mono ?_
  rintro e w0 ⟨rfl, hb0⟩
  have H0 : Hid (Below W.heap.size W w0) := hb0
  clear hb0
  by_cases a1 : (40 : Int) < (N : Int)
  · go_wp2
    go_ret
    exact ⟨rfl, H0.out⟩
  have HA : Hid (N ≤ 40) := (show N ≤ 40 by omega)
  go_wp2_with fail
  refine (mine17_new HS.out.1 H0.out).mono ?_
  rintro e w1 ⟨q, F1, rfl, hM, hF, hb⟩
  have M1 : Hid (Two17 LS W w1 q 0 [] F1 (.slice none 0 0) []) := ⟨hM, World.ownsRow_nil _ _ _ _, fun k hk => by cases hk⟩
  clear hM hF hb H0 a1
  go_wp2
  go_loopw [4, 5] (fun u i wx => ∃ (k : Nat) (s : Lk.St) (F : Nat → Prop) (ls : List ByteArray), k ≤ N ∧ i = .int .i64 (k : Int) ∧ Two17 LS W wx q (10 * k) s F u ls ∧ ls.length ≤ 10 * k ∧ ∀ p ∈ ls, p.size ≤ maxLen) (fun _ i _ => N - (intOf i).toNat)
  case atStart => exact ⟨0, _, F1, [], Nat.zero_le _, rfl, M1.out, Nat.le_refl _, fun _ h => by cases h⟩
  case round =>
    obtain ⟨k, s, F, ls, hk, rfl, hM, hln, hlp⟩ := hrel
    have H3 : Hid (Two17 LS W wr q (10 * k) s F u4 ls ∧ ls.length ≤ 10 * k ∧ ∀ p ∈ ls, p.size ≤ maxLen) := ⟨hM, hln, hlp⟩
    obtain ⟨ua, uc, hue, _, hua⟩ := row_form hM.row
    obtain ⟨E, hE⟩ : ∃ E, E = ls.length := ⟨_, rfl⟩
    rw [← hE] at hue hua
    subst hue
    have HE : Hid (E = ls.length ∧ (0 < E → ∃ g, ua = some ⟨g, 0, none⟩)) := ⟨hE, hua⟩
    clear hM hln hlp hE hua M1
    by_cases hlt : k < N
    · have hlt' : (k : Int) < (N : Int) := by omega
      have hk0 : (0 : Int) ≤ (k : Int) := by omega
      have hwk : IntKind.wrap .i64 ((k : Int) + 1) = (k : Int) + 1 := by rw [IntKind.wrap_i64]; omega
      obtain ⟨x, hx⟩ : ∃ x, xs[k]? = some x := ⟨xs[k]'(by rw [← HV.out.2]; exact hlt), List.getElem?_eq_getElem _⟩
      obtain ⟨g, o, b, L, cc, rfl, hL, hss, hcl⟩ := HV.out.1.at hx
      have HX : Hid (AcOk17 x ∧ L = x.ps.length ∧ Tx17 W (.slice b L cc) x.ps ∧ ∀ w, Below W.heap.size W w → w.cell? ⟨g, o + k * 3, none⟩ = some (.int .i64 x.op) ∧ w.cell? ⟨g, o + k * 3 + 1, none⟩ = some (.int .i64 x.who) ∧ w.cell? ⟨g, o + k * 3 + 2, none⟩ = some (.slice b L cc)) := ⟨HS.out.2.2 x (List.mem_of_getElem? hx), hL, hss, hcl⟩
      obtain ⟨c0, c1, c2⟩ := hcl wr H3.out.1.my.below
      have hL63 : L ≤ 9223372036854775807 := by have h1 := HX.out.1.len; unfold maxLen at h1; omega
      clear hx hL hss hcl
      by_cases ax : (8 : Int) < (L : Int)
      · go_wp2
        go_ret
        exact ⟨rfl, H3.out.1.my.below⟩
      have HLL : Hid (x.ps.length ≤ 10 ∧ 10 * k ≤ 1000) := ⟨by have := HX.out.2.1; omega, by have := HA.out; omega⟩
      by_cases ho : x.op = 0
      · have hob : (x.op == 0) = true := by simp [ho]
        clear ho
        go_upto_region 13 with fail
        clear ax
        obtain ⟨ta, tb, s6, hz⟩ : ∃ ta tb s6, Lk.take s x.who x.ps = (ta, tb, s6) := ⟨_, _, _, rfl⟩
        have HT : Hid (Lk.take s x.who x.ps = (ta, tb, s6)) := hz
        refine wp_region_held_drew (S := fun w' => Below W.heap.size W w') (by kernel_rfl) H3.out.1.my.below.drew (fun _ => ?_)
        have H4 : Hid (Two17 LS W wr.drew q (10 * k) s F (.slice ua E uc) ls) := H3.out.1.later HS.out.1 (Below.refl _ _).drew
        clear c0 c1 c2 hz
        generalize wr.drew = w4 at *
        refine' take_at (i := 0) (d := 38) (v := _) rfl rfl (by kernel_rfl) (by kernel_rfl) (by kernel_rfl) (fun _ _ _ h => h) (Or.inl ⟨by rfl, ?h0⟩) (H4.out.my.below) ?_
        case h0 =>
          intro w hSw
          obtain ⟨t0, t1, t2⟩ := HX.out.2.2.2 w hSw
          go_simp
          with_reducible rfl
        simp only [List.setIfInBounds_toArray, List.set_cons_zero, List.set_cons_succ]
        refine' take_at (i := 1) (d := 39) (v := _) rfl rfl (by kernel_rfl) (by kernel_rfl) (by kernel_rfl) (fun _ _ _ h => h) (Or.inl ⟨by rfl, ?h1⟩) (H4.out.my.below) ?_
        case h1 =>
          intro w hSw
          obtain ⟨t0, t1, t2⟩ := HX.out.2.2.2 w hSw
          go_simp
          with_reducible rfl
        simp only [List.setIfInBounds_toArray, List.set_cons_zero, List.set_cons_succ]
        refine' take_at (i := 2) (d := 40) (v := _) rfl rfl (by kernel_rfl) (by kernel_rfl) (by kernel_rfl) (fun _ _ _ h => h) (Or.inl ⟨by rfl, ?h2⟩) (H4.out.my.below) ?_
        case h2 =>
          intro w hSw
          obtain ⟨t0, t1, t2⟩ := HX.out.2.2.2 w hSw
          go_simp
          with_reducible rfl
        simp only [List.setIfInBounds_toArray, List.set_cons_zero, List.set_cons_succ]
        refine' take_at (i := 3) (d := 41) (v := _) rfl rfl (by kernel_rfl) (by kernel_rfl) (by kernel_rfl) (fun _ _ _ h => h) (Or.inl ⟨by rfl, ?h3⟩) (H4.out.my.below) ?_
        case h3 =>
          intro w hSw
          obtain ⟨t0, t1, t2⟩ := HX.out.2.2.2 w hSw
          go_simp
          with_reducible rfl
        simp only [List.setIfInBounds_toArray, List.set_cons_zero, List.set_cons_succ]
        refine' take_at (i := 4) (d := 42) (v := _) rfl rfl (by kernel_rfl) (by kernel_rfl) (by kernel_rfl) (fun _ _ _ h => h) (Or.inl ⟨by rfl, ?h4⟩) (H4.out.my.below) ?_
        case h4 =>
          intro w hSw
          obtain ⟨t0, t1, t2⟩ := HX.out.2.2.2 w hSw
          go_simp
          with_reducible rfl
        simp only [List.setIfInBounds_toArray, List.set_cons_zero, List.set_cons_succ]
        refine' take_at (i := 5) (d := 43) (v := _) rfl rfl (by kernel_rfl) (by kernel_rfl) (by kernel_rfl) (fun _ _ _ h => h) (Or.inl ⟨by rfl, ?h5⟩) (H4.out.my.below) ?_
        case h5 =>
          intro w hSw
          obtain ⟨t0, t1, t2⟩ := HX.out.2.2.2 w hSw
          go_simp
          with_reducible rfl
        simp only [List.setIfInBounds_toArray, List.set_cons_zero, List.set_cons_succ]
        refine' take_at (i := 6) (d := 44) (v := _) rfl rfl (by kernel_rfl) (by kernel_rfl) (by kernel_rfl) (fun _ _ _ h => h) (Or.inl ⟨by rfl, ?h6⟩) (H4.out.my.below) ?_
        case h6 =>
          intro w hSw
          obtain ⟨t0, t1, t2⟩ := HX.out.2.2.2 w hSw
          go_simp
          with_reducible rfl
        simp only [List.setIfInBounds_toArray, List.set_cons_zero, List.set_cons_succ]
        refine' take_at (i := 7) (d := 45) (v := _) rfl rfl (by kernel_rfl) (by kernel_rfl) (by kernel_rfl) (fun _ _ _ h => h) (Or.inl ⟨by rfl, ?h7⟩) (H4.out.my.below) ?_
        case h7 =>
          intro w hSw
          obtain ⟨t0, t1, t2⟩ := HX.out.2.2.2 w hSw
          go_simp
          with_reducible rfl
        simp only [List.setIfInBounds_toArray, List.set_cons_zero, List.set_cons_succ]
        refine' take_at (i := 8) (d := 46) (v := _) rfl rfl (by kernel_rfl) (by kernel_rfl) (by kernel_rfl) (fun _ _ _ h => h) (Or.inl ⟨by rfl, ?h8⟩) (H4.out.my.below) ?_
        case h8 =>
          intro w hSw
          obtain ⟨t0, t1, t2⟩ := HX.out.2.2.2 w hSw
          go_simp
          with_reducible rfl
        simp only [List.setIfInBounds_toArray, List.set_cons_zero, List.set_cons_succ]
        refine' take_at (i := 9) (d := 47) (v := _) rfl rfl (by kernel_rfl) (by kernel_rfl) (by kernel_rfl) (fun _ _ _ h => h) (Or.inl ⟨by rfl, ?h9⟩) (H4.out.my.below) ?_
        case h9 =>
          intro w hSw
          obtain ⟨t0, t1, t2⟩ := HX.out.2.2.2 w hSw
          go_simp
          with_reducible rfl
        simp only [List.setIfInBounds_toArray, List.set_cons_zero, List.set_cons_succ]
        refine' take_at (i := 10) (d := 48) (v := _) rfl rfl (by kernel_rfl) (by kernel_rfl) (by kernel_rfl) (fun _ _ _ h => h) (Or.inl ⟨by rfl, ?h10⟩) (H4.out.my.below) ?_
        case h10 =>
          intro w hSw
          obtain ⟨t0, t1, t2⟩ := HX.out.2.2.2 w hSw
          go_simp
          with_reducible rfl
        simp only [List.setIfInBounds_toArray, List.set_cons_zero, List.set_cons_succ]
        refine wpAnyH_ready (rs := [11]) (by kernel_rfl) (by simp) ?_
        refine AllReadyH.cons (o := _) rfl (fun KQ hKQ => ?_) AllReadyH.nil
        go_simp
        refine (H4.out.my.take HS.out.1 HS.out.2.1 HLL.out.2 x.who HX.out.1.who _ x.ps (HX.out.2.2.1.1.below H4.out.my.below) HLL.out.1 HX.out.1.ps (fun i hi hne e => by have := HX.out.2.2.1.1.lt17 i hi hne; have := H4.out.my.hi i e; omega) ta tb s6 HT.out).mono ?_
        rintro e w5 ⟨F5, rfl, hM, hmv⟩
        have H5 : Hid (Two17 LS W w5 q (10 * k + 10) s6 F5 (.slice ua E uc) ls) := H4.out.moved hM hmv
        clear hM hmv H4
        refine hKQ.out _ _ H5.out.my.below (fun _ => ?_)
        clear hKQ KQ
        refine wpAnyH_done (by kernel_rfl) ?_ _
        obtain ⟨c0, c1, c2⟩ := HX.out.2.2.2 w5 H5.out.my.below
        go_wp2_with (at_builtin; refine append_tx17 rfl _ _ rfl W.heap.size (.slice ua E uc) (.slice b L cc) ls x.ps w5 rfl rfl H5.out.row H5.out.my.below.size ⟨HX.out.2.2.1.1.below H5.out.my.below, HX.out.2.2.1.2⟩ (by have := H3.out.2.1; have := HLL.out; omega) ?_)
        intro v6 w6 hr6 hg6 hv6
        have H6 : Hid (Two17 LS W w6 q (10 * k + 10) s6 F5 v6 (ls ++ x.ps)) := H5.out.grown HS.out.1 (by rw [List.length_append]; exact hr6) hg6 (hv6.imp id fun e k hk => by rw [e] at hk; simp only [Option.some.injEq] at hk; omega)
        obtain ⟨a6, c6, e6, j1, j2⟩ := row_form hr6
        obtain ⟨E6, hE6⟩ : ∃ E, E = ls.length + x.ps.length := ⟨_, rfl⟩
        rw [← hE6] at e6
        subst e6
        clear hr6 hg6 hv6 j1 j2 hE6 c0 c1 c2
        go_wp2
        go_roundw
        case rel =>
          refine ⟨k + 1, s6, F5, ls ++ x.ps, by omega, by go_num, ?_, ?_, fun p hp => ?_⟩
          · rw [show 10 * (k + 1) = 10 * k + 10 by omega]
            exact H6.out
          · rw [List.length_append]
            have := H3.out.2.1
            have := HLL.out.1
            omega
          · rcases List.mem_append.1 hp with hp | hp
            · exact H3.out.2.2 p hp
            · exact HX.out.1.ps p hp
        case measure => simp [intOf]; omega
      · have hob : (x.op == 0) = false := by simp [ho]
        clear ho
        go_wp2_with fail
        refine (H3.out.1.my.free HS.out.1 HS.out.2.1 HLL.out.2 x.who HX.out.1.who _ _ rfl rfl).mono ?_
        rintro e w5 ⟨F5, rfl, hM, hmv⟩
        have H5 : Hid (Two17 LS W w5 q (10 * (k + 1)) (Lk.rest s x.who) F5 (.slice ua E uc) ls) := H3.out.1.moved (hM.mono (by omega)) hmv
        clear hM hmv c0 c1 c2 ax
        go_wp2
        go_roundw
        case rel => exact ⟨k + 1, _, F5, ls, by omega, by go_num, H5.out, by have := H3.out.2.1; omega, H3.out.2.2⟩
        case measure => simp [intOf]; omega
    · have hlt' : ¬ (k : Int) < (N : Int) := by omega
      have HK2 : Hid (10 * k ≤ 1000) := (show 10 * k ≤ 1000 by have := HA.out; omega)
      have hE63 : E ≤ 9223372036854775807 := by have h1 := HE.out.1; have h2 := H3.out.2.1; have := HK2.out; omega
      have H4 : Hid (Two17 LS W wr q (10 * k) s F (.slice ua E uc) ls ∧ ls.length ≤ 10 * k ∧ ∀ p ∈ ls, p.size ≤ maxLen) := H3.out
      clear H3
      go_wp2
      go_loopw [6] (fun i wx => ∃ j : Nat, j ≤ E ∧ i = .int .i64 (j : Int) ∧ Two17 LS W wx q (10 * k) s F (.slice ua E uc) ls) (fun i _ => E - (intOf i).toNat)
      case atStart => exact ⟨0, Nat.zero_le _, rfl, H4.out.1⟩
      case round =>
        obtain ⟨j, hj, rfl, hM⟩ := hrel
        have H5 : Hid (Two17 LS W wr q (10 * k) s F (.slice ua E uc) ls) := hM
        clear hM
        by_cases hlj : j < E
        · have hlj' : (j : Int) < (E : Int) := by omega
          have hj0 : (0 : Int) ≤ (j : Int) := by omega
          have hwj : IntKind.wrap .i64 ((j : Int) + 1) = (j : Int) + 1 := by rw [IntKind.wrap_i64]; omega
          obtain ⟨g, hg⟩ := HE.out.2 (by omega)
          subst hg
          obtain ⟨p, hp⟩ : ∃ p, ls[j]? = some p := ⟨ls[j]'(by rw [← HE.out.1]; exact hlj), List.getElem?_eq_getElem _⟩
          have HCL : Hid (∀ w' : World, Two17 LS W w' q (10 * k) s F (.slice (some ⟨g, 0, none⟩) E uc) ls → w'.cell? ⟨g, j, none⟩ = some (.string p)) := fun w' h => by
            have hr := h.row
            rw [← HE.out.1] at hr
            rw [hr.cellAt _ (by omega)]
            exact sc_at hp
          obtain ⟨up, hup⟩ : ∃ z, z = (if Lk.under p then Lk.up p else (⟨#[]⟩ : ByteArray)) := ⟨_, rfl⟩
          obtain ⟨un, hun⟩ : ∃ z, z = Lk.under p := ⟨_, rfl⟩
          obtain ⟨o1, ho1⟩ : ∃ z, z = Lk.held s p := ⟨_, rfl⟩
          obtain ⟨o2, ho2⟩ : ∃ z, z = Lk.held s up := ⟨_, rfl⟩
          have hps := H4.out.2.2 p (List.mem_of_getElem? hp)
          have HP : Hid (p.size ≤ maxLen ∧ up.size ≤ maxLen ∧ Lk.held s p = o1 ∧ Lk.held s up = o2 ∧ up = (if Lk.under p then Lk.up p else (⟨#[]⟩ : ByteArray)) ∧ un = Lk.under p) := ⟨hps, by rw [hup]; exact Lk.up_size hps, ho1.symm, ho2.symm, hup, hun⟩
          clear hp hup hun ho1 ho2 hps
          have c0 := HCL.out wr H5.out
          go_wp2_with fail
          refine (H5.out.my.held HS.out.1 HK2.out p HP.out.1 o1 HP.out.2.2.1).mono ?_
          rintro e w5 ⟨rfl, hM, hb⟩
          have H6 : Hid (Two17 LS W w5 q (10 * k) s F (.slice (some ⟨g, 0, none⟩) E uc) ls) := H5.out.later HS.out.1 hb
          clear hM hb H5 c0
          have c0 := HCL.out w5 H6.out
          go_wp2_with fail
          refine (refParent_any17 p w5 HP.out.1).mono ?_
          rintro e w6 ⟨rfl, hb⟩
          rw [← HP.out.2.2.2.2.1, ← HP.out.2.2.2.2.2]
          have H7 : Hid (Two17 LS W w6 q (10 * k) s F (.slice (some ⟨g, 0, none⟩) E uc) ls) := H6.out.later HS.out.1 hb
          clear hb H6 c0
          go_wp2_with fail
          refine (H7.out.my.held HS.out.1 HK2.out up HP.out.2.1 o2 HP.out.2.2.2.1).mono ?_
          rintro e w7 ⟨rfl, hM, hb⟩
          have H8 : Hid (Two17 LS W w7 q (10 * k) s F (.slice (some ⟨g, 0, none⟩) E uc) ls) := H7.out.later HS.out.1 hb
          clear hM hb H7
          cases o1 with
          | none =>
            simp only [Option.getD_none, Option.isSome_none]
            obtain ⟨z2, hz2⟩ : ∃ z, z = o2.getD 0 := ⟨_, rfl⟩
            obtain ⟨b2, hb2⟩ : ∃ z, z = o2.isSome := ⟨_, rfl⟩
            rw [← hz2, ← hb2]
            clear hz2 hb2
            go_wp2
            go_roundw
            case rel => exact ⟨j + 1, by omega, by go_num, H8.out⟩
            case measure => simp [intOf]; omega
          | some a =>
            have HB : Hid (Lk.blocks s a p = false ∧ Lk.blocks s (IntKind.wrap .i64 (a + 1)) p = true ∧ (un = true → ∀ b, o2 = some b → a = b)) := by
              have hr := Lk.held_rng H8.out.my.fine HP.out.2.2.1
              refine ⟨Lk.held_free H8.out.my.fine HP.out.2.2.1, Lk.held_bars H8.out.my.fine HP.out.2.2.1 (by rw [IntKind.wrap_i64]; omega), fun h b hb => ?_⟩
              have hu : Lk.under p = true := by rw [← HP.out.2.2.2.2.2]; exact h
              have h3 : up = Lk.up p := by rw [HP.out.2.2.2.2.1, if_pos hu]
              exact Lk.held_up H8.out.my.fine HP.out.2.2.1 hu (by rw [← h3, HP.out.2.2.2.1]; exact hb)
            simp only [Option.getD_some, Option.isSome_some]
            have c0 := HCL.out w7 H8.out
            obtain ⟨a1, ha1⟩ : ∃ z, IntKind.wrap .i64 (a + 1) = z := ⟨_, rfl⟩
            have HB1 : Hid (Lk.blocks s a1 p = true ∧ I64 a ∧ I64 a1) := ⟨by rw [← ha1]; exact HB.out.2.1, Lk.held_rng H8.out.my.fine HP.out.2.2.1, by rw [← ha1, IntKind.wrap_i64]; unfold I64; omega⟩
            cases un with
            | false =>
              obtain ⟨z2, hz2⟩ : ∃ z, z = o2.getD 0 := ⟨_, rfl⟩
              obtain ⟨b2, hb2⟩ : ∃ z, z = o2.isSome := ⟨_, rfl⟩
              rw [← hz2, ← hb2]
              clear hz2 hb2
              go_wp2_with fail
              refine (H8.out.my.blocks HS.out.1 HS.out.2.1 HK2.out a HB1.out.2.1 p HP.out.1 false HB.out.1).mono ?_
              rintro e w8 ⟨rfl, hM, hb⟩
              have H9 : Hid (Two17 LS W w8 q (10 * k) s F (.slice (some ⟨g, 0, none⟩) E uc) ls) := H8.out.later HS.out.1 hb
              clear hM hb H8 c0
              have c0 := HCL.out w8 H9.out
              go_wp2_with fail
              refine (H9.out.my.blocks HS.out.1 HS.out.2.1 HK2.out a1 HB1.out.2.2 p HP.out.1 true HB1.out.1).mono ?_
              rintro e w9 ⟨rfl, hM, hb⟩
              have H10 : Hid (Two17 LS W w9 q (10 * k) s F (.slice (some ⟨g, 0, none⟩) E uc) ls) := H9.out.later HS.out.1 hb
              clear hM hb H9 c0
              go_wp2
              go_roundw
              case rel => exact ⟨j + 1, by omega, by go_num, H10.out⟩
              case measure => simp [intOf]; omega
            | true =>
              cases o2 with
              | none =>
                simp only [Option.getD_none, Option.isSome_none]
                go_wp2_with fail
                refine (H8.out.my.blocks HS.out.1 HS.out.2.1 HK2.out a HB1.out.2.1 p HP.out.1 false HB.out.1).mono ?_
                rintro e w8 ⟨rfl, hM, hb⟩
                have H9 : Hid (Two17 LS W w8 q (10 * k) s F (.slice (some ⟨g, 0, none⟩) E uc) ls) := H8.out.later HS.out.1 hb
                clear hM hb H8 c0
                have c0 := HCL.out w8 H9.out
                go_wp2_with fail
                refine (H9.out.my.blocks HS.out.1 HS.out.2.1 HK2.out a1 HB1.out.2.2 p HP.out.1 true HB1.out.1).mono ?_
                rintro e w9 ⟨rfl, hM, hb⟩
                have H10 : Hid (Two17 LS W w9 q (10 * k) s F (.slice (some ⟨g, 0, none⟩) E uc) ls) := H9.out.later HS.out.1 hb
                clear hM hb H9 c0
                go_wp2
                go_roundw
                case rel => exact ⟨j + 1, by omega, by go_num, H10.out⟩
                case measure => simp [intOf]; omega
              | some b =>
                obtain rfl : a = b := HB.out.2.2 rfl b rfl
                have haa : (a != a) = false := by simp
                simp only [Option.getD_some, Option.isSome_some]
                go_wp2_with fail
                refine (H8.out.my.blocks HS.out.1 HS.out.2.1 HK2.out a HB1.out.2.1 p HP.out.1 false HB.out.1).mono ?_
                rintro e w8 ⟨rfl, hM, hb⟩
                have H9 : Hid (Two17 LS W w8 q (10 * k) s F (.slice (some ⟨g, 0, none⟩) E uc) ls) := H8.out.later HS.out.1 hb
                clear hM hb H8 c0
                have c0 := HCL.out w8 H9.out
                go_wp2_with fail
                refine (H9.out.my.blocks HS.out.1 HS.out.2.1 HK2.out a1 HB1.out.2.2 p HP.out.1 true HB1.out.1).mono ?_
                rintro e w9 ⟨rfl, hM, hb⟩
                have H10 : Hid (Two17 LS W w9 q (10 * k) s F (.slice (some ⟨g, 0, none⟩) E uc) ls) := H9.out.later HS.out.1 hb
                clear hM hb H9 c0
                go_wp2
                go_roundw
                case rel => exact ⟨j + 1, by omega, by go_num, H10.out⟩
                case measure => simp [intOf]; omega
        · have hlj' : ¬ (j : Int) < (E : Int) := by omega
          go_wp2
          go_ret
          exact ⟨rfl, H5.out.my.below⟩
end Go.Proofs.YtadgjinlblloiaaDoor
