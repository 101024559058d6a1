/- What slices.BinarySearchFunc finds of first names that rise; find. What slices.Insert makes of a row of first names. What Move does. What Of tells. -/
import Derived.Test.YtjimemnkmpapgaaGreatDoorRt16
import Derived.Lib.Overlaps
import Derived.Lib.AppendZerosOnto
import Derived.Maps.AppendAt
namespace Go.Proofs.YtjimemnkmpapgaaGreatDoor
open Go.RowKit

set_option maxRecDepth 20000 in
set_option maxHeartbeats 4000000 in
theorem search_any16 (g N c : Nat) (l : List Tb.Mv) (x : ByteArray) (w : World) (h : w.ownsRow 0 98 2 (.slice (some ⟨g, 0, none⟩) N c) N (mcs l)) (hN : N = l.length) (hl : N ≤ 64) (hr : Tb.Rises l) :
    Calls Tryz.prog 65 #[.slice (some ⟨g, 0, none⟩) N c, .string x, (Value.func (.func 66) #[] #[])] w fun e w' => e = .returned (.tuple #[.int .i64 (Tb.pos l x : Int), .bool (Tb.has l x)]) ∧ Below w.heap.size w w' := by
  obtain ⟨p, hp⟩ : ∃ p, p = Tb.pos l x := ⟨_, rfl⟩
  have hpN : p ≤ N := by rw [hp, hN]; exact Tb.pos_le l x
  have H0 : Hid (w.ownsRow 0 98 2 (.slice (some ⟨g, 0, none⟩) N c) N (mcs l) ∧ N = l.length ∧ p = Tb.pos l x ∧ Tb.Rises l ∧ (∀ w', Below w.heap.size w w' → w'.ownsRow 0 98 2 (.slice (some ⟨g, 0, none⟩) N c) N (mcs l))) := ⟨h, hN, hp, hr, fun w' hb => row_stays h fun k hk => hb.block k (h.lt k hk).2⟩
  rw [← hp]
  clear h hN hp hr
  go_enter Tryz.func65, Tryz.ntmps65
  go_wp2
  go_loopw [9, 10] (fun i j wx => ∃ lo hi : Nat, i = .int .i64 (lo : Int) ∧ j = .int .i64 (hi : Int) ∧ lo ≤ p ∧ p ≤ hi ∧ hi ≤ N ∧ Below w.heap.size w wx) (fun i j _ => (intOf j).toNat - (intOf i).toNat)
  case atStart => exact ⟨0, N, rfl, rfl, Nat.zero_le _, hpN, Nat.le_refl _, Below.refl _ _⟩
  case round =>
    obtain ⟨lo, hi, rfl, rfl, h1, h2, h3, hbw⟩ := hrel
    have HW : Hid (Below w.heap.size w wr) := hbw
    clear hbw
    by_cases hlt : lo < hi
    · have hlt' : (lo : Int) < (hi : Int) := by omega
      obtain ⟨m, hm⟩ : ∃ m, m = (lo + hi) / 2 := ⟨_, rfl⟩
      have hm1 : m < N := by omega
      have HMZ : Hid (((lo : Int) + (hi : Int)) / 2 = (m : Int) ∧ m = (lo + hi) / 2) := ⟨by omega, hm⟩
      clear hm
      go_upto_region 5 with fail
      rw [HMZ.out.1]
      obtain ⟨y, hy⟩ : ∃ y, l[m]? = some y := ⟨l[m]'(by rw [← H0.out.2.1]; exact hm1), List.getElem?_eq_getElem _⟩
      have HY : Hid (l[m]? = some y) := hy
      clear hy
      have m0 : (0 : Int) ≤ (m : Int) := by omega
      have mN : (m : Int) < (N : Int) := by omega
      obtain ⟨z, hz⟩ : ∃ z, z = cmpT y.top x := ⟨_, rfl⟩
      have HZ : Hid (z = cmpT y.top x ∧ (z < 0 → m < p) ∧ (0 ≤ z → p ≤ m)) := by
        refine ⟨hz, fun h => ?_, fun h => ?_⟩
        · rcases Nat.lt_or_ge m p with h4 | h4
          · exact h4
          · have h5 := Tb.pos_high H0.out.2.2.2.1 (by rw [← H0.out.2.2.1]; exact h4) HY.out
            rw [hz, cmpT_neg, h5] at h
            cases h
        · rcases Nat.lt_or_ge m p with h4 | h4
          · have h5 := Tb.pos_low (by rw [← H0.out.2.2.1]; exact h4) HY.out
            have h6 := cmpT_neg.2 h5
            rw [← hz] at h6
            omega
          · exact h4
      clear hz
      have HS : Hid (∀ w', Below w.heap.size w w' → w'.cell? ⟨g, m * 2, none⟩ = some (.string y.top) ∧ w'.cell? ⟨g, m * 2 + 1, none⟩ = some (.int .i64 y.shard)) := fun w' hb => row_at16 (H0.out.2.2.2.2 w' hb) HY.out
      obtain ⟨r0, r1⟩ := HS.out wr HW.out
      go_wp2_with fail
      refine (cmpMv_any16 y x wr).mono ?_
      rintro e w2 ⟨rfl, hb2⟩
      have H2 : Hid (Below w.heap.size w w2) := HW.out.trans (hb2.mono HW.out.size)
      clear hb2 r0 r1 HW
      rw [← HZ.out.1]
      by_cases hz : z < 0
      · have hmp : m < p := HZ.out.2.1 hz
        have hwk : IntKind.wrap .i64 ((m : Int) + 1) = (m : Int) + 1 := by rw [IntKind.wrap_i64]; omega
        go_wp2
        go_roundw
        case rel => exact ⟨m + 1, hi, by go_num, rfl, by omega, h2, h3, H2.out⟩
        case measure => have := HMZ.out.2; simp [intOf]; omega
      · have hmp : p ≤ m := HZ.out.2.2 (by omega)
        go_wp2
        go_roundw
        case rel => exact ⟨lo, m, rfl, rfl, h1, hmp, by omega, H2.out⟩
        case measure => have := HMZ.out.2; simp [intOf]; omega
    · have hlt' : ¬ (lo : Int) < (hi : Int) := by omega
      obtain rfl : lo = p := by omega
      clear h1 h2
      by_cases hn : lo < N
      · have hn' : (lo : Int) < (N : Int) := by omega
        have hn0 : (0 : Int) ≤ (lo : Int) := by omega
        obtain ⟨y, hy⟩ : ∃ y, l[lo]? = some y := ⟨l[lo]'(by rw [← H0.out.2.1]; exact hn), List.getElem?_eq_getElem _⟩
        have HY : Hid (l[lo]? = some y) := hy
        obtain ⟨z, hz⟩ : ∃ z, z = cmpT y.top x := ⟨_, rfl⟩
        have HZ : Hid (z = cmpT y.top x ∧ Tb.has l x = (z == 0)) := by
          refine ⟨hz, ?_⟩
          have h1 := Tb.pos_has (t := x) H0.out.2.2.2.1
          rw [← H0.out.2.2.1, hy] at h1
          have h2 : (z == 0) = true ↔ y.top = x := by rw [beq_iff_eq, hz]; exact cmpT_zero
          cases e : (z == 0) with
          | true => exact h1.2 ⟨y, rfl, h2.1 e⟩
          | false =>
            cases e2 : Tb.has l x with
            | false => rfl
            | true =>
              obtain ⟨y', hy', e3⟩ := h1.1 e2
              rw [h2.2 (by rw [Option.some.inj hy']; exact e3)] at e
              cases e
        clear hy hz
        have HS : Hid (∀ w', Below w.heap.size w w' → w'.cell? ⟨g, lo * 2, none⟩ = some (.string y.top) ∧ w'.cell? ⟨g, lo * 2 + 1, none⟩ = some (.int .i64 y.shard)) := fun w' hb => row_at16 (H0.out.2.2.2.2 w' hb) HY.out
        obtain ⟨r0, r1⟩ := HS.out wr HW.out
        go_wp2_with fail
        refine (cmpMv_any16 y x wr).mono ?_
        rintro e w2 ⟨rfl, hb2⟩
        have H2 : Hid (Below w.heap.size w w2) := HW.out.trans (hb2.mono HW.out.size)
        clear hb2 r0 r1 HW
        rw [← HZ.out.1]
        go_wp2
        go_ret2
        exact ⟨by rw [HZ.out.2]; rfl, H2.out⟩
      · have hn' : ¬ (lo : Int) < (N : Int) := by omega
        have HF : Hid (Tb.has l x = false) := by
          have h1 := Tb.pos_has (t := x) H0.out.2.2.2.1
          have h2 : Tb.has l x = false := by
            cases e : Tb.has l x with
            | false => rfl
            | true =>
              obtain ⟨y, hy, _⟩ := h1.1 e
              have h3 := (List.getElem?_eq_some_iff.1 hy).1
              rw [← H0.out.2.2.1, ← H0.out.2.1] at h3
              omega
          exact h2
        go_wp2
        go_ret2
        exact ⟨by rw [HF.out]; rfl, HW.out⟩
set_option maxRecDepth 20000 in
set_option maxHeartbeats 4000000 in
theorem search_none16 (x : ByteArray) (w : World) :
    Calls Tryz.prog 65 #[.slice none 0 0, .string x, (Value.func (.func 66) #[] #[])] w fun e w' => e = .returned (.tuple #[.int .i64 0, .bool false]) ∧ Below w.heap.size w w' := by
  go_enter Tryz.func65, Tryz.ntmps65
  go_wp2
  go_loopw [9, 10] (fun i j wx => i = .int .i64 0 ∧ j = .int .i64 0 ∧ Below w.heap.size w wx) (fun _ _ _ => 0)
  case atStart => exact ⟨rfl, rfl, Below.refl _ _⟩
  case round =>
    obtain ⟨rfl, rfl, hb⟩ := hrel
    have HB : Hid (Below w.heap.size w wr) := hb
    clear hb
    go_wp2
    go_ret2
    exact ⟨rfl, HB.out⟩
/-- The same, whether there is a row or not. -/
theorem search_row16 (v : Value) (l : List Tb.Mv) (x : ByteArray) (w : World) (h : w.ownsRow 0 98 2 v l.length (mcs l)) (hl : l.length ≤ 64) (hr : Tb.Rises l) :
    Calls Tryz.prog 65 #[v, .string x, (Value.func (.func 66) #[] #[])] w fun e w' => e = .returned (.tuple #[.int .i64 (Tb.pos l x : Int), .bool (Tb.has l x)]) ∧ Below w.heap.size w w' := by
  rcases h.2 with ⟨rfl, h0⟩ | ⟨g, c, cur, rfl, _⟩
  · obtain rfl : l = [] := List.length_eq_zero_iff.1 h0
    exact search_none16 x w
  · exact search_any16 g l.length c l x w h rfl hl hr
set_option maxRecDepth 20000 in
set_option maxHeartbeats 2000000 in
theorem find_any16 (q : Nat) (s : Tb.St) (v : Value) (x : ByteArray) (w : World) (h : Lt16 w q s v) (hl : s.l.length ≤ 64) (hr : Tb.Rises s.l) :
    Calls Tryz.prog 46 #[dptr q, .string x] w fun e w' => e = .returned (.tuple #[.int .i64 (Tb.pos s.l x : Int), .bool (Tb.has s.l x)]) ∧ Below w.heap.size w w' := by
  have c2 : w.cell? ⟨q, 2, none⟩ = some v := h.blk.cell 2
  have H0 : Hid (w.ownsRow 0 98 2 v s.l.length (mcs s.l) ∧ s.l.length ≤ 64 ∧ Tb.Rises s.l) := ⟨h.row, hl, hr⟩
  clear h hl hr
  unfold dptr
  go_enter Tryz.func46, Tryz.ntmps46
  go_wp2_with fail
  refine (search_row16 v s.l x w H0.out.1 H0.out.2.1 H0.out.2.2).mono ?_
  rintro e w1 ⟨rfl, hb⟩
  have HB : Hid (Below w.heap.size w w1) := hb
  clear hb
  go_wp2
  go_ret2
  exact ⟨rfl, HB.out⟩
end Go.Proofs.YtjimemnkmpapgaaGreatDoor
namespace Go.Proofs.YtjimemnkmpapgaaGreatDoor
open Go.RowKit

/-- One more watch at the row's end. -/
theorem wpList_wt16 {ops : Array Oper} {rest : List Oper} {o : Oper} {a : Act} {Q : Exit → Act → World → Prop} (hgd : o.guard = none) (s x : Operand)
    (ho : o.op = .call { callee := .builtin .append, args := #[s, x], argTypes := #[99, 99] })
    (B : Nat) (v : Value) (l : List Tb.Mv) (y : Tb.Mv) (sb N : Nat) (w : World) (hs : a.eval s = v) (hx : a.eval x = .slice (some ⟨sb, 0, none⟩) 1 1) (hown : w.ownsRow B 98 2 v N (mcs l)) (hB : B ≤ w.heap.size) (hc : Cb w sb (mc y) 98) (hN : N ≤ 3000)
    (h : ∀ v' w', w'.ownsRow B 98 2 v' (N + 1) (mcs (l ++ [y])) → w.grownBy w' v.ownBlock → (v'.ownBlock = v.ownBlock ∨ v'.ownBlock = some w.heap.size) → wpList Tryz.prog ops Q rest (a.put o.dst v') w') : wpList Tryz.prog ops Q (o :: rest) a w := by
  refine wpList_plain hgd fun K hK => ?_
  obtain ⟨i0, hi, hz0, hz1, hz2⟩ := info_parts infoMv
  have hcell : ∀ j u, (mc y)[j]? = some u → w.cell? ((⟨sb, 0, none⟩ : Addr).add j) = some u := fun j u hu => by
    rw [Addr.add_lit, Nat.zero_add, hc.cell j]
    exact hu
  obtain ⟨v', w', hr, h2, h3, h4, h5⟩ := run_append_own_at (P := Tryz.prog) w B 99 o.type 98 i0 _ 2 24 Tryz.underlying99 hi hz0 hz1 hz2 rfl (by decide) v N (mcs l) hown ⟨sb, 0, none⟩ 1 1 (mc y) rfl hcell (by have := mcs_one [y]; simpa [mcs] using this) (by unfold maxLen; omega) (by omega) hB
  unfold Oper.wp execOp
  simp only [ho, resolve, invoke, builtin, Sem.run_bind, Sem.run_pure, Result.andThen_ok, List.map_toArray, List.map_cons, List.map_nil, hs, hx, hr]
  refine hK _ _ (h v' w' ?_ h3 h5)
  rw [mcs_app]
  simpa [mcs] using h2

/-- What Insert leaves. -/
def InsP (B : Nat) (v : Value) (N : Nat) (ms : List Tb.Mv) (w : World) (e : Ending) (w' : World) : Prop :=
  ∃ v', e = .returned v' ∧ w'.ownsRow B 98 2 v' (N + 1) (mcs ms) ∧ w.grownBy w' v.ownBlock ∧ (v'.ownBlock = v.ownBlock ∨ v'.ownBlock = some w.heap.size)

set_option maxRecDepth 20000 in
set_option maxHeartbeats 4000000 in
theorem insert_end16 (B : Nat) (v : Value) (N : Nat) (l : List Tb.Mv) (x : Tb.Mv) (vb : Nat) (w : World) (h : w.ownsRow B 98 2 v N (mcs l)) (hB : B ≤ w.heap.size) (hN : N ≤ 1000) (hc : Cb w vb (mc x) 98) :
    Calls Tryz.prog 51 #[v, .int .i64 (N : Int), .slice (some ⟨vb, 0, none⟩) 1 1] w (InsP B v N (l ++ [x]) w) := by
  have H0 : Hid (w.ownsRow B 98 2 v N (mcs l) ∧ B ≤ w.heap.size ∧ Cb w vb (mc x) 98) := ⟨h, hB, hc⟩
  have hB2 := hB
  rcases h.2 with ⟨rfl, rfl⟩ | ⟨g, c, cur, rfl, hg1, hg2, hNc, hg3⟩
  · clear h hB hc hN
    go_enter Tryz.func51, Tryz.ntmps51
    go_wp2_with (at_builtin; refine wpList_wt16 rfl _ _ rfl B (.slice none 0 0) l x vb 0 w rfl rfl H0.out.1 H0.out.2.1 H0.out.2.2 (by omega) ?_)
    intro v' w' h1 h2 h3
    obtain ⟨a2, c2, e2, _, _⟩ := row_form h1
    subst e2
    have HR : Hid _ := And.intro h1 (And.intro h2 h3)
    clear h1 h2 h3
    go_wp2
    go_ret
    exact ⟨_, rfl, HR.out.1, HR.out.2.1, HR.out.2.2⟩
  · have n0 : (0 : Int) ≤ (N : Int) := by omega
    have nc : (N : Int) ≤ (c : Int) := by omega
    clear h hB hc hg1 hg2 hg3
    by_cases hcn : c = N
    · subst hcn
      go_enter Tryz.func51, Tryz.ntmps51
      go_wp2_with (at_builtin; refine wpList_wt16 rfl _ _ rfl B (.slice (some ⟨g, 0, none⟩) c c) l x vb c w rfl rfl H0.out.1 H0.out.2.1 H0.out.2.2 (by omega) ?_)
      intro v' w' h1 h2 h3
      obtain ⟨a2, c2, e2, _, _⟩ := row_form h1
      subst e2
      have HR : Hid _ := And.intro h1 (And.intro h2 h3)
      clear h1 h2 h3
      go_wp2
      go_ret
      exact ⟨_, rfl, HR.out.1, HR.out.2.1, HR.out.2.2⟩
    · go_enter Tryz.func51, Tryz.ntmps51
      go_wp2_with (at_builtin; refine wpList_wt16 rfl _ _ rfl B (.slice (some ⟨g, 0, none⟩) N c) l x vb N w rfl rfl H0.out.1 H0.out.2.1 H0.out.2.2 (by omega) ?_)
      intro v' w' h1 h2 h3
      obtain ⟨a2, c2, e2, _, _⟩ := row_form h1
      subst e2
      have HR : Hid _ := And.intro h1 (And.intro h2 h3)
      clear h1 h2 h3
      go_wp2
      go_ret
      exact ⟨_, rfl, HR.out.1, HR.out.2.1, HR.out.2.2⟩

theorem take_mcs16 {l : List Tb.Mv} (i : Nat) : (mcs l).take (i * 2) = mcs (l.take i) := by
  by_cases h : i ≤ l.length
  · conv => lhs; rw [← List.take_append_drop i l, mcs_app]
    have e : (mcs (l.take i)).length = i * 2 := by rw [mcs_len, List.length_take, Nat.min_eq_left h]
    rw [← e, List.take_left]
  · rw [List.take_of_length_le (by rw [mcs_len]; omega), List.take_of_length_le (by omega)]
/-- The cells behind a place. -/
theorem drop_cell16 {w : World} {B g N c : Nat} {l : List Tb.Mv} (h : w.ownsRow B 98 2 (.slice (some ⟨g, 0, none⟩) N c) N (mcs l)) {i : Nat} (hi : i ≤ l.length) (j : Nat) (u : Value) (hu : (mcs (l.drop i))[j]? = some u) : w.cell? ((⟨g, i * 2, none⟩ : Addr).add j) = some u := by
  have hj := (List.getElem?_eq_some_iff.1 hu).1
  have hN : l.length * 2 = N * 2 := by rw [← mcs_len]; exact h.1
  rw [mcs_len, List.length_drop] at hj
  rw [Addr.add_lit, h.cellAt _ (by omega)]
  have e : mcs l = mcs (l.take i) ++ mcs (l.drop i) := by rw [← mcs_app, List.take_append_drop]
  have e2 : (mcs (l.take i)).length = i * 2 := by rw [mcs_len, List.length_take, Nat.min_eq_left hi]
  rw [e, List.getElem?_append_right (by rw [e2]; omega), e2, Nat.add_sub_cancel_left]
  exact hu
theorem sizeMv : (Tryz.prog.info? 98).map (·.size) = some 2 := by kernel_rfl
theorem size_run16 : ∀ w, (Go.sizeOf 98).run Tryz.prog w = .ok 2 w := fun w => by
  obtain ⟨i0, hi, _, hz1, _⟩ := info_parts infoMv
  simp [Go.sizeOf, typeInfo, hi, hz1]

set_option maxRecDepth 20000 in
set_option maxHeartbeats 8000000 in
theorem insert_shift16 (B g N c i : Nat) (l : List Tb.Mv) (x : Tb.Mv) (vb : Nat) (w : World) (h : w.ownsRow B 98 2 (.slice (some ⟨g, 0, none⟩) N c) N (mcs l)) (hN : N ≤ 1000) (hl : N = l.length) (hi : i < N) (hr : N + 1 ≤ c) (hc : Cb w vb (mc x) 98) (hv : vb ≠ g) :
    Calls Tryz.prog 51 #[.slice (some ⟨g, 0, none⟩) N c, .int .i64 (i : Int), .slice (some ⟨vb, 0, none⟩) 1 1] w (InsP B (.slice (some ⟨g, 0, none⟩) N c) N (l.take i ++ x :: l.drop i) w) := by
  obtain ⟨cur, hg, hcur, htk, hcm, hBg⟩ : ∃ cur : List Value, Cb w g cur 98 ∧ cur.length = c * 2 ∧ cur.take (N * 2) = mcs l ∧ c ≤ maxLen ∧ B ≤ g := by
    rcases h.2 with ⟨e, _⟩ | ⟨g', c', cur, e, h1, h2, h3, h4, h5, h6⟩
    · cases e
    · simp only [Value.slice.injEq, Option.some.injEq, Addr.mk.injEq, and_true] at e
      obtain ⟨⟨rfl, _⟩, _, rfl⟩ := e
      exact ⟨cur.toList, by unfold Cb; rw [Array.toArray_toList]; exact h2, by simpa using h5, h6, h4, h1⟩
  have hc63 : c ≤ 9223372036854775807 := by unfold maxLen at hcm; omega
  have hdl : (mcs (l.drop i)).length = (N - i) * 2 := by rw [mcs_len, List.length_drop, hl]
  -- what the first copy leaves
  obtain ⟨cur1, hcur1⟩ : ∃ z, z = over cur ((i + 1) * 2) (mcs (l.drop i)) := ⟨_, rfl⟩
  have hl1 : cur1.length = c * 2 := by rw [hcur1, over_len (by rw [hdl, hcur]; omega), hcur]
  obtain ⟨cur2, hcur2⟩ : ∃ z, z = over cur1 (i * 2) (mc x) := ⟨_, rfl⟩
  have hl2 : cur2.length = c * 2 := by rw [hcur2, over_len (by rw [hl1]; simp only [mc, List.length_cons, List.length_nil]; omega), hl1]
  have hfin : cur2.take ((N + 1) * 2) = mcs (l.take i ++ x :: l.drop i) := by
    have e1 : cur1.take (i * 2) = mcs (l.take i) := by
      rw [hcur1]
      unfold over
      rw [List.append_assoc, List.take_append_of_le_length (by rw [List.length_take, hcur]; omega), List.take_take, Nat.min_eq_left (by omega), ← take_mcs16, ← htk, List.take_take, Nat.min_eq_left (by omega)]
    have e2 : (cur1.drop (i * 2 + 2)).take ((N - i) * 2) = mcs (l.drop i) := by
      rw [hcur1]
      unfold over
      have e3 : (cur.take ((i + 1) * 2)).length = i * 2 + 2 := by rw [List.length_take, hcur]; omega
      rw [List.append_assoc, ← e3, List.drop_left, ← hdl, List.take_left]
    rw [hcur2]
    unfold over
    have e4 : (cur1.take (i * 2)).length = i * 2 := by rw [List.length_take, hl1]; omega
    have e5 : (N + 1) * 2 = (cur1.take (i * 2) ++ mc x).length + (N - i) * 2 := by rw [List.length_append, e4]; simp only [mc, List.length_cons, List.length_nil]; omega
    rw [e5, List.take_length_add_append, e1]
    have e6 : cur1.drop (i * 2 + (mc x).length) = cur1.drop (i * 2 + 2) := rfl
    rw [e6, e2, mcs_app]
    show _ = mcs (l.take i) ++ mcs ([x] ++ l.drop i)
    rw [mcs_app]
    simp [mcs]
  have hov : ∀ lb cb, (callFunc 71 #[.slice (some ⟨vb, 0, none⟩) 1 1, .slice (some ⟨g, (i + 1) * 2, none⟩) lb cb]).run Tryz.prog w = .ok (.value (.bool false)) w := fun lb cb => by
    rw [run_callFunc_extern Tryz.func71 (by kernel_rfl) (by kernel_rfl) (by kernel_rfl) (e := Extern.SlicesOverlaps.overlaps #[99, 99] #[4]) (by kernel_rfl),
      Lib.run_overlaps_apart w 99 4 98 Tryz.underlying99 2 size_run16 ⟨vb, 0, none⟩ ⟨g, (i + 1) * 2, none⟩ 1 1 lb cb hv 98 98 2 (c * 2)
        (by unfold Cb at hc; simp [World.shape?, hc, mc]) (by unfold Cb at hg; simp [World.shape?, hg, hcur]) (by omega) (hc.free 0) (hc.free 2)]
    rfl
  have hcp1 : ∀ ty dc sc, (Builtin.copy_ #[99, 99] ty #[.slice (some ⟨g, (i + 1) * 2, none⟩) (N - i) dc, .slice (some ⟨g, i * 2, none⟩) (N + 1 - i) sc]).run Tryz.prog w.drew = .ok (goInt ((N - i : Nat) : Int)) (w.drew.setRow g cur1.toArray) := fun ty dc sc => by
    rw [hcur1]
    exact run_copy_part (P := Tryz.prog) w.drew 99 99 ty 98 2 g ((i + 1) * 2) (N - i) dc ⟨g, i * 2, none⟩ (N + 1 - i) sc (N - i) (mcs (l.drop i)) cur 98 Tryz.underlying99 sizeMv (by simp only [Nat.min_def]; split <;> omega) hdl (fun j u hu => drop_cell16 h (by omega) j u hu) hg (by rw [hdl, hcur]; omega) (mcs_one _)
  obtain ⟨w1, hw1⟩ : ∃ z, z = w.drew.setRow g cur1.toArray := ⟨_, rfl⟩
  have HC1 : Hid (Cb w1 g cur1 98 ∧ Cb w1 vb (mc x) 98 ∧ w.grownBy w1 (some g)) := by
    have h1 : Cb w.drew g cur 98 := hg
    have h2 : Cb w.drew vb (mc x) 98 := hc
    rw [hw1]
    exact ⟨h1.rowed cur1, h2.rowed_other hv _, grownBy_trans (grownBy_drew w _) (rowed_grown w.drew g _)⟩
  have hcp2 : ∀ ty dc, (Builtin.copy_ #[99, 99] ty #[.slice (some ⟨g, i * 2, none⟩) (N + 1 - i) dc, .slice (some ⟨vb, 0, none⟩) 1 1]).run Tryz.prog w1 = .ok (goInt 1) (w1.setRow g cur2.toArray) := fun ty dc => by
    rw [hcur2]
    exact run_copy_part (P := Tryz.prog) w1 99 99 ty 98 2 g (i * 2) (N + 1 - i) dc ⟨vb, 0, none⟩ 1 1 1 (mc x) cur1 98 Tryz.underlying99 sizeMv (by simp only [Nat.min_def]; split <;> omega) rfl (fun j u hu => by rw [Addr.add_lit, Nat.zero_add, HC1.out.2.1.cell j]; exact hu) HC1.out.1 (by rw [hl1]; simp only [mc, List.length_cons, List.length_nil]; omega) (by have := mcs_one [x]; simpa [mcs] using this)
  rw [← hw1] at hcp1
  have HE : Hid ((w1.setRow g cur2.toArray).ownsRow B 98 2 (.slice (some ⟨g, 0, none⟩) (N + 1) c) (N + 1) (mcs (l.take i ++ x :: l.drop i)) ∧ w.grownBy (w1.setRow g cur2.toArray) (some g)) := by
    refine ⟨⟨by rw [← hfin, List.length_take, hl2]; omega, Or.inr ⟨g, c, cur2.toArray, rfl, hBg, HC1.out.1.rowed cur2, by omega, hcm, by simpa using hl2, by simpa using hfin⟩⟩, grownBy_trans HC1.out.2.2 (rowed_grown w1 g _)⟩
  have HW : Hid (w1 = w.drew.setRow g cur1.toArray) := hw1
  have i0 : (0 : Int) ≤ (i : Int) := by omega
  have iN : (i : Int) ≤ (N : Int) := by omega
  have iN1 : (i : Int) ≤ (N : Int) + 1 := by omega
  have iNe : ((i : Int) == (N : Int)) = false := by simp; omega
  have nc1 : (N : Int) + 1 ≤ (c : Int) := by omega
  have ncb : ¬ (c : Int) < (N : Int) + 1 := by omega
  have n10 : (0 : Int) ≤ (N : Int) + 1 := by omega
  have hw2 : IntKind.wrap .i64 ((N : Int) + 1) = (N : Int) + 1 := by rw [IntKind.wrap_i64]; omega
  have hw3 : IntKind.wrap .i64 ((i : Int) + 1) = (i : Int) + 1 := by rw [IntKind.wrap_i64]; omega
  have i10 : (0 : Int) ≤ (i : Int) + 1 := by omega
  have i1N : (i : Int) + 1 ≤ (N : Int) + 1 := by omega
  have cni : ¬ c = i := by omega
  have cni1 : ¬ c = i + 1 := by omega
  have Nc : (N : Int) ≤ (c : Int) := by omega
  clear h hg hcur htk hcm hBg hdl hcur1 hl1 hcur2 hl2 hfin hw1 hl hc
  go_enter Tryz.func51, Tryz.ntmps51
  go_wp2_with (simp only [hov])
  refine wp_region_held_drew (S := fun _ => True) (by kernel_rfl) trivial (fun _ => ?_)
  refine' take_at (i := 0) (d := 69) (v := _) rfl rfl (by kernel_rfl) (by kernel_rfl) (by kernel_rfl) (fun _ _ _ h => h) (Or.inl ⟨by rfl, ?h0⟩) (trivial) ?_
  case h0 =>
    intro w hSw
    clear hSw
    go_simp
    with_reducible rfl
  simp only [List.setIfInBounds_toArray, List.set_cons_zero, List.set_cons_succ]
  refine' take_at (i := 1) (d := 70) (v := _) rfl rfl (by kernel_rfl) (by kernel_rfl) (by kernel_rfl) (fun _ _ _ h => h) (Or.inl ⟨by rfl, ?h1⟩) (trivial) ?_
  case h1 =>
    intro w hSw
    clear hSw
    go_simp
    with_reducible rfl
  simp only [List.setIfInBounds_toArray, List.set_cons_zero, List.set_cons_succ]
  refine' take_at (i := 2) (d := 71) (v := _) rfl rfl (by kernel_rfl) (by kernel_rfl) (by kernel_rfl) (fun _ _ _ h => h) (Or.inl ⟨by rfl, ?h2⟩) (trivial) ?_
  case h2 =>
    intro w hSw
    clear hSw
    go_simp
    with_reducible rfl
  simp only [List.setIfInBounds_toArray, List.set_cons_zero, List.set_cons_succ]
  refine' take_at (i := 3) (d := 72) (v := _) rfl rfl (by kernel_rfl) (by kernel_rfl) (by kernel_rfl) (fun _ _ _ h => h) (Or.inl ⟨by rfl, ?h3⟩) (trivial) ?_
  case h3 =>
    intro w hSw
    clear hSw
    go_simp
    with_reducible rfl
  simp only [List.setIfInBounds_toArray, List.set_cons_zero, List.set_cons_succ]
  refine' take_at (i := 4) (d := 73) (v := _) rfl rfl (by kernel_rfl) (by kernel_rfl) (by kernel_rfl) (fun _ _ _ h => h) (Or.inl ⟨by rfl, ?h4⟩) (trivial) ?_
  case h4 =>
    intro w hSw
    clear hSw
    go_simp
    with_reducible rfl
  simp only [List.setIfInBounds_toArray, List.set_cons_zero, List.set_cons_succ]
  refine' take_at (i := 5) (d := 74) (v := _) rfl rfl (by kernel_rfl) (by kernel_rfl) (by kernel_rfl) (fun _ _ _ h => h) (Or.inl ⟨by rfl, ?h5⟩) (trivial) ?_
  case h5 =>
    intro w hSw
    clear hSw
    go_simp
    with_reducible rfl
  simp only [List.setIfInBounds_toArray, List.set_cons_zero, List.set_cons_succ]
  refine' take_at (i := 6) (d := 75) (v := _) rfl rfl (by kernel_rfl) (by kernel_rfl) (by kernel_rfl) (fun _ _ _ h => h) (Or.inl ⟨by rfl, ?h6⟩) (trivial) ?_
  case h6 =>
    intro w hSw
    clear hSw
    go_simp
    with_reducible rfl
  simp only [List.setIfInBounds_toArray, List.set_cons_zero, List.set_cons_succ]
  refine' take_at (i := 7) (d := 76) (v := _) rfl rfl (by kernel_rfl) (by kernel_rfl) (by kernel_rfl) (fun _ _ _ h => h) (Or.inl ⟨by rfl, ?h7⟩) (trivial) ?_
  case h7 =>
    intro w hSw
    clear hSw
    go_simp
    with_reducible rfl
  simp only [List.setIfInBounds_toArray, List.set_cons_zero, List.set_cons_succ]
  refine wpAnyH_ready (rs := [8]) (by kernel_rfl) (by simp) ?_
  refine AllReadyH.cons (o := _) rfl (fun KQ hKQ => ?_) AllReadyH.nil
  refine wp_copy_known w.drew _ _ 99 99 rfl (.slice (some ⟨g, (i + 1) * 2, none⟩) (N - i) (c - (i + 1))) (.slice (some ⟨g, i * 2, none⟩) (N + 1 - i) (c - i)) rfl rfl (hcp1 _ _ _) ?_
  refine hKQ.out _ _ trivial (fun _ => ?_)
  clear hKQ KQ
  refine wpAnyH_done (by kernel_rfl) ?_ _
  go_wp2_with (at_builtin; refine wpList_copy_known w1 rfl _ _ 99 99 rfl (.slice (some ⟨g, i * 2, none⟩) (N + 1 - i) (c - i)) (.slice (some ⟨vb, 0, none⟩) 1 1) rfl rfl (hcp2 _ _) ?_)
  go_wp2
  go_ret
  exact ⟨_, rfl, HE.out.1, HE.out.2, Or.inl rfl⟩

set_option maxRecDepth 20000 in
set_option maxHeartbeats 8000000 in
theorem insert_grow16 (B g N i : Nat) (l : List Tb.Mv) (x : Tb.Mv) (vb : Nat) (w : World) (h : w.ownsRow B 98 2 (.slice (some ⟨g, 0, none⟩) N N) N (mcs l)) (hB : B ≤ w.heap.size) (hN : N ≤ 1000) (hl : N = l.length) (hi : i < N) (hc : Cb w vb (mc x) 98) :
    Calls Tryz.prog 51 #[.slice (some ⟨g, 0, none⟩) N N, .int .i64 (i : Int), .slice (some ⟨vb, 0, none⟩) 1 1] w (InsP B (.slice (some ⟨g, 0, none⟩) N N) N (l.take i ++ x :: l.drop i) w) := by
  obtain ⟨i0, hi0, hz0, hz1, hz2⟩ := info_parts infoMv
  have hgw : g < w.heap.size := (h.lt g rfl).2
  have hvw : vb < w.heap.size := hc.lt
  have htl : (mcs (l.take i)).length = i * 2 := by rw [mcs_len, List.length_take, Nat.min_eq_left (by omega)]
  have hdl : (mcs (l.drop i)).length = (N - i) * 2 := by rw [mcs_len, List.length_drop, hl]
  have hold : (Builtin.firstCells i0.size i (.slice (some ⟨g, 0, none⟩) i N)).run Tryz.prog w.drew = .ok (mcs (l.take i)).toArray w.drew := by
    rw [hz1]
    refine run_firstCells_some w.drew 2 i ⟨g, 0, none⟩ i N (mcs (l.take i)) htl (fun j v hj => ?_)
    have hjl := (List.getElem?_eq_some_iff.1 hj).1
    rw [htl] at hjl
    rw [Addr.add_lit, Nat.zero_add]
    show w.cell? _ = _
    rw [h.cellAt _ (by omega)]
    rw [← take_mcs16, List.getElem?_take, if_pos hjl] at hj
    exact hj
  obtain ⟨G, hG⟩ : ∃ G, G = grownCap w (N + 1) N 98 := ⟨_, rfl⟩
  have hG1 : N + 1 ≤ G := by rw [hG]; exact grownCap_ge w (N + 1) N 98
  have hG2 : G ≤ maxLen := by rw [hG]; exact grownCap_le_maxLen w (N + 1) N 98 (by unfold maxLen; omega)
  obtain ⟨row, hrow⟩ : ∃ row : List Value, row = mcs (l.take i) ++ (Builtin.zeroCells (Value.agg #[.string ⟨#[]⟩, .int .i64 0]).cells (N + 1 - i)).toList ++ (Builtin.zeroCells (Value.agg #[.string ⟨#[]⟩, .int .i64 0]).cells (G - (N + 1))).toList := ⟨_, rfl⟩
  have hrl : row.length = G * 2 := by
    have e1 : ∀ n, (Builtin.zeroCells (Value.agg #[.string ⟨#[]⟩, .int .i64 0]).cells n).toList.length = n * 2 := fun n => by rw [Array.length_toList, size_zeroCells]; rfl
    rw [hrow, List.length_append, List.length_append, htl, e1, e1]
    omega
  obtain ⟨w1, hw1⟩ : ∃ z, z = w.drew.alloc (.cells row.toArray 98) := ⟨_, rfl⟩
  obtain ⟨r, hr⟩ : ∃ r, r = w.heap.size := ⟨_, rfl⟩
  have hkk : (N : Int) + 1 - (i : Int) = ((N + 1 - i : Nat) : Int) := by omega
  have hrz : ∀ ty, (Builtin.append_ #[99, 3] ty #[.slice (some ⟨g, 0, none⟩) i N, .int .i64 ((N : Int) + 1 - (i : Int))]).run Tryz.prog w = .ok (.slice (some ⟨r, 0, none⟩) (N + 1) G) w1 := fun ty => by
    have hik : i + (N + 1 - i) = N + 1 := by omega
    have h2 := Lib.run_append_grow_zeros w 99 3 ty 98 i0 (Value.agg #[.string ⟨#[]⟩, .int .i64 0]) .i64 .i64 Tryz.underlying99 Tryz.underlying3 hi0 hz0 (some ⟨g, 0, none⟩) i N (mcs (l.take i)) hold (N + 1 - i) (by omega) (by omega) (by omega) (by omega) (by rw [hz2]; omega) (by rw [hz2, hik]; exact growslice_fits (by omega) (by omega))
    rw [hik, ← hG] at h2
    rw [hkk, h2, hr, hw1, hrow]
    congr 3
    apply Array.ext'
    simp
  have HB1 : Hid (Below w.heap.size w w1) := by rw [hw1]; exact ((Below.refl _ w).drew).alloc (Nat.le_refl _) _
  have hc1 : Cb w1 r row 98 := by rw [hr, hw1]; exact Cb.made w.drew row _
  have hx1 : Cb w1 vb (mc x) 98 := hc.below HB1.out
  obtain ⟨cur1, hcur1⟩ : ∃ z, z = over row (i * 2) (mc x) := ⟨_, rfl⟩
  have hl1 : cur1.length = G * 2 := by rw [hcur1, over_len (by rw [hrl]; simp only [mc, List.length_cons, List.length_nil]; omega), hrl]
  obtain ⟨cur2, hcur2⟩ : ∃ z, z = over cur1 ((i + 1) * 2) (mcs (l.drop i)) := ⟨_, rfl⟩
  have hl2 : cur2.length = G * 2 := by rw [hcur2, over_len (by rw [hdl, hl1]; omega), hl1]
  have hfin : cur2.take ((N + 1) * 2) = mcs (l.take i ++ x :: l.drop i) := by
    have e1 : cur1.take (i * 2 + (mc x).length) = row.take (i * 2) ++ mc x := by rw [hcur1]; exact over_take (by rw [hrl]; omega)
    have e2 : row.take (i * 2) = mcs (l.take i) := by rw [hrow, List.append_assoc, ← htl, List.take_left]
    have e3 : (N + 1) * 2 = (i + 1) * 2 + (mcs (l.drop i)).length := by rw [hdl]; omega
    rw [hcur2, e3, over_take (by rw [hl1]; omega)]
    have e4 : cur1.take ((i + 1) * 2) = mcs (l.take i) ++ mc x := by
      have e5 : (i + 1) * 2 = i * 2 + (mc x).length := by simp only [mc, List.length_cons, List.length_nil]; omega
      rw [e5, e1, e2]
    rw [e4, mcs_app]
    show _ = mcs (l.take i) ++ mcs ([x] ++ l.drop i)
    rw [mcs_app]
    simp [mcs]
  have hcp1 : ∀ ty dc, (Builtin.copy_ #[99, 99] ty #[.slice (some ⟨r, i * 2, none⟩) (N + 1 - i) dc, .slice (some ⟨vb, 0, none⟩) 1 1]).run Tryz.prog w1 = .ok (goInt 1) (w1.setRow r cur1.toArray) := fun ty dc => by
    rw [hcur1]
    exact run_copy_part (P := Tryz.prog) w1 99 99 ty 98 2 r (i * 2) (N + 1 - i) dc ⟨vb, 0, none⟩ 1 1 1 (mc x) row 98 Tryz.underlying99 sizeMv (by simp only [Nat.min_def]; split <;> omega) rfl (fun j u hu => by rw [Addr.add_lit, Nat.zero_add, hx1.cell j]; exact hu) hc1 (by rw [hrl]; simp only [mc, List.length_cons, List.length_nil]; omega) (by have := mcs_one [x]; simpa [mcs] using this)
  obtain ⟨w2, hw2⟩ : ∃ z, z = w1.setRow r cur1.toArray := ⟨_, rfl⟩
  have HB2 : Hid (Below w.heap.size w w2.drew ∧ Cb w2.drew r cur1 98) := by
    rw [hw2]
    have h1 : Cb (w1.setRow r cur1.toArray).drew r cur1 98 := hc1.rowed cur1
    exact ⟨(rowed_below HB1.out (Nat.le_refl _) (by omega) _).drew, h1⟩
  have h2 : w2.drew.ownsRow B 98 2 (.slice (some ⟨g, 0, none⟩) N N) N (mcs l) := row_stays h fun k hk => HB2.out.1.block k (h.lt k hk).2
  have hcp2 : ∀ ty dc sc, (Builtin.copy_ #[99, 99] ty #[.slice (some ⟨r, (i + 1) * 2, none⟩) (N - i) dc, .slice (some ⟨g, i * 2, none⟩) (N - i) sc]).run Tryz.prog w2.drew = .ok (goInt ((N - i : Nat) : Int)) (w2.drew.setRow r cur2.toArray) := fun ty dc sc => by
    rw [hcur2]
    exact run_copy_part (P := Tryz.prog) w2.drew 99 99 ty 98 2 r ((i + 1) * 2) (N - i) dc ⟨g, i * 2, none⟩ (N - i) sc (N - i) (mcs (l.drop i)) cur1 98 Tryz.underlying99 sizeMv (by simp only [Nat.min_def]; split <;> omega) hdl (fun j u hu => drop_cell16 h2 (by omega) j u hu) HB2.out.2 (by rw [hdl, hl1]; omega) (mcs_one _)
  have HE : Hid ((w2.drew.setRow r cur2.toArray).ownsRow B 98 2 (.slice (some ⟨r, 0, none⟩) (N + 1) G) (N + 1) (mcs (l.take i ++ x :: l.drop i)) ∧ w.grownBy (w2.drew.setRow r cur2.toArray) (some g) ∧ r = w.heap.size) := by
    refine ⟨⟨by rw [← hfin, List.length_take, hl2]; omega, Or.inr ⟨r, G, cur2.toArray, rfl, by omega, HB2.out.2.rowed cur2, hG1, hG2, by simpa using hl2, by simpa using hfin⟩⟩, ?_, hr⟩
    exact grownBy_below (rowed_below HB2.out.1 (Nat.le_refl _) (by omega) _)
  rw [← hw2] at hcp1
  have i00 : (0 : Int) ≤ (i : Int) := by omega
  have iN : (i : Int) ≤ (N : Int) := by omega
  have iN1 : (i : Int) ≤ (N : Int) + 1 := by omega
  have iG : (i : Int) ≤ (G : Int) := by omega
  have i1G : (i : Int) + 1 ≤ (G : Int) := by omega
  have NG : (N : Int) + 1 ≤ (G : Int) := by omega
  have iNe : ((i : Int) == (N : Int)) = false := by simp; omega
  have ncb : (N : Int) < (N : Int) + 1 := by omega
  have hwa : IntKind.wrap .i64 ((N : Int) + 1) = (N : Int) + 1 := by rw [IntKind.wrap_i64]; omega
  have hwb : IntKind.wrap .i64 ((i : Int) + 1) = (i : Int) + 1 := by rw [IntKind.wrap_i64]; omega
  have hmc : IntKind.wrap .i64 ((N : Int) + 1 - (i : Int)) = (N : Int) + 1 - (i : Int) := by rw [IntKind.wrap_i64]; omega
  have i10 : (0 : Int) ≤ (i : Int) + 1 := by omega
  have i1N : (i : Int) + 1 ≤ (N : Int) + 1 := by omega
  have cni : ¬ N = i := by omega
  have cGi : ¬ G = i := by omega
  have cGi1 : ¬ G = i + 1 := by omega
  clear h hB hl hc hi0 hz0 hz1 hz2 hgw hvw htl hdl hold hG hG2 hrow hrl hw1 hr hkk hc1 hx1 hcur1 hl1 hcur2 hl2 hfin hw2 h2
  go_enter Tryz.func51, Tryz.ntmps51
  go_wp2_with (at_builtin; first
    | (refine wpList_append_known w rfl _ _ 99 3 rfl (.slice (some ⟨g, 0, none⟩) i N) (.int .i64 ((N : Int) + 1 - (i : Int))) rfl rfl (hrz _) ?_)
    | (refine wpList_copy_known w1 rfl _ _ 99 99 rfl (.slice (some ⟨r, i * 2, none⟩) (N + 1 - i) (G - i)) (.slice (some ⟨vb, 0, none⟩) 1 1) rfl rfl (hcp1 _ _) ?_))
  refine wp_region_held_drew (S := fun _ => True) (by kernel_rfl) trivial (fun _ => ?_)
  refine' take_at (i := 0) (d := 46) (v := _) rfl rfl (by kernel_rfl) (by kernel_rfl) (by kernel_rfl) (fun _ _ _ h => h) (Or.inl ⟨by rfl, ?h0⟩) (trivial) ?_
  case h0 =>
    intro w hSw
    clear hSw
    go_simp
    with_reducible rfl
  simp only [List.setIfInBounds_toArray, List.set_cons_zero, List.set_cons_succ]
  refine' take_at (i := 1) (d := 47) (v := _) rfl rfl (by kernel_rfl) (by kernel_rfl) (by kernel_rfl) (fun _ _ _ h => h) (Or.inl ⟨by rfl, ?h1⟩) (trivial) ?_
  case h1 =>
    intro w hSw
    clear hSw
    go_simp
    with_reducible rfl
  simp only [List.setIfInBounds_toArray, List.set_cons_zero, List.set_cons_succ]
  refine' take_at (i := 2) (d := 48) (v := _) rfl rfl (by kernel_rfl) (by kernel_rfl) (by kernel_rfl) (fun _ _ _ h => h) (Or.inl ⟨by rfl, ?h2⟩) (trivial) ?_
  case h2 =>
    intro w hSw
    clear hSw
    go_simp
    with_reducible rfl
  simp only [List.setIfInBounds_toArray, List.set_cons_zero, List.set_cons_succ]
  refine' take_at (i := 3) (d := 49) (v := _) rfl rfl (by kernel_rfl) (by kernel_rfl) (by kernel_rfl) (fun _ _ _ h => h) (Or.inl ⟨by rfl, ?h3⟩) (trivial) ?_
  case h3 =>
    intro w hSw
    clear hSw
    go_simp
    with_reducible rfl
  simp only [List.setIfInBounds_toArray, List.set_cons_zero, List.set_cons_succ]
  refine' take_at (i := 4) (d := 50) (v := _) rfl rfl (by kernel_rfl) (by kernel_rfl) (by kernel_rfl) (fun _ _ _ h => h) (Or.inl ⟨by rfl, ?h4⟩) (trivial) ?_
  case h4 =>
    intro w hSw
    clear hSw
    go_simp
    with_reducible rfl
  simp only [List.setIfInBounds_toArray, List.set_cons_zero, List.set_cons_succ]
  refine' take_at (i := 5) (d := 51) (v := _) rfl rfl (by kernel_rfl) (by kernel_rfl) (by kernel_rfl) (fun _ _ _ h => h) (Or.inl ⟨by rfl, ?h5⟩) (trivial) ?_
  case h5 =>
    intro w hSw
    clear hSw
    go_simp
    with_reducible rfl
  simp only [List.setIfInBounds_toArray, List.set_cons_zero, List.set_cons_succ]
  refine' take_at (i := 6) (d := 52) (v := _) rfl rfl (by kernel_rfl) (by kernel_rfl) (by kernel_rfl) (fun _ _ _ h => h) (Or.inl ⟨by rfl, ?h6⟩) (trivial) ?_
  case h6 =>
    intro w hSw
    clear hSw
    go_simp
    with_reducible rfl
  simp only [List.setIfInBounds_toArray, List.set_cons_zero, List.set_cons_succ]
  refine' take_at (i := 7) (d := 53) (v := _) rfl rfl (by kernel_rfl) (by kernel_rfl) (by kernel_rfl) (fun _ _ _ h => h) (Or.inl ⟨by rfl, ?h7⟩) (trivial) ?_
  case h7 =>
    intro w hSw
    clear hSw
    go_simp
    with_reducible rfl
  simp only [List.setIfInBounds_toArray, List.set_cons_zero, List.set_cons_succ]
  refine wpAnyH_ready (rs := [8]) (by kernel_rfl) (by simp) ?_
  refine AllReadyH.cons (o := _) rfl (fun KQ hKQ => ?_) AllReadyH.nil
  refine wp_copy_known w2.drew _ _ 99 99 rfl (.slice (some ⟨r, (i + 1) * 2, none⟩) (N - i) (G - (i + 1))) (.slice (some ⟨g, i * 2, none⟩) (N - i) (N - i)) rfl rfl (hcp2 _ _ _) ?_
  refine hKQ.out _ _ trivial (fun _ => ?_)
  clear hKQ KQ
  refine wpAnyH_done (by kernel_rfl) ?_ _
  go_wp2
  go_ret
  exact ⟨_, rfl, HE.out.1, HE.out.2.1, Or.inr (by rw [HE.out.2.2]; rfl)⟩
end Go.Proofs.YtjimemnkmpapgaaGreatDoor
namespace Go.Proofs.YtjimemnkmpapgaaGreatDoor
open Go.RowKit

theorem insert_row16 (v : Value) (N i : Nat) (l : List Tb.Mv) (x : Tb.Mv) (vb : Nat) (w : World) (h : w.ownsRow 0 98 2 v N (mcs l)) (hN : N ≤ 1000) (hl : N = l.length) (hi : i ≤ N) (hc : Cb w vb (mc x) 98) (hv : v.ownBlock ≠ some vb) :
    Calls Tryz.prog 51 #[v, .int .i64 (i : Int), .slice (some ⟨vb, 0, none⟩) 1 1] w (InsP 0 v N (l.take i ++ x :: l.drop i) w) := by
  by_cases hiN : i = N
  · subst hiN
    rw [List.take_of_length_le (by omega), List.drop_of_length_le (by omega)]
    exact insert_end16 0 v i l x vb w h (Nat.zero_le _) hN hc
  · rcases h.2 with ⟨rfl, rfl⟩ | ⟨g, c, cur, rfl, _, _, hNc, _⟩
    · omega
    · by_cases hr : N + 1 ≤ c
      · exact insert_shift16 0 g N c i l x vb w h hN hl (by omega) hr hc (fun e => hv (by rw [e]; rfl))
      · obtain rfl : c = N := by omega
        exact insert_grow16 0 g c i l x vb w h (Nat.zero_le _) hN hl (by omega) hc
theorem row_whole16 {w : World} {g N c t : Nat} {l : List Tb.Mv} (h : w.ownsRow 0 t 2 (.slice (some ⟨g, 0, none⟩) N c) N (mcs l)) : ∃ C0 : List Value, Cb w g C0 t ∧ C0.length = c * 2 ∧ C0.take (N * 2) = mcs l ∧ c ≤ maxLen ∧ N ≤ c := by
  rcases h.2 with ⟨e, _⟩ | ⟨g', c', cur, e, j1, j2, j3, j4, j5, j6⟩
  · cases e
  · simp only [Value.slice.injEq, Option.some.injEq, Addr.mk.injEq, and_true] at e
    obtain ⟨⟨rfl, _⟩, _, rfl⟩ := e
    exact ⟨cur.toList, by unfold Cb; rw [Array.toArray_toList]; exact j2, by simpa using j5, j6, j4, j3⟩
/-- One of the row is given to another shard. -/
theorem Lt16.given {w : World} {q g N c p : Nat} {s : Tb.St} {x : Tb.Mv} (h : Lt16 w q s (.slice (some ⟨g, 0, none⟩) N c)) (hN : N = s.l.length) (hx : s.l[p]? = some x) (n : Int) :
    Lt16 (w.setCell ⟨g, p * 2 + 1, none⟩ (.int .i64 n)) q ⟨s.shards, s.version, s.l.set p ⟨x.top, n⟩⟩ (.slice (some ⟨g, 0, none⟩) N c) ∧ Moved w (w.setCell ⟨g, p * 2 + 1, none⟩ (.int .i64 n)) (Ft16 (.slice (some ⟨g, 0, none⟩) N c) q) (Ft16 (.slice (some ⟨g, 0, none⟩) N c) q) := by
  have hg := grownBy_setCell w ⟨g, p * 2 + 1, none⟩ (.int .i64 n)
  have hap := h.blk.apart h.row (by decide)
  refine ⟨⟨h.blk.keep (hg.block q h.blk.lt (fun e => hap e.symm)), ?_⟩, hg.os, hg.tape, hg.output, hg.size, fun k hk hF => hg.block k hk (fun e => hF (Or.inl e.symm)), fun k hk => Or.inl hk⟩
  have hr := h.row
  rw [← hN] at hr
  have h2 := (hr.stored (p * 2 + 1) (.int .i64 n)).1
  rw [mcs_set _ _ _ hx] at h2
  simp only [List.length_set]
  rw [← hN]
  exact h2
/-- Another version. -/
theorem Lt16.vers {w : World} {q : Nat} {s : Tb.St} {v : Value} (h : Lt16 w q s v) (z : Int) :
    Lt16 (w.setCell ⟨q, 1, none⟩ (.int .i64 z)) q ⟨s.shards, z, s.l⟩ v ∧ Moved w (w.setCell ⟨q, 1, none⟩ (.int .i64 z)) (Ft16 v q) (Ft16 v q) := by
  have hg := grownBy_setCell w ⟨q, 1, none⟩ (.int .i64 z)
  have hap := h.blk.apart h.row (by decide)
  refine ⟨⟨h.blk.set 1 _, row_stays h.row fun k hk => hg.block k (h.row.lt k hk).2 (fun e => hap (by rw [hk]; simpa using e))⟩, hg.os, hg.tape, hg.output, hg.size, fun k hk hF => hg.block k hk (fun e => hF (Or.inr (by simpa using e))), fun k hk => Or.inl hk⟩
/-- Another row. -/
theorem Lt16.rowed {w w' : World} {q : Nat} {s : Tb.St} {v v' : Value} {l : List Tb.Mv} (h : Lt16 w q s v) (hr : w'.ownsRow 0 98 2 v' l.length (mcs l)) (hg : w.grownBy w' v.ownBlock) (ho : v'.ownBlock = v.ownBlock ∨ v'.ownBlock = some w.heap.size) :
    Cb w' q [.int .i64 s.shards, .int .i64 s.version, v] 101 ∧ Lt16 (w'.setCell ⟨q, 2, none⟩ v') q ⟨s.shards, s.version, l⟩ v' ∧ Moved w (w'.setCell ⟨q, 2, none⟩ v') (Ft16 v q) (Ft16 v' q) := by
  have hap := h.blk.apart h.row (by decide)
  have hq : Cb w' q [.int .i64 s.shards, .int .i64 s.version, v] 101 := h.blk.keep (hg.block q h.blk.lt (fun e => hap e.symm))
  have hg2 := grownBy_setCell w' ⟨q, 2, none⟩ v'
  have hap2 := hq.apart hr (by decide)
  have hsz := hg2.size
  refine ⟨hq, ⟨hq.set 2 _, row_stays hr fun k hk => hg2.block k (hr.lt k hk).2 (fun e => hap2 (by rw [hk]; simpa using e))⟩, hg2.os.trans hg.os, hg2.tape.trans hg.tape, hg2.output.trans hg.output, Nat.le_trans hg.size hg2.size, fun k hk hF => ?_, fun k hk => ?_⟩
  · rw [hg2.block k (Nat.lt_of_lt_of_le hk hg.size) (fun e => hF (Or.inr (by simpa using e)))]
    exact hg.block k hk (fun e => hF (Or.inl e.symm))
  · rcases hk with hk | rfl
    · rcases ho with e | e
      · exact Or.inl (Or.inl (by rw [← e]; exact hk))
      · rw [e] at hk
        simp only [Option.some.injEq] at hk
        exact Or.inr (by omega)
    · exact Or.inl (Or.inr rfl)
/-- What Move leaves. -/
def MvP (w : World) (q : Nat) (F : Nat → Prop) (R : Int × Tb.St) (e : Ending) (w' : World) : Prop := ∃ F', e = .returned (.int .i64 R.1) ∧ LTb w' q R.2 F' ∧ Moved w w' F F'
theorem MvP.same {w w' : World} {q : Nat} {s : Tb.St} {v : Value} {R : Int × Tb.St} {z : Int} (h : Lt16 w q s v) (hR : R = (z, s)) (hb : Below w.heap.size w w') : MvP w q (Ft16 v q) R (.returned (.int .i64 z)) w' := by
  subst hR
  exact ⟨_, rfl, ⟨v, h.later hb, rfl⟩, Moved.of_below _ hb⟩
theorem MvP.done {w w' : World} {q : Nat} {s : Tb.St} {v : Value} {F : Nat → Prop} {R : Int × Tb.St} (h : Lt16 w' q s v) (hR : R = (0, s)) (hm : Moved w w' F (Ft16 v q)) : MvP w q F R (.returned (.int .i64 0)) w' := by
  subst hR
  exact ⟨_, rfl, ⟨v, h, rfl⟩, hm⟩
theorem ins_at16 {l : List Tb.Mv} {p : Nat} (hp : p ≤ l.length) (a : Tb.Mv) : (l.take p ++ a :: l.drop p)[p]? = some a ∧ (l.take p ++ a :: l.drop p).length = l.length + 1 ∧ ∀ b, (l.take p ++ a :: l.drop p).set p b = l.take p ++ b :: l.drop p := by
  have e : (l.take p).length = p := by rw [List.length_take, Nat.min_eq_left hp]
  refine ⟨by rw [List.getElem?_append_right (by omega), e, Nat.sub_self]; rfl, by rw [List.length_append, List.length_cons, e, List.length_drop]; omega, fun b => ?_⟩
  rw [List.set_append_right _ _ (by omega), e, Nat.sub_self]
  rfl
set_option maxRecDepth 20000 in
set_option maxHeartbeats 8000000 in
theorem move_walk16 (q : Nat) (s : Tb.St) (v : Value) (m : Int) (t : ByteArray) (n : Int) (w : World) (h : Lt16 w q s v) (hf : Tb.Fine m s) (hm : m ≤ 2199023255552) (hS : Pa.Std w) (ht : t.size ≤ maxLen) (R : Int × Tb.St) (hR : R = Tb.move s t n) :
    Calls Tryz.prog 30 #[dptr q, .string t, .int .i64 n] w fun e w' => MvP w q (Ft16 v q) R e w' := by
  obtain ⟨nm, hnm⟩ : ∃ z, z = Tb.isName t := ⟨_, rfl⟩
  have HG : Hid (Calls Tryz.prog 50 #[.string t] w fun e w' => e = .returned (.bool nm) ∧ Below w.heap.size w w') := by
    rw [hnm]
    exact isName_any16 t w hS ht
  have H0 : Hid (Lt16 w q s v ∧ Tb.Fine m s ∧ R = Tb.move s t n ∧ nm = Tb.isName t ∧ m ≤ 2199023255552) := ⟨h, hf, hR, hnm, hm⟩
  have HNO : Hid (Tb.may s t n = false → R = (1, s)) := fun e => by rw [hR]; exact Tb.move_no e
  clear h hf hm hS ht hR hnm
  unfold dptr
  go_enter Tryz.func30, Tryz.ntmps30
  go_wp2_with fail
  refine HG.out.mono ?_
  rintro e w1 ⟨rfl, hb⟩
  have H1 : Hid (Below w.heap.size w w1) := hb
  clear hb HG
  cases nm with
  | false =>
    have HR : Hid (R = (1, s)) := HNO.out (by unfold Tb.may; rw [← H0.out.2.2.2.1]; rfl)
    go_wp2
    go_ret
    exact MvP.same H0.out.1 HR.out H1.out
  | true =>
    by_cases h1 : n < 0
    · have HR : Hid (R = (1, s)) := HNO.out (by
        have h : ¬ Tb.may s t n = true := fun e => by have := (Tb.may_iff.1 e).2.1; omega
        simpa using h)
      go_wp2
      go_ret
      exact MvP.same H0.out.1 HR.out H1.out
    have c0 : w1.cell? ⟨q, 0, none⟩ = some (.int .i64 s.shards) := (H0.out.1.later H1.out).blk.cell 0
    by_cases h2 : s.shards ≤ n
    · have HR : Hid (R = (1, s)) := HNO.out (by
        have h : ¬ Tb.may s t n = true := fun e => by have := (Tb.may_iff.1 e).2.2; omega
        simpa using h)
      go_wp2
      go_ret
      exact MvP.same H0.out.1 HR.out H1.out
    have HM : Hid (Tb.may s t n = true) := Tb.may_iff.2 ⟨H0.out.2.2.2.1.symm, by omega, by omega⟩
    obtain ⟨p, hp⟩ : ∃ p, p = Tb.pos s.l t := ⟨_, rfl⟩
    obtain ⟨hs, hhs⟩ : ∃ z, z = Tb.has s.l t := ⟨_, rfl⟩
    have HFI : Hid (Calls Tryz.prog 46 #[dptr q, .string t] w1 fun e w' => e = .returned (.tuple #[.int .i64 (p : Int), .bool hs]) ∧ Below w1.heap.size w1 w') := by
      rw [hp, hhs]
      exact find_any16 q s v t w1 (H0.out.1.later H1.out) (by have := H0.out.2.1.len; omega) H0.out.2.1.rises
    have HP : Hid (p = Tb.pos s.l t ∧ hs = Tb.has s.l t ∧ p ≤ s.l.length ∧ s.l.length ≤ 50) := ⟨hp, hhs, by rw [hp]; exact Tb.pos_le _ _, H0.out.2.1.len⟩
    have HV : Hid (IntKind.wrap .i64 (s.version + 1) = s.version + 1) := (show IntKind.wrap .i64 (s.version + 1) = s.version + 1 by
      have a1 := H0.out.2.1.v1
      have a2 := H0.out.2.1.vm
      have a3 := H0.out.2.2.2.2
      rw [IntKind.wrap_i64]
      omega)
    clear hp hhs HNO
    unfold dptr at HFI
    go_wp2_with fail
    refine HFI.out.mono ?_
    rintro e w2 ⟨rfl, hb⟩
    have H2 : Hid (Below w.heap.size w w2) := H1.out.trans (hb.mono H1.out.size)
    clear hb c0 H1 HFI
    cases hs with
    | true =>
      obtain ⟨x, hx, hxt⟩ := (Tb.pos_has H0.out.2.1.rises).1 HP.out.2.1.symm
      rw [← HP.out.1] at hx
      obtain ⟨N, hN⟩ : ∃ N, N = s.l.length := ⟨_, rfl⟩
      have hpN := (List.getElem?_eq_some_iff.1 hx).1
      rw [← hN] at hpN
      obtain ⟨a, c, hv, hNc, hj⟩ := row_form H0.out.1.row
      rw [← hN] at hv
      obtain ⟨g, rfl⟩ := hj (by omega)
      subst hv
      have HT : Hid (Lt16 w2 q s (.slice (some ⟨g, 0, none⟩) N c) ∧ N = s.l.length ∧ s.l[p]? = some x ∧ Moved w w2 (Ft16 (.slice (some ⟨g, 0, none⟩) N c) q) (Ft16 (.slice (some ⟨g, 0, none⟩) N c) q) ∧ R = (0, ⟨s.shards, s.version + 1, s.l.set p ⟨x.top, n⟩⟩)) := ⟨H0.out.1.later H2.out, hN, hx, Moved.of_below _ H2.out, by rw [H0.out.2.2.1, Tb.move_at HM.out HP.out.2.1.symm, ← HP.out.1, hxt]⟩
      clear hx hxt hN hNc hj H2
      have p0 : (0 : Int) ≤ (p : Int) := by omega
      have pN : (p : Int) < (N : Int) := by omega
      have d2 : w2.cell? ⟨q, 2, none⟩ = some (.slice (some ⟨g, 0, none⟩) N c) := HT.out.1.blk.cell 2
      have hrw := HT.out.1.row
      rw [← HT.out.2.1] at hrw
      obtain ⟨r0, r1⟩ := row_at16 hrw HT.out.2.2.1
      have f1 : w2.frozen? ⟨g, p * 2 + 1, none⟩ = false := by
        obtain ⟨C0, hC, _⟩ := row_whole16 hrw
        exact hC.free _
      clear hrw
      have HE : Hid (Lt16 (w2.setCell ⟨g, p * 2 + 1, none⟩ (.int .i64 n)) q ⟨s.shards, s.version, s.l.set p ⟨x.top, n⟩⟩ (.slice (some ⟨g, 0, none⟩) N c) ∧ Moved w2 (w2.setCell ⟨g, p * 2 + 1, none⟩ (.int .i64 n)) (Ft16 (.slice (some ⟨g, 0, none⟩) N c) q) (Ft16 (.slice (some ⟨g, 0, none⟩) N c) q)) := HT.out.1.given HT.out.2.1 HT.out.2.2.1 n
      go_upto_region 9 with fail
      clear p0 pN d2 r0 r1 f1
      generalize w2.setCell ⟨g, p * 2 + 1, none⟩ (.int .i64 n) = w8 at *
      have d1 : w8.cell? ⟨q, 1, none⟩ = some (.int .i64 s.version) := HE.out.1.blk.cell 1
      have f8 := HE.out.1.blk.free 1
      have hwv : IntKind.wrap .i64 (s.version + 1) = s.version + 1 := HV.out
      have HE2 : Hid (Lt16 (w8.setCell ⟨q, 1, none⟩ (.int .i64 (s.version + 1))) q ⟨s.shards, s.version + 1, s.l.set p ⟨x.top, n⟩⟩ (.slice (some ⟨g, 0, none⟩) N c) ∧ Moved w8 (w8.setCell ⟨q, 1, none⟩ (.int .i64 (s.version + 1))) (Ft16 (.slice (some ⟨g, 0, none⟩) N c) q) (Ft16 (.slice (some ⟨g, 0, none⟩) N c) q)) := HE.out.1.vers (s.version + 1)
      go_wp2
      go_ret
      exact MvP.done HE2.out.1 HT.out.2.2.2.2 ((HT.out.2.2.2.1.trans HE.out.2).trans HE2.out.2)
    | false =>
      obtain ⟨N, hN⟩ : ∃ N, N = s.l.length := ⟨_, rfl⟩
      obtain ⟨a, c, hv, hNc, hj⟩ := row_form H0.out.1.row
      rw [← hN] at hv
      subst hv
      have HN : Hid (N = s.l.length) := hN
      have c2 : w2.cell? ⟨q, 2, none⟩ = some (.slice a N c) := (H0.out.1.later H2.out).blk.cell 2
      have hN51 : (N : Int) ≤ 50 := by have := H0.out.2.1.len; omega
      clear hN hNc hj
      by_cases hfu : (50 : Int) ≤ (N : Int)
      · have HR : Hid (R = (2, s)) := (show R = (2, s) by rw [H0.out.2.2.1]; exact Tb.move_full HM.out HP.out.2.1.symm (by have := HN.out; omega))
        go_wp2
        go_ret
        exact MvP.same H0.out.1 HR.out H2.out
      · have HR : Hid (R = (0, ⟨s.shards, s.version + 1, s.l.take p ++ ⟨t, n⟩ :: s.l.drop p⟩)) := (show R = _ by rw [H0.out.2.2.1, Tb.move_ins HM.out HP.out.2.1.symm (by have := HN.out; omega), ← HP.out.1])
        obtain ⟨vb, hvb⟩ : ∃ z, z = w2.heap.size := ⟨_, rfl⟩
        have H3 : Hid (Lt16 (w2.alloc (.cells #[.string t, .int .i64 0] 98)) q s (.slice a N c) ∧ Cb (w2.alloc (.cells #[.string t, .int .i64 0] 98)) vb (mc ⟨t, 0⟩) 98 ∧ (Value.slice a N c).ownBlock ≠ some vb ∧ Below w.heap.size w (w2.alloc (.cells #[.string t, .int .i64 0] 98))) := by
          have hb := (Below.refl _ w2).alloc (Nat.le_refl _) (.cells #[.string t, .int .i64 0] 98)
          have hl2 := H0.out.1.later H2.out
          rw [hvb]
          exact ⟨hl2.later hb, Cb.made w2 (mc ⟨t, 0⟩) _, fun e => by have := (hl2.row.lt _ e).2; omega, H2.out.trans (hb.mono H2.out.size)⟩
        go_wp2_with fail
        rw [← hvb]
        clear hvb c2 H2 hfu
        generalize (w2.alloc (.cells #[.string t, .int .i64 0] 98)) = w3 at *
        refine (insert_row16 (.slice a N c) N p s.l ⟨t, 0⟩ vb w3 (by have h := H3.out.1.row; rw [← HN.out] at h; exact h) (by omega) HN.out (by have := HP.out.2.2.1; have := HN.out; omega) H3.out.2.1 H3.out.2.2.1).mono ?_
        rintro e w4 ⟨v4, rfl, hr4, hg4, ho4⟩
        obtain ⟨i1, i2, i3⟩ := ins_at16 HP.out.2.2.1 (⟨t, 0⟩ : Tb.Mv)
        obtain ⟨l4, hl4⟩ : ∃ l4, l4 = s.l.take p ++ (⟨t, 0⟩ : Tb.Mv) :: s.l.drop p := ⟨_, rfl⟩
        rw [← hl4] at hr4 i1 i2
        have hM : N + 1 = l4.length := by rw [i2, ← HN.out]
        obtain ⟨M, hMM⟩ : ∃ M, M = N + 1 := ⟨_, rfl⟩
        rw [← hMM] at hr4
        have hr5 := hr4
        rw [show M = l4.length by omega] at hr5
        have hpM : p < M := by have := HP.out.2.2.1; have := HN.out; omega
        obtain ⟨a4, c4, hv4, _, hj4⟩ := row_form hr4
        obtain ⟨g4, rfl⟩ := hj4 (by omega)
        subst hv4
        obtain ⟨hq4, hl5, hm5⟩ := H3.out.1.rowed hr5 hg4 ho4
        have z2 : w4.cell? ⟨q, 2, none⟩ = some (.slice a N c) := hq4.cell 2
        have f2 := hq4.free 2
        have HT : Hid (Lt16 (w4.setCell ⟨q, 2, none⟩ (.slice (some ⟨g4, 0, none⟩) M c4)) q ⟨s.shards, s.version, l4⟩ (.slice (some ⟨g4, 0, none⟩) M c4) ∧ M = l4.length ∧ l4[p]? = some (⟨t, 0⟩ : Tb.Mv) ∧ Moved w (w4.setCell ⟨q, 2, none⟩ (.slice (some ⟨g4, 0, none⟩) M c4)) (Ft16 (.slice a N c) q) (Ft16 (.slice (some ⟨g4, 0, none⟩) M c4) q) ∧ R = (0, ⟨s.shards, s.version + 1, l4.set p ⟨t, n⟩⟩)) := ⟨hl5, by omega, i1, (Moved.of_below _ H3.out.2.2.2).trans hm5, by rw [HR.out, hl4, i3]⟩
        obtain ⟨sA, hsA⟩ : ∃ sA : Tb.St, sA = ⟨s.shards, s.version, l4⟩ := ⟨_, rfl⟩
        obtain ⟨x, hxA⟩ : ∃ x : Tb.Mv, x = ⟨t, 0⟩ := ⟨_, rfl⟩
        have e1 : s.shards = sA.shards := by rw [hsA]
        have e2 : s.version = sA.version := by rw [hsA]
        have e3 : l4 = sA.l := by rw [hsA]
        have e4 : t = x.top := by rw [hxA]
        have HTT : Hid (Lt16 (w4.setCell ⟨q, 2, none⟩ (.slice (some ⟨g4, 0, none⟩) M c4)) q sA (.slice (some ⟨g4, 0, none⟩) M c4) ∧ M = sA.l.length ∧ sA.l[p]? = some x ∧ Moved w (w4.setCell ⟨q, 2, none⟩ (.slice (some ⟨g4, 0, none⟩) M c4)) (Ft16 (.slice a N c) q) (Ft16 (.slice (some ⟨g4, 0, none⟩) M c4) q) ∧ R = (0, ⟨sA.shards, sA.version + 1, sA.l.set p ⟨x.top, n⟩⟩)) := by
          have h := HT.out
          rw [← hsA, ← hxA, e3, e1, e2] at h
          rw [← e4]
          exact h
        have HVA : Hid (IntKind.wrap .i64 (sA.version + 1) = sA.version + 1) := by rw [← e2]; exact HV
        clear hr4 hr5 hg4 ho4 i1 i2 i3 hl4 hM hMM hj4 hq4 hl5 hm5 hsA hxA e1 e2 e3 e4 HT HV
        have HT := HTT
        have HV := HVA
        clear HTT HVA
        go_upto_region 8 with fail
        clear z2 f2
        generalize w4.setCell ⟨q, 2, none⟩ (.slice (some ⟨g4, 0, none⟩) M c4) = w5 at *
        have p0 : (0 : Int) ≤ (p : Int) := by omega
        have pN : (p : Int) < (M : Int) := by omega
        have d2 : w5.cell? ⟨q, 2, none⟩ = some (.slice (some ⟨g4, 0, none⟩) M c4) := HT.out.1.blk.cell 2
        have hrw := HT.out.1.row
        rw [← HT.out.2.1] at hrw
        obtain ⟨r0, r1⟩ := row_at16 hrw HT.out.2.2.1
        have f1 : w5.frozen? ⟨g4, p * 2 + 1, none⟩ = false := by
          obtain ⟨C0, hC, _⟩ := row_whole16 hrw
          exact hC.free _
        clear hrw
        have HE : Hid (Lt16 (w5.setCell ⟨g4, p * 2 + 1, none⟩ (.int .i64 n)) q ⟨sA.shards, sA.version, sA.l.set p ⟨x.top, n⟩⟩ (.slice (some ⟨g4, 0, none⟩) M c4) ∧ Moved w5 (w5.setCell ⟨g4, p * 2 + 1, none⟩ (.int .i64 n)) (Ft16 (.slice (some ⟨g4, 0, none⟩) M c4) q) (Ft16 (.slice (some ⟨g4, 0, none⟩) M c4) q)) := HT.out.1.given HT.out.2.1 HT.out.2.2.1 n
        go_upto_region 9 with fail
        clear p0 pN d2 r0 r1 f1
        generalize w5.setCell ⟨g4, p * 2 + 1, none⟩ (.int .i64 n) = w8 at *
        have d1 : w8.cell? ⟨q, 1, none⟩ = some (.int .i64 sA.version) := HE.out.1.blk.cell 1
        have f8 := HE.out.1.blk.free 1
        have hwv : IntKind.wrap .i64 (sA.version + 1) = sA.version + 1 := HV.out
        have HE2 : Hid (Lt16 (w8.setCell ⟨q, 1, none⟩ (.int .i64 (sA.version + 1))) q ⟨sA.shards, sA.version + 1, sA.l.set p ⟨x.top, n⟩⟩ (.slice (some ⟨g4, 0, none⟩) M c4) ∧ Moved w8 (w8.setCell ⟨q, 1, none⟩ (.int .i64 (sA.version + 1))) (Ft16 (.slice (some ⟨g4, 0, none⟩) M c4) q) (Ft16 (.slice (some ⟨g4, 0, none⟩) M c4) q)) := HE.out.1.vers (sA.version + 1)
        go_wp2
        go_ret
        exact MvP.done HE2.out.1 HT.out.2.2.2.2 ((HT.out.2.2.2.1.trans HE.out.2).trans HE2.out.2)
theorem move_any16 (q : Nat) (s : Tb.St) (F : Nat → Prop) (m : Int) (t : ByteArray) (n : Int) (w : World) (hL : LTb w q s F) (hf : Tb.Fine m s) (hm : m ≤ 2199023255552) (hS : Pa.Std w) (ht : t.size ≤ maxLen) :
    Calls Tryz.prog 30 #[dptr q, .string t, .int .i64 n] w fun e w' => ∃ F', e = .returned (.int .i64 (Tb.move s t n).1) ∧ LTb w' q (Tb.move s t n).2 F' ∧ Moved w w' F F' := by
  obtain ⟨v, h, rfl⟩ := hL
  exact move_walk16 q s v m t n w h hf hm hS ht _ rfl
end Go.Proofs.YtjimemnkmpapgaaGreatDoor
namespace Go.Proofs.YtjimemnkmpapgaaGreatDoor
open Go.RowKit

theorem Tb.topT_eq {p x : ByteArray} (h : x.data.toList = Pl.top p.data.toList) : x = Tb.topT p := by
  unfold Tb.topT
  rw [← h, Array.toArray_toList]
theorem Tb.topT_data (p : ByteArray) : (Tb.topT p).data.toList = Pl.top p.data.toList := rfl
theorem Tb.topT_name {p : ByteArray} (h : Pl.goodB p.data.toList = true) : Tb.isName (Tb.topT p) = true := (Tb.top_name h).1
theorem Tb.topT_size {p : ByteArray} (h : Pl.goodB p.data.toList = true) : 1 ≤ (Tb.topT p).size ∧ (Tb.topT p).size ≤ 40 := by
  have h1 := Tb.name_len (Tb.topT_name h)
  rw [← Pa.sz_list]
  exact h1
theorem Tb.wrap_small {z : Int} (h1 : 0 ≤ z) (h2 : z ≤ 1000000) : wrap64 z = z := by unfold wrap64; omega
set_option maxRecDepth 20000 in
set_option maxHeartbeats 4000000 in
theorem of_any16 (q : Nat) (s : Tb.St) (F : Nat → Prop) (m : Int) (p : ByteArray) (w : World) (hL : LTb w q s F) (hf : Tb.Fine m s) (hS : Pa.Std w) (hp : p.size ≤ maxLen) :
    Calls Tryz.prog 26 #[dptr q, .string p] w fun e w' => e = .returned (.int .i64 (Tb.of s p)) ∧ Below w.heap.size w w' := by
  obtain ⟨v, h, rfl⟩ := hL
  have H0 : Hid (Lt16 w q s v ∧ Tb.Fine m s) := ⟨h, hf⟩
  cases hg : Pl.goodB p.data.toList with
  | false =>
    have HT : Hid (Calls Tryz.prog 45 #[.string p] w fun e w' => e = .returned (.string ⟨#[]⟩) ∧ Below w.heap.size w w') := Pa.top_bad p w hS hp hg
    have HO : Hid (Tb.of s p = -1) := Tb.of_bad hg
    clear h hf hS hp hg
    unfold dptr
    go_enter Tryz.func26, Tryz.ntmps26
    go_wp2_with fail
    refine HT.out.mono ?_
    rintro e w1 ⟨rfl, hb⟩
    have HB : Hid (Below w.heap.size w w1) := hb
    clear hb HT
    go_wp2
    go_ret
    exact ⟨by rw [HO.out]; rfl, HB.out⟩
  | true =>
    obtain ⟨t, ht⟩ : ∃ t, t = Tb.topT p := ⟨_, rfl⟩
    have HT : Hid (Calls Tryz.prog 45 #[.string p] w fun e w' => e = .returned (.string t) ∧ Below w.heap.size w w') := by
      refine (Pa.top_any p w hS hg).mono ?_
      rintro e w' ⟨x, rfl, hx, hb⟩
      rw [ht, Tb.topT_eq hx]
      exact ⟨rfl, hb⟩
    have HO : Hid (Tb.of s p = Tb.whose s t ∧ t.size ≤ 1000) := ⟨by unfold Tb.of; rw [if_pos hg, ht], by rw [ht]; have := (Tb.topT_size hg).2; omega⟩
    have hne : t.toList.isEmpty = false := by
      cases e : t.toList.isEmpty with
      | false => rfl
      | true =>
        have h1 := (Tb.topT_size hg).1
        rw [← ht, ← Pa.sz_list, ← Lib.toList_data] at h1
        rw [List.isEmpty_iff.1 e] at h1
        simp at h1
    obtain ⟨k, hk⟩ : ∃ k, k = Tb.pos s.l t := ⟨_, rfl⟩
    obtain ⟨hs, hhs⟩ : ∃ z, z = Tb.has s.l t := ⟨_, rfl⟩
    have HF : Hid (∀ w', Below w.heap.size w w' → Calls Tryz.prog 46 #[.pointer (some ⟨q, 0, none⟩), .string t] w' fun e w'' => e = .returned (.tuple #[.int .i64 (k : Int), .bool hs]) ∧ Below w'.heap.size w' w'') := fun w' hb => by
      rw [hk, hhs]
      exact find_any16 q s v t w' (h.later hb) (by have := hf.len; omega) hf.rises
    have HP : Hid (k = Tb.pos s.l t ∧ hs = Tb.has s.l t) := ⟨hk, hhs⟩
    clear h hf hS hp hg ht hk hhs
    unfold dptr
    go_enter Tryz.func26, Tryz.ntmps26
    go_wp2_with fail
    refine HT.out.mono ?_
    rintro e w1 ⟨rfl, hb⟩
    have H1 : Hid (Below w.heap.size w w1) := hb
    clear hb HT
    go_wp2_with fail
    refine (HF.out w1 H1.out).mono ?_
    rintro e w2 ⟨rfl, hb⟩
    have H2 : Hid (Below w.heap.size w w2 ∧ Lt16 w2 q s v) := by
      have h := H1.out.trans (hb.mono H1.out.size)
      exact ⟨h, H0.out.1.later h⟩
    clear hb HF H1
    cases hs with
    | true =>
      obtain ⟨x, hx, hxt⟩ := (Tb.pos_has H0.out.2.rises).1 HP.out.2.symm
      have HX : Hid (Tb.of s p = x.shard) := (show Tb.of s p = x.shard by
        rw [HO.out.1]
        unfold Tb.whose
        rw [Tb.own_at H0.out.2.rises hx hxt]
        rfl)
      rw [← HP.out.1] at hx
      obtain ⟨N, hN⟩ : ∃ N, N = s.l.length := ⟨_, rfl⟩
      have hkN := (List.getElem?_eq_some_iff.1 hx).1
      rw [← hN] at hkN
      obtain ⟨a, c, hv, hNc, hj⟩ := row_form H2.out.2.row
      rw [← hN] at hv
      obtain ⟨g, rfl⟩ := hj (by omega)
      subst hv
      have hrw := H2.out.2.row
      rw [← hN] at hrw
      obtain ⟨r0, r1⟩ := row_at16 hrw hx
      have c2 : w2.cell? ⟨q, 2, none⟩ = some (.slice (some ⟨g, 0, none⟩) N c) := H2.out.2.blk.cell 2
      have k0 : (0 : Int) ≤ (k : Int) := by omega
      have kN : (k : Int) < (N : Int) := by omega
      clear hx hxt hN hNc hj hrw hkN
      go_wp2
      go_ret
      exact ⟨by rw [HX.out]; rfl, H2.out.1⟩
    | false =>
      obtain ⟨z, hz⟩ : ∃ z : Nat, z = Tb.sum t.data.toList := ⟨_, rfl⟩
      have HZ : Hid (z = Tb.sum t.data.toList ∧ Tb.of s p = (z : Int) % s.shards ∧ 1 ≤ s.shards ∧ s.shards ≤ 4 ∧ z ≤ 255000) := ⟨hz, by
        rw [HO.out.1]
        unfold Tb.whose
        rw [Tb.own_no HP.out.2.symm, hz]
        rfl, H0.out.2.sh1, H0.out.2.sh2, by
        have := Tb.sum_le t.data.toList
        have h2 := HO.out.2
        rw [Pa.sz_list] at this
        omega⟩
      have c0 : w2.cell? ⟨q, 0, none⟩ = some (.int .i64 s.shards) := H2.out.2.blk.cell 0
      obtain ⟨n, hn⟩ : ∃ n, n = s.shards := ⟨_, rfl⟩
      rw [← hn] at c0 HZ
      have hn0 : ¬ n = 0 := by have := HZ.out.2.2.1; omega
      have hn1 : (n == 0) = false := by simp [hn0]
      clear hz hn
      go_upto_region 7 with fail
      go_quiet (first
        | (go_at_call 47; refine Calls.quiet_of_same (v := .int .i64 (z : Int)) ?_; rw [HZ.out.1]; exact sum_any16 t _ HO.out.2))
      have H3 : Hid (Below w.heap.size w (w2.drewN nq)) := below_drewN H2.out.1 _
      clear c0 hn0 hn1
      go_wp2
      go_ret
      refine ⟨?_, H3.out⟩
      rw [HZ.out.2.1]
      rfl
end Go.Proofs.YtjimemnkmpapgaaGreatDoor
