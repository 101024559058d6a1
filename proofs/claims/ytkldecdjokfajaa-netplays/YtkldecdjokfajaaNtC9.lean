/- What twin answers: a message that lies in blocks of its own. -/
import Derived.Test.YtkldecdjokfajaaNtA9
import Derived.Lib.SliceRun
import Derived.Test.YtkldecdjokfajaaHeld2
namespace Go.Proofs.Ytkldecdjokfajaa
open Go.RowKit

theorem infoNum9 : (Try.prog.info? 2).map (fun i => (i.zero, i.size, i.bytes)) = some (some (.int .i64 0), 1, 8) := by kernel_rfl
theorem infoRow9 : (Try.prog.info? 66).map (fun i => (i.zero, i.size, i.bytes)) = some (some (.slice none 0 0), 1, 24) := by kernel_rfl

set_option maxRecDepth 20000 in
set_option maxHeartbeats 1000000 in
/-- slices.Clone of numbers. -/
theorem cloneN9 (v : Value) (zs : List Int) (K : Nat → Prop) (w : World) (h : Nv w v zs K) (hN : zs.length ≤ 2000000) :
    Calls Try.prog 34 #[v] w fun e w' => ∃ a m c, e = .returned (.slice a m c) ∧ Nv w' (.slice a m c) zs (newer w) ∧ Below w.heap.size w w' := by
  obtain ⟨av, k, c, rfl, hk, hc⟩ := h
  cases av with
  | none =>
    have hz : zs = [] := by
      cases zs with
      | nil => rfl
      | cons z zs =>
        obtain ⟨g, o, e, _⟩ := hc 0 z rfl
        cases e
    subst hz
    clear hc hk
    have hq : ∀ W : World, (binOp .eql 28 (.slice none k c) (.slice none 0 0)).run Try.prog W = .ok (.bool true) W := fun W => Lib.run_eql_slice_nil W _ _ none k c 0 0 Try.underlying28
    go_enter Try.func34, Try.ntmps34
    go_wp2
    go_ret
    exact ⟨_, _, _, rfl, Nv.nil _ _, Below.refl _ _⟩
  | some ad =>
    have hq : ∀ W : World, (binOp .eql 28 (.slice (some ad) k c) (.slice none 0 0)).run Try.prog W = .ok (.bool false) W := fun W => Lib.run_eql_slice_nil W _ _ (some ad) k c 0 0 Try.underlying28
    obtain ⟨i0, hi, hz0, hz1, hz2⟩ := info_parts infoNum9
    have HC : Hid (∀ (j : Nat) u, (zs.map (Value.int .i64))[j]? = some u → w.cell? (ad.add j) = some u) := by
      have h : ∀ (j : Nat) u, (zs.map (Value.int .i64))[j]? = some u → w.cell? (ad.add j) = some u := fun j u hu => by
        rw [List.getElem?_map] at hu
        cases hz : zs[j]? with
        | none => rw [hz] at hu; cases hu
        | some z =>
          rw [hz] at hu
          simp only [Option.map_some, Option.some.injEq] at hu
          obtain ⟨g, o, e, h1, _⟩ := hc j z hz
          simp only [Option.some.injEq] at e
          subst e
          rw [← hu, Addr.add_lit]
          exact h1
      exact h
    have HK : Hid (k = zs.length) := hk
    clear hc hk
    go_enter Try.func34, Try.ntmps34
    go_wp2_with (at_builtin; refine wpList_append_own _ rfl _ _ 28 rfl w.heap.size 2 i0 (.int .i64 0) 1 8 Try.underlying28 hi hz0 hz1 hz2 rfl (by decide) _ _ _ rfl (World.ownsRow_made w #[] 0 (Nat.le_refl _) (Nat.zero_le _) (by simp)) ad k c (zs.map (Value.int .i64)) rfl ?qc1 ?qc2 ?qc3 ?qc4 ?qc5 ?qc6 ?_)
    case qc1 => rw [List.length_map, HK.out, Nat.mul_one]
    case qc2 =>
      intro j u hj
      exact Lib.cell?_alloc_some _ (HC.out j u hj)
    case qc3 => intro u hu; obtain ⟨z, _, rfl⟩ := List.mem_map.1 hu; rfl
    case qc4 => rw [Nat.zero_add, HK.out]; unfold maxLen; omega
    case qc5 => rw [Nat.zero_add, HK.out]; omega
    case qc6 => simp
    intro v' w1 hown hgrow hnil
    have HO : Hid (w1.ownsRow w.heap.size 2 1 v' k (zs.map (Value.int .i64)) ∧ Below w.heap.size w w1) := ⟨by simpa using hown, ((Below.refl _ w).alloc (Nat.le_refl _) _).grown hgrow (by simp) (by intro k hk; simp [Value.ownBlock] at hk; omega)⟩
    obtain ⟨a1, c1, e1, _⟩ := row_shape9 HO.out.1
    subst e1
    clear hown hgrow hnil
    go_wp2
    go_ret
    refine ⟨_, _, _, rfl, ?_, HO.out.2⟩
    have h := HO.out.1
    rw [HK.out] at h ⊢
    exact Nv.own h

/-- Rows and where each lies. -/
theorem Bv.cells {w : World} {ad : Addr} {k c : Nat} {ls : List (List UInt8)} {K : Nat → Prop} (h : Bv w (.slice (some ad) k c) ls K) : ∃ us : List Value, us.length = ls.length ∧ ∀ (j : Nat) u x, us[j]? = some u → ls[j]? = some x → w.cell? (ad.add j) = some u ∧ Bs w u x := by
  refine ⟨(List.range ls.length).map fun j => (w.cell? (ad.add j)).getD undef, by simp, fun j u x hu hx => ?_⟩
  obtain ⟨av, k', c', e, _, hc⟩ := h
  obtain ⟨g, o, u', e2, h1, h2, _⟩ := hc j x hx
  simp only [Value.slice.injEq] at e
  rw [← e.1] at e2
  simp only [Option.some.injEq] at e2
  subst e2
  have hj := (List.getElem?_eq_some_iff.1 hx).1
  rw [List.getElem?_map, List.getElem?_range hj] at hu
  simp only [Option.map_some, Option.some.injEq] at hu
  rw [Addr.add_lit, h1] at hu
  simp only [Option.getD_some] at hu
  subst hu
  exact ⟨by rw [Addr.add_lit]; exact h1, h2⟩

set_option maxRecDepth 20000 in
set_option maxHeartbeats 1000000 in
/-- slices.Clone of rows: the rows themselves are the elder ones. -/
theorem cloneB9' (v : Value) (ls : List (List UInt8)) (w0 w : World) (h : ∃ K, Bv w0 v ls K) (hb : Below w0.heap.size w0 w) (hN : ls.length ≤ 2000000) :
    Calls Try.prog 35 #[v] w fun e w' => ∃ a m c us, e = .returned (.slice a m c) ∧ w'.ownsRow w.heap.size 66 1 (.slice a m c) ls.length us ∧ (∀ (j : Nat) u x, us[j]? = some u → ls[j]? = some x → Bs w0 u x) ∧ Below w.heap.size w w' := by
  obtain ⟨K, h⟩ := h
  have HV : Hid (Bv w0 v ls K) := h
  have HB0 : Hid (Below w0.heap.size w0 w) := hb
  clear hb
  obtain ⟨av, k, c, rfl, hk, hc⟩ := h
  cases av with
  | none =>
    have hz : ls = [] := by
      cases ls with
      | nil => rfl
      | cons z zs =>
        obtain ⟨g, o, u, e, _⟩ := hc 0 z rfl
        cases e
    subst hz
    clear hc hk
    have hq : ∀ W : World, (binOp .eql 29 (.slice none k c) (.slice none 0 0)).run Try.prog W = .ok (.bool true) W := fun W => Lib.run_eql_slice_nil W _ _ none k c 0 0 Try.underlying29
    go_enter Try.func35, Try.ntmps35
    go_wp2
    go_ret
    exact ⟨_, _, _, [], rfl, World.ownsRow_nil w _ _ _, fun j u x hu _ => by simp at hu, Below.refl _ _⟩
  | some ad =>
    have hq : ∀ W : World, (binOp .eql 29 (.slice (some ad) k c) (.slice none 0 0)).run Try.prog W = .ok (.bool false) W := fun W => Lib.run_eql_slice_nil W _ _ (some ad) k c 0 0 Try.underlying29
    obtain ⟨i0, hi, hz0, hz1, hz2⟩ := info_parts infoRow9
    obtain ⟨us, hul, hus⟩ := HV.out.cells
    have HC : Hid (∀ (j : Nat) u x, us[j]? = some u → ls[j]? = some x → w.cell? (ad.add j) = some u ∧ Bs w0 u x) := fun j u x hu hx => ⟨Below.kept HB0.out (hus j u x hu hx).1, (hus j u x hu hx).2⟩
    have HK : Hid (k = ls.length ∧ us.length = ls.length) := ⟨hk, hul⟩
    have HX : Hid (∀ (j : Nat) u, us[j]? = some u → ∃ x, ls[j]? = some x) := fun j u hu => by
      have hj := (List.getElem?_eq_some_iff.1 hu).1
      exact ⟨_, List.getElem?_eq_getElem (by omega)⟩
    clear hc hk hul hus
    go_enter Try.func35, Try.ntmps35
    go_wp2_with (at_builtin; refine wpList_append_own _ rfl _ _ 29 rfl w.heap.size 66 i0 (.slice none 0 0) 1 24 Try.underlying29 hi hz0 hz1 hz2 rfl (by decide) _ _ _ rfl (World.ownsRow_made w #[] 0 (Nat.le_refl _) (Nat.zero_le _) (by simp)) ad k c us rfl ?qc1 ?qc2 ?qc3 ?qc4 ?qc5 ?qc6 ?_)
    case qc1 => rw [HK.out.2, HK.out.1, Nat.mul_one]
    case qc2 =>
      intro j u hj
      obtain ⟨x, hx⟩ := HX.out j u hj
      exact Lib.cell?_alloc_some _ (HC.out j u x hj hx).1
    case qc3 =>
      intro u hu
      obtain ⟨j, hj⟩ := List.mem_iff_getElem?.1 hu
      obtain ⟨x, hx⟩ := HX.out j u hj
      obtain ⟨_, _, _, rfl, _⟩ := (HC.out j u x hj hx).2
      rfl
    case qc4 => rw [Nat.zero_add, HK.out.1]; unfold maxLen; omega
    case qc5 => rw [Nat.zero_add, HK.out.1]; omega
    case qc6 => simp
    intro v' w1 hown hgrow hnil
    have HO : Hid (w1.ownsRow w.heap.size 66 1 v' k us ∧ Below w.heap.size w w1) := ⟨by simpa using hown, ((Below.refl _ w).alloc (Nat.le_refl _) _).grown hgrow (by simp) (by intro k hk; simp [Value.ownBlock] at hk; omega)⟩
    obtain ⟨a1, c1, e1, _⟩ := row_shape9 HO.out.1
    subst e1
    clear hown hgrow hnil
    go_wp2
    go_ret
    refine ⟨_, _, _, us, rfl, ?_, fun j u x hu hx => (HC.out j u x hu hx).2, HO.out.2⟩
    have h := HO.out.1
    rw [HK.out.1] at h ⊢
    exact h

set_option maxRecDepth 20000 in
set_option maxHeartbeats 1000000 in
/-- bytes.Clone. -/
theorem cloneS9 (v : Value) (xs : List UInt8) (w : World) (h : Bs w v xs) (hN : xs.length ≤ 140737488355328) :
    Calls Try.prog 36 #[v] w fun e w' => ∃ a m c, e = .returned (.slice a m c) ∧ w'.ownsRow w.heap.size 5 1 (.slice a m c) xs.length (bc xs) ∧ Below w.heap.size w w' := by
  have HV : Hid (Bs w v xs) := h
  obtain ⟨av, k, c, rfl, hk, hsl⟩ := h
  cases av with
  | none =>
    obtain ⟨h0, rfl⟩ := hsl.nil rfl
    obtain rfl : xs = [] := List.length_eq_zero_iff.1 h0
    obtain rfl : k = 0 := hk
    clear hsl
    have hq : ∀ W : World, (binOp .eql 66 (.slice none 0 0) (.slice none 0 0)).run Try.prog W = .ok (.bool true) W := fun W => Lib.run_eql_slice_nil W _ _ none 0 0 0 0 Try.underlying66
    go_enter Try.func36, Try.ntmps36
    go_wp2
    go_ret
    exact ⟨_, _, _, rfl, World.ownsRow_nil w _ _ _, Below.refl _ _⟩
  | some ad =>
    have hq : ∀ W : World, (binOp .eql 66 (.slice (some ad) k c) (.slice none 0 0)).run Try.prog W = .ok (.bool false) W := fun W => Lib.run_eql_slice_nil W _ _ (some ad) k c 0 0 Try.underlying66
    obtain ⟨i0, hi, hz0, hz1, hz2⟩ := info_parts infoByte
    have HC : Hid ((∀ (j : Nat) u, (bc xs)[j]? = some u → w.cell? (ad.add j) = some u) ∧ k = xs.length) := ⟨fun j u hu => hsl.cells ad rfl j u hu, hk⟩
    clear hsl hk
    go_enter Try.func36, Try.ntmps36
    go_wp2_with (at_builtin; refine wpList_append_own _ rfl _ _ 66 rfl w.heap.size 5 i0 (.int .u8 0) 1 1 Try.underlying66 hi hz0 hz1 hz2 rfl (by decide) _ _ _ rfl (World.ownsRow_made w #[] 0 (Nat.le_refl _) (Nat.zero_le _) (by simp)) ad k c (bc xs) rfl ?qc1 ?qc2 ?qc3 ?qc4 ?qc5 ?qc6 ?_)
    case qc1 => rw [bc_len, HC.out.2, Nat.mul_one]
    case qc2 =>
      intro j u hj
      exact Lib.cell?_alloc_some _ (HC.out.1 j u hj)
    case qc3 => exact bc_one xs
    case qc4 => rw [Nat.zero_add, HC.out.2]; unfold maxLen; omega
    case qc5 => rw [Nat.zero_add, HC.out.2]; omega
    case qc6 => simp
    intro v' w1 hown hgrow hnil
    have HO : Hid (w1.ownsRow w.heap.size 5 1 v' k (bc xs) ∧ Below w.heap.size w w1) := ⟨by simpa using hown, ((Below.refl _ w).alloc (Nat.le_refl _) _).grown hgrow (by simp) (by intro k hk; simp [Value.ownBlock] at hk; omega)⟩
    obtain ⟨a1, c1, e1, _⟩ := row_shape9 HO.out.1
    subst e1
    clear hown hgrow hnil
    go_wp2
    go_ret
    refine ⟨_, _, _, rfl, ?_, HO.out.2⟩
    have h := HO.out.1
    rw [HC.out.2] at h ⊢
    exact h
end Go.Proofs.Ytkldecdjokfajaa
