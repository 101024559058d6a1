/- What 'append' makes of numbers, bytes and rows within a drawn region; where a message's parts lie. -/
import Derived.Test.YtkldecdjokfajaaRefC9
namespace Go.Proofs.Ytkldecdjokfajaa
open Go.RowKit

theorem infoNum : (Try.prog.info? 2).map (fun i => (i.zero, i.size, i.bytes)) = some (some (.int .i64 0), 1, 8) := by kernel_rfl

/-- 'append(s, x...)' of numbers. -/
theorem wp_ints {o : Oper} {a : Act} {K : Act → World → Prop} {Q : Exit → Act → World → Prop} (s x : Operand)
    (ho : o.op = .call { callee := .builtin .append, args := #[s, x], argTypes := #[28, 28] })
    (B : Nat) (v u : Value) (zs ys : List Int) (w : World) (hs : a.eval s = v) (hx : a.eval x = u) (hown : w.ownsRow B 2 1 v zs.length (zs.map (Value.int .i64))) (hB : B ≤ w.heap.size) (hb : Bi w u ys) (hu : (∃ ad k c, u = .slice (some ad) k c) ∨ u = .slice none 0 0) (hN : zs.length + ys.length ≤ 10000000)
    (h : ∀ v' w', w'.ownsRow B 2 1 v' (zs ++ ys).length ((zs ++ ys).map (Value.int .i64)) → w.grownBy w' v.ownBlock → K (a.put o.dst v') w') : o.wp Try.prog a w K Q := by
  obtain ⟨i0, hi, hz0, hz1, hz2⟩ := info_parts infoNum
  obtain ⟨av, k, c, rfl, hk, hc⟩ := hb
  rcases hu with ⟨ad, k', c', e⟩ | e
  · simp only [Value.slice.injEq] at e
    obtain ⟨rfl, _, _⟩ := e
    subst hk
    have hcell : ∀ j y, (ys.map (Value.int .i64))[j]? = some y → w.cell? (ad.add j) = some y := fun j y hy => by
      rw [List.getElem?_map] at hy
      cases hz : ys[j]? with
      | none => rw [hz] at hy; cases hy
      | some z =>
        rw [hz] at hy
        simp only [Option.map_some, Option.some.injEq] at hy
        obtain ⟨g, o2, e, h1⟩ := hc j z hz
        simp only [Option.some.injEq] at e
        subst e
        rw [← hy, add_flat]
        exact h1
    obtain ⟨v', w', hr, h2, h3, _⟩ := run_append_own_at (P := Try.prog) w B 28 o.type 2 i0 (.int .i64 0) 1 8 Try.underlying28 hi hz0 hz1 hz2 rfl (by decide) v zs.length (zs.map (Value.int .i64)) hown ad ys.length c (ys.map (Value.int .i64)) (by simp) hcell (fun y hy => by obtain ⟨z, _, rfl⟩ := List.mem_map.1 hy; rfl) (by unfold maxLen; omega) (by omega) hB
    unfold Oper.wp execOp
    simp only [ho, resolve, invoke, builtin, Sem.run_bind, Sem.run_pure, Result.andThen_ok, List.map_toArray, List.map_cons, List.map_nil, hs, hx, hr]
    exact h v' w' (by rw [List.length_append, List.map_append]; exact h2) h3
  · simp only [Value.slice.injEq] at e
    obtain ⟨rfl, rfl, rfl⟩ := e
    obtain rfl : ys = [] := List.length_eq_zero_iff.1 hk.symm
    have hr := run_append_owned_none (P := Try.prog) (w := w) B 28 o.type 2 i0 1 Try.underlying28 hi v zs.length (zs.map (Value.int .i64)) hown
    unfold Oper.wp execOp
    simp only [ho, resolve, invoke, builtin, Sem.run_bind, Sem.run_pure, Result.andThen_ok, List.map_toArray, List.map_cons, List.map_nil, hs, hx, hr]
    exact h v w (by simpa using hown) ⟨rfl, rfl, rfl, Nat.le_refl _, fun _ _ _ => rfl⟩

/-- 'append(s, x...)' of bytes. -/
theorem wp_bs9 {o : Oper} {a : Act} {K : Act → World → Prop} {Q : Exit → Act → World → Prop} (s x : Operand)
    (ho : o.op = .call { callee := .builtin .append, args := #[s, x], argTypes := #[66, 66] })
    (B : Nat) (v u : Value) (xs ys : List UInt8) (w : World) (hs : a.eval s = v) (hx : a.eval x = u) (hown : w.ownsRow B 5 1 v xs.length (bc xs)) (hB : B ≤ w.heap.size) (hb : Bs w u ys) (hN : xs.length + ys.length ≤ 140737488355328)
    (h : ∀ v' w', w'.ownsRow B 5 1 v' (xs ++ ys).length (bc (xs ++ ys)) → w.grownBy w' v.ownBlock → K (a.put o.dst v') w') : o.wp Try.prog a w K Q := by
  obtain ⟨i0, hi, hz0, hz1, hz2⟩ := info_parts infoByte
  obtain ⟨ao, m, c, rfl, hm, hsl⟩ := hb
  cases ao with
  | none =>
    obtain ⟨h0, rfl⟩ := hsl.nil rfl
    obtain rfl : ys = [] := List.length_eq_zero_iff.1 h0
    obtain rfl : m = 0 := hm
    have hr := run_append_owned_none (P := Try.prog) (w := w) B 66 o.type 5 i0 1 Try.underlying66 hi v xs.length (bc xs) hown
    unfold Oper.wp execOp
    simp only [ho, resolve, invoke, builtin, Sem.run_bind, Sem.run_pure, Result.andThen_ok, List.map_toArray, List.map_cons, List.map_nil, hs, hx, hr]
    exact h v w (by simpa using hown) ⟨rfl, rfl, rfl, Nat.le_refl _, fun _ _ _ => rfl⟩
  | some ad =>
    subst hm
    obtain ⟨v', w', hr, h2, h3, _⟩ := run_append_own_at (P := Try.prog) w B 66 o.type 5 i0 (.int .u8 0) 1 1 Try.underlying66 hi hz0 hz1 hz2 rfl (by decide) v xs.length (bc xs) hown ad ys.length c (bc ys) (by rw [bc_len]; omega) (hsl.cells ad rfl) (bc_one _) (by unfold maxLen; omega) (by omega) hB
    unfold Oper.wp execOp
    simp only [ho, resolve, invoke, builtin, Sem.run_bind, Sem.run_pure, Result.andThen_ok, List.map_toArray, List.map_cons, List.map_nil, hs, hx, hr]
    exact h v' w' (by rw [List.length_append, bc_app]; exact h2) h3

/-- 'append(l, x)' of rows of bytes. -/
theorem wp_row9 {o : Oper} {a : Act} {K : Act → World → Prop} {Q : Exit → Act → World → Prop} (s x : Operand)
    (ho : o.op = .call { callee := .builtin .append, args := #[s, x], argTypes := #[29, 29] })
    (B : Nat) (v u : Value) (ls : List (List UInt8)) (xs : List UInt8) (q1 : Nat) (w : World) (hs : a.eval s = v) (hx : a.eval x = .slice (some ⟨q1, 0, none⟩) 1 1) (hL : Lo w B v ls) (hB : B ≤ w.heap.size) (hc : w.cell? ⟨q1, 0, none⟩ = some u) (hu : w.ownsRow B 5 1 u xs.length (bc xs)) (hN : ls.length ≤ 3000000)
    (h : ∀ v' w', Lo w' B v' (ls ++ [xs]) → w.grownBy w' v.ownBlock → (∃ a n c, v' = .slice a n c) → (∀ k, v.ownBlock = some k → B ≤ k) → K (a.put o.dst v') w') : o.wp Try.prog a w K Q := by
  obtain ⟨us, h1, h2⟩ := hL
  have hul : us.length = ls.length := by have := h1.1; omega
  obtain ⟨i0, hi, hz0, hz1, hz2⟩ := info_parts infoBytes
  obtain ⟨v', w', hr, h3, h4, h5, h6⟩ := run_append_own_at (P := Try.prog) w B 29 o.type 66 i0 (.slice none 0 0) 1 24 Try.underlying29 hi hz0 hz1 hz2 rfl (by decide) v ls.length us h1 ⟨q1, 0, none⟩ 1 1 [u] rfl (fun j y hj => by
    match j, hj with
    | 0, hj => simp at hj; subst hj; simpa [Addr.add] using hc
    | (j + 1), hj => simp at hj) (fun y hy => by simp at hy; subst hy; exact own_one hu) (by unfold maxLen; omega) (by omega) hB
  unfold Oper.wp execOp
  simp only [ho, resolve, invoke, builtin, Sem.run_bind, Sem.run_pure, Result.andThen_ok, List.map_toArray, List.map_cons, List.map_nil, hs, hx, hr]
  obtain ⟨a4, c4, e4, _⟩ := row_shape9 h3
  refine h v' w' ⟨us ++ [u], by rw [List.length_append]; exact h3, fun j ys y hy hyu => ?_⟩ h4 ⟨a4, _, c4, e4⟩ (fun k e => (h1.lt k e).1)
  by_cases hj : j < ls.length
  · rw [List.getElem?_append_left hj] at hy
    rw [List.getElem?_append_left (by omega)] at hyu
    have h7 := h2 j ys y hy hyu
    exact h7.kept h4 (own_kinds h1 h7 (by decide))
  · have hj2 : j = ls.length := by
      have := (List.getElem?_eq_some_iff.1 hy).1
      simp at this
      omega
    subst hj2
    rw [List.getElem?_append_right (Nat.le_refl _), Nat.sub_self] at hy
    rw [List.getElem?_append_right (by omega), hul, Nat.sub_self] at hyu
    simp at hy hyu
    subst hy hyu
    exact hu.kept h4 (own_kinds h1 hu (by decide))

/-- Parts lie in blocks that are there. -/
theorem Mp.bound {w : World} {m : Nq.Ms} {a b : Value} {K : Nat → Prop} (h : Mp w m a b K) : Mp w m a b (fun k => K k ∧ k < w.heap.size) := by
  refine ⟨?_, ?_⟩
  · obtain ⟨av, k, c, hv, hl, hc⟩ := h.ns
    refine ⟨av, k, c, hv, hl, fun j z hz => ?_⟩
    obtain ⟨g, o, ha, hcell, hg⟩ := hc j z hz
    exact ⟨g, o, ha, hcell, hg, World.block_lt_of_cell? w _ hcell⟩
  · obtain ⟨av, k, c, hv, hl, hc⟩ := h.bs
    refine ⟨av, k, c, hv, hl, fun j z hz => ?_⟩
    obtain ⟨g, o, u, ha, hcell, hb, hg, hu⟩ := hc j z hz
    refine ⟨g, o, u, ha, hcell, hb, ⟨hg, World.block_lt_of_cell? w _ hcell⟩, fun h0 k e => ⟨hu h0 k e, ?_⟩⟩
    obtain ⟨g2, o2, n2, c2, e2, _, _, hc2⟩ := hb.plain h0
    have hlt := World.block_lt_of_cell? w _ (hc2 0 z[0] (List.getElem?_eq_getElem h0))
    rw [e2] at e
    simp only [Value.ownBlock, Option.some.injEq] at e
    rw [← e]
    exact hlt
end Go.Proofs.Ytkldecdjokfajaa
