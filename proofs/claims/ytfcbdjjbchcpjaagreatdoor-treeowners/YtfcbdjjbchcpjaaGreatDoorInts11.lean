/- Numbers that a call owns, and numbers behind them (stage 9's, for any seat). -/
import Derived.Test.YtfcbdjjbchcpjaaGreatDoorBas
import Derived.Deep.Onto
namespace Go.Proofs.YtfcbdjjbchcpjaaGreatDoor
open Go.RowKit

theorem infoI64x : (Tryz.prog.info? 2).map (fun i => (i.zero, i.size, i.bytes)) = some (some (.int .i64 0), 1, 8) := by kernel_rfl
abbrev ic11 (zs : List Int) : List Value := zs.map (Value.int .i64)

/-- 'append(want, x...)' of numbers, wherever x lies. -/
theorem append_ints11 {ops : Array Oper} {rest : List Oper} {o : Oper} {a : Act} {Q : Exit → Act → World → Prop} (hgd : o.guard = none) (s x : Operand)
    (ho : o.op = .call { callee := .builtin .append, args := #[s, x], argTypes := #[69, 69] })
    (B : Nat) (v u : Value) (n : Nat) (zs ys : List Int) (w : World) (hs : a.eval s = v) (hx : a.eval x = u) (hown : w.ownsRow B 2 1 v n (ic11 zs)) (hB : B ≤ w.heap.size) (hb : Bi w u ys) (hu : u = .slice none 0 0 ∨ ∃ ad k c, u = .slice (some ad) k c) (hN : n + ys.length ≤ 1000000)
    (h : ∀ v' w', w'.ownsRow B 2 1 v' (n + ys.length) (ic11 (zs ++ ys)) → w.grownBy w' v.ownBlock → (v'.ownBlock = v.ownBlock ∨ v'.ownBlock = some w.heap.size) → wpList Tryz.prog ops Q rest (a.put o.dst v') w') : wpList Tryz.prog ops Q (o :: rest) a w := by
  obtain ⟨i0, hi, hz0, hz1, hz2⟩ := info_parts infoI64x
  obtain ⟨av, k, c, rfl, hk, hc⟩ := hb
  rcases hu with e | ⟨ad, k', c', e⟩
  · simp only [Value.slice.injEq] at e
    obtain ⟨rfl, rfl, rfl⟩ := e
    obtain rfl : ys = [] := List.length_eq_zero_iff.1 hk.symm
    exact wpList_append_own_none hgd s x 69 ho B 2 i0 1 Tryz.underlying69 hi v n (ic11 zs) hs hown hx (h _ _ (by simpa using hown) ⟨rfl, rfl, rfl, Nat.le_refl _, fun _ _ _ => rfl⟩ (Or.inl rfl))
  · simp only [Value.slice.injEq] at e
    obtain ⟨rfl, _, _⟩ := e
    subst hk
    refine wpList_plain hgd fun _ hK => ?_
    have hcell : ∀ j y, (ic11 ys)[j]? = some y → w.cell? (ad.add j) = some y := fun j y hy => by
      rw [List.getElem?_map] at hy
      cases hz : ys[j]? with
      | none => rw [hz] at hy; cases hy
      | some z =>
        rw [hz] at hy
        simp only [Option.map_some, Option.some.injEq] at hy
        obtain ⟨g, o2, e, h1⟩ := hc j z hz
        simp only [Option.some.injEq] at e
        subst e
        have ea : (⟨g, o2, none⟩ : Addr).add j = ⟨g, o2 + j, none⟩ := by
          simp only [Addr.add]
          split <;> simp_all
        rw [← hy, ea]
        exact h1
    obtain ⟨v', w', hr, h2, h3, h4, h5⟩ := run_append_own_at (P := Tryz.prog) w B 69 o.type 2 i0 (.int .i64 0) 1 8 Tryz.underlying69 hi hz0 hz1 hz2 rfl (by decide) v n (ic11 zs) hown ad ys.length c (ic11 ys) (by simp [ic11]) hcell (fun y hy => by obtain ⟨z, _, rfl⟩ := List.mem_map.1 hy; rfl) (by unfold maxLen; omega) (by omega) hB
    unfold Oper.wp execOp
    simp only [ho, resolve, invoke, builtin, Sem.run_bind, Sem.run_pure, Result.andThen_ok, List.map_toArray, List.map_cons, List.map_nil, hs, hx, hr]
    exact hK _ _ (h v' w' (by rw [show ic11 (zs ++ ys) = ic11 zs ++ ic11 ys from List.map_append]; exact h2) h3 h5)
end Go.Proofs.YtfcbdjjbchcpjaaGreatDoor
