/- One more Op onto a row of one's own. -/
import Derived.Test.YtfcbdjjbchcpjaaGreatDoorPlainT
import Derived.Test.YtfcbdjjbchcpjaaGreatDoorSpecs11
import Derived.Maps.AppendAt
namespace Go.Proofs.YtfcbdjjbchcpjaaGreatDoor
open Go.RowKit
/-- One more Op onto an owned row; where the row lies then. -/
theorem wpList_op12 {ops : Array Oper} {rest : List Oper} {o : Oper} {a : Act} {Q : Exit → Act → World → Prop} (hgd : o.guard = none) (s x : Operand)
    (ho : o.op = .call { callee := .builtin .append, args := #[s, x], argTypes := #[76, 76] })
    (B : Nat) (v : Value) (os : List O) (p : O) (sb : Nat) (w : World) (hs : a.eval s = v) (hx : a.eval x = .slice (some ⟨sb, 0, none⟩) 1 1) (hown : w.ownsRow B 34 5 v os.length (os.flatMap oc)) (hB : B ≤ w.heap.size) (hc : Cb w sb (oc p) 34) (hN : os.length ≤ 3000)
    (h : ∀ v' w', w'.ownsRow B 34 5 v' (os ++ [p]).length ((os ++ [p]).flatMap oc) → w.grownBy w' v.ownBlock → (v'.ownBlock = v.ownBlock ∨ v'.ownBlock = some w.heap.size) → wpList Tryz.prog ops Q rest (a.put o.dst v') w') : wpList Tryz.prog ops Q (o :: rest) a w := by
  refine wpList_plain hgd fun _ hK => ?_
  obtain ⟨i0, hi, hz0, hz1, hz2⟩ := info_parts infoOp
  have hcell : ∀ j y, (oc p)[j]? = some y → w.cell? ((⟨sb, 0, none⟩ : Addr).add j) = some y := fun j y hy => by
    rw [Addr.add_lit, Nat.zero_add, hc.cell j]
    exact hy
  have h1 : ∀ u ∈ oc p, u.oneCell' = true := fun u hu => by
    simp only [oc, List.mem_cons, List.not_mem_nil, or_false] at hu
    rcases hu with rfl | rfl | rfl | rfl | rfl <;> rfl
  obtain ⟨v', w', hr, h2, h3, h4, h5⟩ := run_append_own_at (P := Tryz.prog) w B 76 o.type 34 i0 _ 5 _ Tryz.underlying76 hi hz0 hz1 hz2 rfl (by decide) v os.length (os.flatMap oc) hown ⟨sb, 0, none⟩ 1 1 (oc p) rfl hcell h1 (by unfold maxLen; omega) (by omega) hB
  unfold Oper.wp execOp
  simp only [ho, resolve, invoke, builtin, Sem.run_bind, Sem.run_pure, Result.andThen_ok, List.map_toArray, List.map_cons, List.map_nil, hs, hx, hr]
  refine hK _ _ (h v' w' ?_ h3 h5)
  rw [List.flatMap_append, List.length_append]
  simpa using h2

end Go.Proofs.YtfcbdjjbchcpjaaGreatDoor
