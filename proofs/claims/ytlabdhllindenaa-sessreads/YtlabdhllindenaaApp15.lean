/- Sessions that are handed to 'append'. -/
import Derived.Test.YtlabdhllindenaaSess15
import Derived.Lib.OwnBridge
namespace Go.Proofs.Ytlabdhllindenaa
open Go.RowKit

def Soc (w : World) (u : Value) (ms : List Sq.One) : Prop := (u = .slice none 0 0 ∧ ms = []) ∨ ∃ g o c, u = .slice (some ⟨g, o, none⟩) ms.length c ∧ ∀ (j : Nat) y, (ocs ms)[j]? = some y → w.cell? ⟨g, o + j, none⟩ = some y
theorem Soc.below {w w' : World} {u : Value} {ms : List Sq.One} (h : Soc w u ms) (hb : Below w.heap.size w w') : Soc w' u ms := by
  rcases h with h | ⟨g, o, c, h1, h2⟩
  · exact Or.inl h
  · exact Or.inr ⟨g, o, c, h1, fun j y hy => Below.kept hb (h2 j y hy)⟩
theorem Soc.one {w : World} {sb : Nat} {x : Sq.One} {t : TypeId} (h : Cb w sb (oc x) t) : Soc w (.slice (some ⟨sb, 0, none⟩) 1 1) [x] := by
  refine Or.inr ⟨sb, 0, 1, rfl, fun j y hy => ?_⟩
  have e : ocs [x] = oc x := by unfold ocs; simp
  rw [e] at hy
  rw [Nat.zero_add, h.cell j]
  exact hy
theorem Soc.row {w : World} {B t : Nat} {v : Value} {l : List Sq.One} (h : w.ownsRow B t 3 v l.length (ocs l)) : Soc w v l := by
  rcases h.2 with ⟨rfl, h0⟩ | ⟨g, c, cur, rfl, _⟩
  · exact Or.inl ⟨rfl, List.length_eq_zero_iff.1 h0⟩
  · refine Or.inr ⟨g, 0, c, rfl, fun j y hy => ?_⟩
    have hj := (List.getElem?_eq_some_iff.1 hy).1
    rw [ocs_len] at hj
    rw [Nat.zero_add, h.cellAt _ hj]
    exact hy
/-- A part of a row: 's[i:j]'. -/
theorem Soc.part {w : World} {B t : Nat} {g N c : Nat} {l : List Sq.One} (h : w.ownsRow B t 3 (.slice (some ⟨g, 0, none⟩) N c) N (ocs l)) (hN : N = l.length) (i k c' : Nat) (hi : i + k ≤ N) : Soc w (.slice (some ⟨g, i * 3, none⟩) k c') ((l.drop i).take k) := by
  refine Or.inr ⟨g, i * 3, c', by rw [List.length_take, List.length_drop, Nat.min_eq_left (by omega)], fun j y hy => ?_⟩
  have hj := (List.getElem?_eq_some_iff.1 hy).1
  rw [ocs_len, List.length_take, List.length_drop, Nat.min_eq_left (by omega)] at hj
  rw [h.cellAt _ (by omega)]
  rw [← ocs_take, ← ocs_drop, List.getElem?_take, if_pos hj, List.getElem?_drop] at hy
  exact hy
theorem wp_oc15 {T LT : TypeId} (hT : (Try.prog.info? T).map (fun i => (i.zero, i.size, i.bytes)) = some (some (.agg #[.int .i64 0, .int .i64 0, .int .i64 0]), 3, 24)) (hU : Try.prog.underlying LT = some (.slice T)) {o : Oper} {a : Act} {K : Act → World → Prop} {Q : Exit → Act → World → Prop} (s x : Operand)
    (ho : o.op = .call { callee := .builtin .append, args := #[s, x], argTypes := #[LT, LT] })
    (B : Nat) (v u : Value) (es ms : List Sq.One) (w : World) (hs : a.eval s = v) (hx : a.eval x = u) (hown : w.ownsRow B T 3 v es.length (ocs es)) (hB : B ≤ w.heap.size) (hb : Soc w u ms) (hN : es.length + ms.length ≤ 3000)
    (h : ∀ v' w', w'.ownsRow B T 3 v' (es ++ ms).length (ocs (es ++ ms)) → Below B w w' → w.grownBy w' v.ownBlock → (v'.ownBlock = v.ownBlock ∨ v'.ownBlock = some w.heap.size) → K (a.put o.dst v') w') : o.wp Try.prog a w K Q := by
  obtain ⟨i0, hi, hz0, hz1, hz2⟩ := info_parts hT
  rcases hb with ⟨rfl, rfl⟩ | ⟨g, ob, c, rfl, hcs⟩
  · have hrun := run_append_owned_none (P := Try.prog) (w := w) B LT o.type T i0 3 hU hi v es.length (ocs es) hown
    have hx2 : a.eval x = .slice none 0 0 := hx
    unfold Oper.wp
    simp [execOp, ho, resolve, invoke, builtin, hs, hx2, hrun, Result.andThen]
    exact h v w (by simpa using hown) (Below.refl _ _) ⟨rfl, rfl, rfl, Nat.le_refl _, fun _ _ _ => rfl⟩ (Or.inl rfl)
  · have hcell : ∀ j y, (ocs ms)[j]? = some y → w.cell? ((⟨g, ob, none⟩ : Addr).add j) = some y := fun j y hy => by
      rw [Addr.add_lit]
      exact hcs j y hy
    obtain ⟨v', w', hr, h2, h3, h4, h5⟩ := run_append_own_at (P := Try.prog) w B LT o.type T i0 _ 3 24 hU hi hz0 hz1 hz2 rfl (by decide) v es.length (ocs es) hown ⟨g, ob, none⟩ ms.length c (ocs ms) (ocs_len ms) hcell (ocs_one ms) (by unfold maxLen; omega) (by omega) hB
    unfold Oper.wp execOp
    simp only [ho, resolve, invoke, builtin, Sem.run_bind, Sem.run_pure, Result.andThen_ok, List.map_toArray, List.map_cons, List.map_nil, hs, hx, hr]
    exact h v' w' (by rw [ocs_app, List.length_append]; exact h2) ((Below.refl _ w).grown h3 hB (fun k hk => (hown.lt k hk).1)) h3 h5
/-- The same, the slot's number being named. -/
theorem wp_ocd15 {T LT : TypeId} (hT : (Try.prog.info? T).map (fun i => (i.zero, i.size, i.bytes)) = some (some (.agg #[.int .i64 0, .int .i64 0, .int .i64 0]), 3, 24)) (hU : Try.prog.underlying LT = some (.slice T)) {o : Oper} {a : Act} {K : Act → World → Prop} {Q : Exit → Act → World → Prop} (s x : Operand)
    (ho : o.op = .call { callee := .builtin .append, args := #[s, x], argTypes := #[LT, LT] }) (d : Nat) (hd : o.dst = some d)
    (B : Nat) (v u : Value) (es ms : List Sq.One) (w : World) (hs : a.eval s = v) (hx : a.eval x = u) (hown : w.ownsRow B T 3 v es.length (ocs es)) (hB : B ≤ w.heap.size) (hb : Soc w u ms) (hN : es.length + ms.length ≤ 3000)
    (h : ∀ v' w', w'.ownsRow B T 3 v' (es ++ ms).length (ocs (es ++ ms)) → Below B w w' → w.grownBy w' v.ownBlock → (v'.ownBlock = v.ownBlock ∨ v'.ownBlock = some w.heap.size) → K { a with tmps := a.tmps.setIfInBounds d v' } w') : o.wp Try.prog a w K Q :=
  wp_oc15 hT hU s x ho B v u es ms w hs hx hown hB hb hN (fun v' w' h1 h2 h3 h4 => by
    have k := h v' w' h1 h2 h3 h4
    unfold Act.put
    rw [hd]
    exact k)
theorem wpList_oc15 {T LT : TypeId} (hT : (Try.prog.info? T).map (fun i => (i.zero, i.size, i.bytes)) = some (some (.agg #[.int .i64 0, .int .i64 0, .int .i64 0]), 3, 24)) (hU : Try.prog.underlying LT = some (.slice T)) {ops : Array Oper} {rest : List Oper} {o : Oper} {a : Act} {Q : Exit → Act → World → Prop} (hgd : o.guard = none) (s x : Operand)
    (ho : o.op = .call { callee := .builtin .append, args := #[s, x], argTypes := #[LT, LT] })
    (B : Nat) (v u : Value) (es ms : List Sq.One) (w : World) (hs : a.eval s = v) (hx : a.eval x = u) (hown : w.ownsRow B T 3 v es.length (ocs es)) (hB : B ≤ w.heap.size) (hb : Soc w u ms) (hN : es.length + ms.length ≤ 3000)
    (h : ∀ v' w', w'.ownsRow B T 3 v' (es ++ ms).length (ocs (es ++ ms)) → Below B w w' → w.grownBy w' v.ownBlock → (v'.ownBlock = v.ownBlock ∨ v'.ownBlock = some w.heap.size) → wpList Try.prog ops Q rest (a.put o.dst v') w') : wpList Try.prog ops Q (o :: rest) a w :=
  wpList_plain hgd fun _ hK => wp_oc15 hT hU s x ho B v u es ms w hs hx hown hB hb hN (fun v' w' h1 h2 h3 h4 => hK _ _ (h v' w' h1 h2 h3 h4))

/-! Numbers. -/
def ic (zs : List Int) : List Value := zs.map fun z => .int .i64 z
theorem ic_len (zs : List Int) : (ic zs).length = zs.length := by simp [ic]
theorem ic_app (a b : List Int) : ic (a ++ b) = ic a ++ ic b := by simp [ic]
theorem ic_one (zs : List Int) : ∀ u ∈ ic zs, u.oneCell' = true := by
  intro u hu
  obtain ⟨_, _, rfl⟩ := List.mem_map.1 hu
  rfl
theorem Bi.own {w : World} {B : Nat} {v : Value} {zs : List Int} (h : w.ownsRow B 2 1 v zs.length (ic zs)) : Bi w v zs := by
  obtain ⟨a, c, rfl, hc, ha⟩ := row_form h
  refine ⟨a, zs.length, c, rfl, rfl, fun j z hz => ?_⟩
  have hj := (List.getElem?_eq_some_iff.1 hz).1
  obtain ⟨g, rfl⟩ := ha (by omega)
  refine ⟨g, 0, rfl, ?_⟩
  rw [Nat.zero_add, h.cellAt _ (by omega)]
  simp [ic, hz]
/-- Numbers onto an owned row. -/
theorem wpList_ic15 {ops : Array Oper} {rest : List Oper} {o : Oper} {a : Act} {Q : Exit → Act → World → Prop} (hgd : o.guard = none) (s x : Operand)
    (ho : o.op = .call { callee := .builtin .append, args := #[s, x], argTypes := #[29, 29] })
    (B : Nat) (v : Value) (l ms : List Int) (sb c : Nat) (t : TypeId) (w : World) (hs : a.eval s = v) (hx : a.eval x = .slice (some ⟨sb, 0, none⟩) ms.length c) (hown : w.ownsRow B 2 1 v l.length (ic l)) (hB : B ≤ w.heap.size) (hc : Cb w sb (ic ms) t) (hN : l.length + ms.length ≤ 3000)
    (h : ∀ v' w', w'.ownsRow B 2 1 v' (l ++ ms).length (ic (l ++ ms)) → Below B w w' → w.grownBy w' v.ownBlock → (v'.ownBlock = v.ownBlock ∨ v'.ownBlock = some w.heap.size) → wpList Try.prog ops Q rest (a.put o.dst v') w') : wpList Try.prog ops Q (o :: rest) a w := by
  refine wpList_plain hgd fun K hK => ?_
  obtain ⟨i0, hi, hz0, hz1, hz2⟩ := info_parts infoI64
  have hcell : ∀ j u, (ic ms)[j]? = some u → w.cell? ((⟨sb, 0, none⟩ : Addr).add j) = some u := fun j u hu => by
    rw [Addr.add_lit, Nat.zero_add, hc.cell j]
    exact hu
  obtain ⟨v', w', hr, h2, h3, h4, h5⟩ := run_append_own_at (P := Try.prog) w B 29 o.type 2 i0 _ 1 8 Try.underlying29 hi hz0 hz1 hz2 rfl (by decide) v l.length (ic l) hown ⟨sb, 0, none⟩ ms.length c (ic ms) (by rw [ic_len]; omega) hcell (ic_one ms) (by unfold maxLen; omega) (by omega) hB
  unfold Oper.wp execOp
  simp only [ho, resolve, invoke, builtin, Sem.run_bind, Sem.run_pure, Result.andThen_ok, List.map_toArray, List.map_cons, List.map_nil, hs, hx, hr]
  exact hK _ _ (h v' w' (by rw [ic_app, List.length_append]; exact h2) ((Below.refl _ w).grown h3 hB (fun k hk => (hown.lt k hk).1)) h3 h5)
end Go.Proofs.Ytlabdhllindenaa
