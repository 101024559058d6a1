/- Held paths in a row: two cells each; what is handed to 'append'. -/
import Derived.Test.YtadgjinlblloiaaDoorPlainL17
import Derived.Test.YtadgjinlblloiaaDoorTakeAt
import Derived.Test.YtadgjinlblloiaaDoorRowOps
import Derived.Test.YtadgjinlblloiaaDoorHeld2
import Derived.Lib.OwnBridge
namespace Go.Proofs.YtadgjinlblloiaaDoor
open Go.RowKit

/-- The two cells. -/
def lkc (x : Lk.Hd) : List Value := [.string x.path, .int .i64 x.who]
def lkv (x : Lk.Hd) : Value := .agg #[.string x.path, .int .i64 x.who]
def lkcs (l : List Lk.Hd) : List Value := l.flatMap lkc
theorem lkcs_len (l : List Lk.Hd) : (lkcs l).length = l.length * 2 := by
  unfold lkcs
  induction l with
  | nil => rfl
  | cons x l ih => rw [List.flatMap_cons, List.length_append, ih, List.length_cons]; simp only [lkc, List.length_cons, List.length_nil]; omega
theorem lkcs_app (a b : List Lk.Hd) : lkcs (a ++ b) = lkcs a ++ lkcs b := by unfold lkcs; rw [List.flatMap_append]
theorem lkcs_one (l : List Lk.Hd) : ∀ u ∈ lkcs l, u.oneCell' = true := by
  intro u hu
  obtain ⟨x, _, hx⟩ := List.mem_flatMap.1 hu
  simp only [lkc, List.mem_cons, List.not_mem_nil, or_false] at hx
  rcases hx with rfl | rfl <;> rfl
theorem lkcs_cell : ∀ (l : List Lk.Hd) (j : Nat) (x : Lk.Hd) (i : Nat) (u : Value), l[j]? = some x → (lkc x)[i]? = some u → (lkcs l)[j * 2 + i]? = some u
  | [], j, x, i, u, h, _ => by simp at h
  | y :: l, 0, x, i, u, h, hu => by
    simp at h
    subst h
    have hi : i < 2 := (List.getElem?_eq_some_iff.1 hu).1
    show (lkc y ++ lkcs l)[0 * 2 + i]? = some u
    rw [List.getElem?_append_left (by simp [lkc]; omega)]
    simpa using hu
  | y :: l, j + 1, x, i, u, h, hu => by
    have h3 : (lkc y).length = 2 := rfl
    show (lkc y ++ lkcs l)[(j + 1) * 2 + i]? = some u
    rw [List.getElem?_append_right (by rw [h3]; omega), h3, show (j + 1) * 2 + i - 2 = j * 2 + i by omega]
    exact lkcs_cell l j x i u (by simpa using h) hu
theorem lkcs_take (l : List Lk.Hd) (k : Nat) : (lkcs l).take (k * 2) = lkcs (l.take k) := by
  induction l generalizing k with
  | nil => simp [lkcs]
  | cons x l ih =>
    cases k with
    | zero => simp [lkcs]
    | succ k =>
      show (lkc x ++ lkcs l).take ((k + 1) * 2) = lkc x ++ lkcs (l.take k)
      rw [← ih k, List.take_append, List.take_of_length_le (by show 2 ≤ _; omega), show (k + 1) * 2 - (lkc x).length = k * 2 by show (k + 1) * 2 - 2 = _; omega]
theorem lkcs_drop (l : List Lk.Hd) (k : Nat) : (lkcs l).drop (k * 2) = lkcs (l.drop k) := by
  induction l generalizing k with
  | nil => simp [lkcs]
  | cons x l ih =>
    cases k with
    | zero => simp [lkcs]
    | succ k =>
      show (lkc x ++ lkcs l).drop ((k + 1) * 2) = lkcs (l.drop k)
      rw [← ih k, List.drop_append, List.drop_of_length_le (by show 2 ≤ _; omega), List.nil_append, show (k + 1) * 2 - (lkc x).length = k * 2 by show (k + 1) * 2 - 2 = _; omega]
/-- The cells of one in a row. -/
theorem row_at17 {w : World} {T B g N c : Nat} {l : List Lk.Hd} (h : w.ownsRow B T 2 (.slice (some ⟨g, 0, none⟩) N c) N (lkcs l)) {j : Nat} {x : Lk.Hd} (hx : l[j]? = some x) : w.cell? ⟨g, j * 2, none⟩ = some (.string x.path) ∧ w.cell? ⟨g, j * 2 + 1, none⟩ = some (.int .i64 x.who) := by
  have hj := (List.getElem?_eq_some_iff.1 hx).1
  have hN : l.length * 2 = N * 2 := by rw [← lkcs_len]; exact h.1
  have key : ∀ i u, i < 2 → (lkc x)[i]? = some u → w.cell? ⟨g, j * 2 + i, none⟩ = some u := fun i u hi hu => by
    rw [h.cellAt _ (by omega)]
    exact lkcs_cell l j x i u hx hu
  exact ⟨key 0 _ (by decide) rfl, key 1 _ (by decide) rfl⟩
def Slk (w : World) (u : Value) (ms : List Lk.Hd) : Prop := (u = .slice none 0 0 ∧ ms = []) ∨ ∃ g o c, u = .slice (some ⟨g, o, none⟩) ms.length c ∧ ∀ (j : Nat) y, (lkcs ms)[j]? = some y → w.cell? ⟨g, o + j, none⟩ = some y
theorem Slk.below {w w' : World} {u : Value} {ms : List Lk.Hd} (h : Slk w u ms) (hb : Below w.heap.size w w') : Slk w' u ms := by
  rcases h with h | ⟨g, o, c, h1, h2⟩
  · exact Or.inl h
  · exact Or.inr ⟨g, o, c, h1, fun j y hy => Below.kept hb (h2 j y hy)⟩
theorem Slk.one {w : World} {sb : Nat} {x : Lk.Hd} {t : TypeId} (h : Cb w sb (lkc x) t) : Slk w (.slice (some ⟨sb, 0, none⟩) 1 1) [x] := by
  refine Or.inr ⟨sb, 0, 1, rfl, fun j y hy => ?_⟩
  have e : lkcs [x] = lkc x := by unfold lkcs; simp
  rw [e] at hy
  rw [Nat.zero_add, h.cell j]
  exact hy
theorem Slk.row {w : World} {B t : Nat} {v : Value} {l : List Lk.Hd} (h : w.ownsRow B t 2 v l.length (lkcs l)) : Slk w v l := by
  rcases h.2 with ⟨rfl, h0⟩ | ⟨g, c, cur, rfl, _⟩
  · exact Or.inl ⟨rfl, List.length_eq_zero_iff.1 h0⟩
  · refine Or.inr ⟨g, 0, c, rfl, fun j y hy => ?_⟩
    have hj := (List.getElem?_eq_some_iff.1 hy).1
    rw [lkcs_len] at hj
    rw [Nat.zero_add, h.cellAt _ hj]
    exact hy
/-- A part of a row: 's[i:j]'. -/
theorem Slk.part {w : World} {B t : Nat} {g N c : Nat} {l : List Lk.Hd} (h : w.ownsRow B t 2 (.slice (some ⟨g, 0, none⟩) N c) N (lkcs l)) (hN : N = l.length) (i k c' : Nat) (hi : i + k ≤ N) : Slk w (.slice (some ⟨g, i * 2, none⟩) k c') ((l.drop i).take k) := by
  refine Or.inr ⟨g, i * 2, c', by rw [List.length_take, List.length_drop, Nat.min_eq_left (by omega)], fun j y hy => ?_⟩
  have hj := (List.getElem?_eq_some_iff.1 hy).1
  rw [lkcs_len, List.length_take, List.length_drop, Nat.min_eq_left (by omega)] at hj
  rw [h.cellAt _ (by omega)]
  rw [← lkcs_take, ← lkcs_drop, List.getElem?_take, if_pos hj, List.getElem?_drop] at hy
  exact hy
theorem wp_lkc17 {T LT : TypeId} (hT : (Tryd.prog.info? T).map (fun i => (i.zero, i.size, i.bytes)) = some (some (.agg #[.string ⟨#[]⟩, .int .i64 0]), 2, 24)) (hU : Tryd.prog.underlying LT = some (.slice T)) {o : Oper} {a : Act} {K : Act → World → Prop} {Q : Exit → Act → World → Prop} (s x : Operand)
    (ho : o.op = .call { callee := .builtin .append, args := #[s, x], argTypes := #[LT, LT] })
    (B : Nat) (v u : Value) (es ms : List Lk.Hd) (w : World) (hs : a.eval s = v) (hx : a.eval x = u) (hown : w.ownsRow B T 2 v es.length (lkcs es)) (hB : B ≤ w.heap.size) (hb : Slk w u ms) (hN : es.length + ms.length ≤ 3000)
    (h : ∀ v' w', w'.ownsRow B T 2 v' (es ++ ms).length (lkcs (es ++ ms)) → Below B w w' → w.grownBy w' v.ownBlock → (v'.ownBlock = v.ownBlock ∨ v'.ownBlock = some w.heap.size) → K (a.put o.dst v') w') : o.wp Tryd.prog a w K Q := by
  obtain ⟨i0, hi, hz0, hz1, hz2⟩ := info_parts hT
  rcases hb with ⟨rfl, rfl⟩ | ⟨g, ob, c, rfl, hcs⟩
  · have hrun := run_append_owned_none (P := Tryd.prog) (w := w) B LT o.type T i0 2 hU hi v es.length (lkcs es) hown
    have hx2 : a.eval x = .slice none 0 0 := hx
    unfold Oper.wp
    simp [execOp, ho, resolve, invoke, builtin, hs, hx2, hrun, Result.andThen]
    exact h v w (by simpa using hown) (Below.refl _ _) ⟨rfl, rfl, rfl, Nat.le_refl _, fun _ _ _ => rfl⟩ (Or.inl rfl)
  · have hcell : ∀ j y, (lkcs ms)[j]? = some y → w.cell? ((⟨g, ob, none⟩ : Addr).add j) = some y := fun j y hy => by
      rw [Addr.add_lit]
      exact hcs j y hy
    obtain ⟨v', w', hr, h2, h3, h4, h5⟩ := run_append_own_at (P := Tryd.prog) w B LT o.type T i0 _ 2 24 hU hi hz0 hz1 hz2 rfl (by decide) v es.length (lkcs es) hown ⟨g, ob, none⟩ ms.length c (lkcs ms) (lkcs_len ms) hcell (lkcs_one ms) (by unfold maxLen; omega) (by omega) hB
    unfold Oper.wp execOp
    simp only [ho, resolve, invoke, builtin, Sem.run_bind, Sem.run_pure, Result.andThen_ok, List.map_toArray, List.map_cons, List.map_nil, hs, hx, hr]
    exact h v' w' (by rw [lkcs_app, List.length_append]; exact h2) ((Below.refl _ w).grown h3 hB (fun k hk => (hown.lt k hk).1)) h3 h5
/-- The same, the slot's number being named. -/
theorem wp_lkcd17 {T LT : TypeId} (hT : (Tryd.prog.info? T).map (fun i => (i.zero, i.size, i.bytes)) = some (some (.agg #[.string ⟨#[]⟩, .int .i64 0]), 2, 24)) (hU : Tryd.prog.underlying LT = some (.slice T)) {o : Oper} {a : Act} {K : Act → World → Prop} {Q : Exit → Act → World → Prop} (s x : Operand)
    (ho : o.op = .call { callee := .builtin .append, args := #[s, x], argTypes := #[LT, LT] }) (d : Nat) (hd : o.dst = some d)
    (B : Nat) (v u : Value) (es ms : List Lk.Hd) (w : World) (hs : a.eval s = v) (hx : a.eval x = u) (hown : w.ownsRow B T 2 v es.length (lkcs es)) (hB : B ≤ w.heap.size) (hb : Slk w u ms) (hN : es.length + ms.length ≤ 3000)
    (h : ∀ v' w', w'.ownsRow B T 2 v' (es ++ ms).length (lkcs (es ++ ms)) → Below B w w' → w.grownBy w' v.ownBlock → (v'.ownBlock = v.ownBlock ∨ v'.ownBlock = some w.heap.size) → K { a with tmps := a.tmps.setIfInBounds d v' } w') : o.wp Tryd.prog a w K Q :=
  wp_lkc17 hT hU s x ho B v u es ms w hs hx hown hB hb hN (fun v' w' h1 h2 h3 h4 => by
    have k := h v' w' h1 h2 h3 h4
    unfold Act.put
    rw [hd]
    exact k)
theorem wpList_lkc17 {T LT : TypeId} (hT : (Tryd.prog.info? T).map (fun i => (i.zero, i.size, i.bytes)) = some (some (.agg #[.string ⟨#[]⟩, .int .i64 0]), 2, 24)) (hU : Tryd.prog.underlying LT = some (.slice T)) {ops : Array Oper} {rest : List Oper} {o : Oper} {a : Act} {Q : Exit → Act → World → Prop} (hgd : o.guard = none) (s x : Operand)
    (ho : o.op = .call { callee := .builtin .append, args := #[s, x], argTypes := #[LT, LT] })
    (B : Nat) (v u : Value) (es ms : List Lk.Hd) (w : World) (hs : a.eval s = v) (hx : a.eval x = u) (hown : w.ownsRow B T 2 v es.length (lkcs es)) (hB : B ≤ w.heap.size) (hb : Slk w u ms) (hN : es.length + ms.length ≤ 3000)
    (h : ∀ v' w', w'.ownsRow B T 2 v' (es ++ ms).length (lkcs (es ++ ms)) → Below B w w' → w.grownBy w' v.ownBlock → (v'.ownBlock = v.ownBlock ∨ v'.ownBlock = some w.heap.size) → wpList Tryd.prog ops Q rest (a.put o.dst v') w') : wpList Tryd.prog ops Q (o :: rest) a w :=
  wpList_plain hgd fun _ hK => wp_lkc17 hT hU s x ho B v u es ms w hs hx hown hB hb hN (fun v' w' h1 h2 h3 h4 => hK _ _ (h v' w' h1 h2 h3 h4))

end Go.Proofs.YtadgjinlblloiaaDoor
