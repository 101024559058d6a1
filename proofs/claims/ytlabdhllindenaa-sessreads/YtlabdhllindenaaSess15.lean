/- The landed Sessions: a block of four cells and a row; New, Now; the order. -/
import Derived.Test.YtlabdhllindenaaSpecs15
import Derived.Test.YtlabdhllindenaaTakeAt
import Derived.Test.YtlabdhllindenaaRowOps
import Derived.Test.YtlabdhllindenaaHeld2
import Derived.BigQuiet
import Derived.Deep.DeepCutAuto
namespace Go.Proofs.Ytlabdhllindenaa
open Go.RowKit

/-- A session's three cells. -/
def oc (x : Sq.One) : List Value := [.int .i64 x.id, .int .i64 x.span, .int .i64 x.till]
def ocs (l : List Sq.One) : List Value := l.flatMap oc
theorem ocs_len (l : List Sq.One) : (ocs l).length = l.length * 3 := by
  unfold ocs
  induction l with
  | nil => rfl
  | cons x l ih => rw [List.flatMap_cons, List.length_append, ih, List.length_cons]; simp only [oc, List.length_cons, List.length_nil]; omega
theorem ocs_app (a b : List Sq.One) : ocs (a ++ b) = ocs a ++ ocs b := by unfold ocs; rw [List.flatMap_append]
theorem ocs_one (l : List Sq.One) : ∀ u ∈ ocs l, u.oneCell' = true := by
  intro u hu
  obtain ⟨x, _, hx⟩ := List.mem_flatMap.1 hu
  simp only [oc, List.mem_cons, List.not_mem_nil, or_false] at hx
  rcases hx with rfl | rfl | rfl <;> rfl
theorem ocs_cell : ∀ (l : List Sq.One) (j : Nat) (x : Sq.One) (i : Nat) (u : Value), l[j]? = some x → (oc x)[i]? = some u → (ocs l)[j * 3 + i]? = some u
  | [], j, x, i, u, h, _ => by simp at h
  | y :: l, 0, x, i, u, h, hu => by
    simp at h
    subst h
    have hi : i < 3 := (List.getElem?_eq_some_iff.1 hu).1
    show (oc y ++ ocs l)[0 * 3 + i]? = some u
    rw [List.getElem?_append_left (by simp [oc]; omega)]
    simpa using hu
  | y :: l, j + 1, x, i, u, h, hu => by
    have h3 : (oc y).length = 3 := rfl
    show (oc y ++ ocs l)[(j + 1) * 3 + i]? = some u
    rw [List.getElem?_append_right (by rw [h3]; omega), h3, show (j + 1) * 3 + i - 3 = j * 3 + i by omega]
    exact ocs_cell l j x i u (by simpa using h) hu
theorem ocs_take (l : List Sq.One) (k : Nat) : (ocs l).take (k * 3) = ocs (l.take k) := by
  induction l generalizing k with
  | nil => simp [ocs]
  | cons x l ih =>
    cases k with
    | zero => simp [ocs]
    | succ k =>
      show (oc x ++ ocs l).take ((k + 1) * 3) = oc x ++ ocs (l.take k)
      rw [← ih k, List.take_append, List.take_of_length_le (by show 3 ≤ _; omega), show (k + 1) * 3 - (oc x).length = k * 3 by show (k + 1) * 3 - 3 = _; omega]
theorem ocs_drop (l : List Sq.One) (k : Nat) : (ocs l).drop (k * 3) = ocs (l.drop k) := by
  induction l generalizing k with
  | nil => simp [ocs]
  | cons x l ih =>
    cases k with
    | zero => simp [ocs]
    | succ k =>
      show (oc x ++ ocs l).drop ((k + 1) * 3) = ocs (l.drop k)
      rw [← ih k, List.drop_append, List.drop_of_length_le (by show 3 ≤ _; omega), List.nil_append, show (k + 1) * 3 - (oc x).length = k * 3 by show (k + 1) * 3 - 3 = _; omega]
theorem infoSe : (Try.prog.info? 58).map (fun i => (i.zero, i.size, i.bytes)) = some (some (.agg #[.int .i64 0, .int .i64 0, .int .i64 0]), 3, 24) := by kernel_rfl
theorem infoI64 : (Try.prog.info? 2).map (fun i => (i.zero, i.size, i.bytes)) = some (some (.int .i64 0), 1, 8) := by kernel_rfl

structure Ls15 (w : World) (q : Nat) (s : Sq.St) (v : Value) : Prop where
  blk : Cb w q [.int .i64 s.room, .int .i64 s.now, .int .i64 s.next, v] 56
  row : w.ownsRow 0 58 3 v s.l.length (ocs s.l)
/-- The blocks. -/
def Fs15 (v : Value) (q : Nat) : Nat → Prop := fun k => v.ownBlock = some k ∨ k = q
def LSe : Rep15 := fun w q s F => ∃ v, Ls15 w q s v ∧ F = Fs15 v q
theorem LSe.lt {w : World} {q : Nat} {s : Sq.St} {F : Nat → Prop} {k : Nat} (h : LSe w q s F) (hk : F k) : k < w.heap.size := by
  obtain ⟨v, h, rfl⟩ := h
  rcases hk with hk | rfl
  · exact (h.row.lt k hk).2
  · exact h.blk.lt
theorem LSe.keep {w w' : World} {q : Nat} {s : Sq.St} {F : Nat → Prop} (h : LSe w q s F) (hk : ∀ k, F k → w'.heap[k]? = w.heap[k]?) : LSe w' q s F := by
  obtain ⟨v, h, rfl⟩ := h
  exact ⟨v, ⟨h.blk.keep (hk q (Or.inr rfl)), row_stays h.row fun k e => hk k (Or.inl e)⟩, rfl⟩
theorem Ls15.later {w w' : World} {q : Nat} {s : Sq.St} {v : Value} (h : Ls15 w q s v) (hb : Below w.heap.size w w') : Ls15 w' q s v := ⟨h.blk.below hb, row_stays h.row fun k hk => hb.block k (h.row.lt k hk).2⟩
/-- A session's cells in a row. -/
theorem row_at15 {w : World} {T B g N c : Nat} {l : List Sq.One} (h : w.ownsRow B T 3 (.slice (some ⟨g, 0, none⟩) N c) N (ocs l)) {j : Nat} {x : Sq.One} (hx : l[j]? = some x) : w.cell? ⟨g, j * 3, none⟩ = some (.int .i64 x.id) ∧ w.cell? ⟨g, j * 3 + 1, none⟩ = some (.int .i64 x.span) ∧ w.cell? ⟨g, j * 3 + 2, none⟩ = some (.int .i64 x.till) := by
  have hj := (List.getElem?_eq_some_iff.1 hx).1
  have hN : l.length * 3 = N * 3 := by rw [← ocs_len]; exact h.1
  have key : ∀ i u, i < 3 → (oc x)[i]? = some u → w.cell? ⟨g, j * 3 + i, none⟩ = some u := fun i u hi hu => by
    rw [h.cellAt _ (by omega)]
    exact ocs_cell l j x i u hx hu
  exact ⟨key 0 _ (by decide) rfl, key 1 _ (by decide) rfl, key 2 _ (by decide) rfl⟩

set_option maxRecDepth 20000 in
set_option maxHeartbeats 1000000 in
theorem new_no15 (n : Int) (w : World) (h : n < 1 ∨ 64 < n) : Calls Try.prog 11 #[.int .i64 n] w fun e w' => e = .returned (.tuple #[.pointer none, .int .i64 1]) ∧ Below w.heap.size w w' := by
  go_enter Try.func11, Try.ntmps11
  by_cases h1 : n < 1
  · clear h
    go_wp2
    go_ret2
    exact ⟨rfl, Below.refl _ _⟩
  · have h2 : 64 < n := h.resolve_left h1
    clear h
    go_wp2
    go_ret2
    exact ⟨rfl, Below.refl _ _⟩
set_option maxRecDepth 20000 in
set_option maxHeartbeats 1000000 in
theorem new_yes15 (n : Int) (w : World) (h1 : ¬ n < 1) (h2 : ¬ 64 < n) : Calls Try.prog 11 #[.int .i64 n] w fun e w' => e = .returned (.tuple #[dptr w.heap.size, .int .i64 0]) ∧ w' = w.alloc (.cells #[.int .i64 n, .int .i64 0, .int .i64 1, .slice none 0 0] 56) := by
  go_enter Try.func11, Try.ntmps11
  go_wp2
  go_ret2
  exact ⟨rfl, rfl⟩
theorem new_any15 (n : Int) (w : World) : Calls Try.prog 11 #[.int .i64 n] w fun e w' => Below w.heap.size w w' ∧
    if n < 1 ∨ 64 < n then e = .returned (.tuple #[.pointer none, .int .i64 1]) else ∃ q F, e = .returned (.tuple #[dptr q, .int .i64 0]) ∧ LSe w' q (Sq.new n) F ∧ ∀ k, F k → w.heap.size ≤ k := by
  by_cases h : n < 1 ∨ 64 < n
  · refine (new_no15 n w h).mono ?_
    rintro e w' ⟨he, hb⟩
    rw [if_pos h]
    exact ⟨hb, he⟩
  · refine (new_yes15 n w (by omega) (by omega)).mono ?_
    rintro e w' ⟨he, rfl⟩
    rw [if_neg h]
    refine ⟨(Below.refl _ w).alloc (Nat.le_refl _) _, w.heap.size, Fs15 (.slice none 0 0) w.heap.size, he, ⟨.slice none 0 0, ⟨Cb.made w [.int .i64 n, .int .i64 0, .int .i64 1, .slice none 0 0] _, World.ownsRow_nil _ _ _ _⟩, rfl⟩, fun k hk => ?_⟩
    rcases hk with hk | rfl
    · cases hk
    · exact Nat.le_refl _
set_option maxRecDepth 20000 in
set_option maxHeartbeats 1000000 in
theorem now_any15 (q : Nat) (s : Sq.St) (F : Nat → Prop) (w : World) (h : LSe w q s F) : Calls Try.prog 26 #[dptr q] w fun e w' => e = .returned (.int .i64 s.now) ∧ Below w.heap.size w w' := by
  obtain ⟨v, h, rfl⟩ := h
  have c1 : w.cell? ⟨q, 1, none⟩ = some (.int .i64 s.now) := h.blk.cell 1
  clear h
  unfold dptr
  go_enter Try.func26, Try.ntmps26
  go_wp2
  go_ret
  exact ⟨rfl, Below.refl _ _⟩

/-- What cmp.Compare tells of two numbers. -/
def cmpZ (a b : Int) : Int := if a < b then -1 else if b < a then 1 else 0
theorem cmpZ_zero {a b : Int} : cmpZ a b = 0 ↔ a = b := by
  unfold cmpZ
  split
  · exact ⟨fun h => absurd h (by decide), fun h => by omega⟩
  · split
    · exact ⟨fun h => absurd h (by decide), fun h => by omega⟩
    · exact ⟨fun h => by omega, fun h => rfl⟩
theorem cmpZ_neg {a b : Int} : cmpZ a b < 0 ↔ a < b := by
  unfold cmpZ
  split
  · rename_i h
    exact ⟨fun _ => h, fun _ => by decide⟩
  · rename_i h
    split
    · exact ⟨fun h => absurd h (by decide), fun k => absurd k h⟩
    · exact ⟨fun h => absurd h (by decide), fun k => absurd k h⟩
set_option maxRecDepth 20000 in
set_option maxHeartbeats 1000000 in
theorem nanL_any15 (a : Int) (w : World) : Calls Try.prog 51 #[.int .i64 a] w fun e w' => e = .returned (.bool false) ∧ w' = w := by
  have hne : (a != a) = false := by simp
  go_enter Try.func51, Try.ntmps51
  go_wp2
  go_ret
  exact ⟨rfl, rfl⟩
set_option maxRecDepth 20000 in
set_option maxHeartbeats 1000000 in
theorem cmpL_any15 (a b : Int) (w : World) : Calls Try.prog 45 #[.int .i64 a, .int .i64 b] w fun e w' => e = .returned (.int .i64 (cmpZ a b)) ∧ w' = w := by
  go_enter Try.func45, Try.ntmps45
  go_wp2_with fail
  refine (nanL_any15 a w).mono ?_
  rintro e w' ⟨rfl, hw⟩
  rw [hw]
  clear hw w'
  go_wp2_with fail
  refine (nanL_any15 b w).mono ?_
  rintro e w' ⟨rfl, hw⟩
  rw [hw]
  clear hw w'
  by_cases h1 : a < b
  · have HA : Hid (cmpZ a b = -1) := (show cmpZ a b = -1 by unfold cmpZ; rw [if_pos h1])
    go_wp2
    go_ret
    exact ⟨by rw [HA.out]; rfl, rfl⟩
  · by_cases h2 : b < a
    · have HA : Hid (cmpZ a b = 1) := (show cmpZ a b = 1 by unfold cmpZ; rw [if_neg (by omega), if_pos h2])
      go_wp2
      go_ret
      exact ⟨by rw [HA.out]; rfl, rfl⟩
    · have HA : Hid (cmpZ a b = 0) := (show cmpZ a b = 0 by unfold cmpZ; rw [if_neg (by omega), if_neg (by omega)])
      go_wp2
      go_ret
      exact ⟨by rw [HA.out]; rfl, rfl⟩
def ov (x : Sq.One) : Value := .agg #[.int .i64 x.id, .int .i64 x.span, .int .i64 x.till]
set_option maxRecDepth 20000 in
set_option maxHeartbeats 2000000 in
theorem cmpId_any15 (x : Sq.One) (id : Int) (w : World) : Calls Try.prog 44 #[ov x, .int .i64 id] w fun e w' => e = .returned (.int .i64 (cmpZ x.id id)) ∧ Below w.heap.size w w' := by
  have HB : Hid (Below w.heap.size w (w.alloc (.cells #[.int .i64 x.id, .int .i64 x.span, .int .i64 x.till] 58))) := (Below.refl _ w).alloc (Nat.le_refl _) _
  unfold ov
  go_enter Try.func44, Try.ntmps44
  go_wp2_with fail
  refine (cmpL_any15 _ _ _).mono ?_
  rintro e w' ⟨rfl, hw⟩
  rw [hw]
  clear hw w'
  go_wp2
  go_ret
  exact ⟨rfl, HB.out⟩
end Go.Proofs.Ytlabdhllindenaa
