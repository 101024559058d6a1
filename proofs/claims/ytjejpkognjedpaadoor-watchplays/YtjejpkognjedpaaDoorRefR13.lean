/- The reference's watches: a block of two cells and a row of events; before, Drop. -/
import Derived.Test.YtjejpkognjedpaaDoorWSpecs13
import Derived.Test.YtjejpkognjedpaaDoorLibQ
import Derived.Test.YtjejpkognjedpaaDoorHeld2
import Derived.Lib.OwnBridge
namespace Go.Proofs.YtjejpkognjedpaaDoor
open Go.RowKit

theorem infoRv : (Tryd.prog.info? 63).map (fun i => (i.zero, i.size, i.bytes)) = some (some (.agg #[.int .i64 0, .string ⟨#[]⟩, .int .i64 0]), 3, 32) := by kernel_rfl
theorem evs13_one (l : List Hq.Wt) : ∀ u ∈ evs13 l, u.oneCell' = true := by
  intro u hu
  obtain ⟨x, _, hx⟩ := List.mem_flatMap.1 hu
  simp only [ev, List.mem_cons, List.not_mem_nil, or_false] at hx
  rcases hx with rfl | rfl | rfl <;> rfl
structure Rr13 (w : World) (q : Nat) (s : Hq.St) (v : Value) : Prop where
  blk : Cb w q [.int .i64 s.room, v] 38
  row : w.ownsRow 0 63 3 v s.l.length (evs13 s.l)
def LRf : Rep13 := fun w q s F => ∃ v, Rr13 w q s v ∧ F = Fw13 v q
theorem LRf.lt {w : World} {q : Nat} {s : Hq.St} {F : Nat → Prop} {k : Nat} (h : LRf w q s F) (hk : F k) : k < w.heap.size := by
  obtain ⟨v, h, rfl⟩ := h
  rcases hk with hk | rfl
  · exact (h.row.lt k hk).2
  · exact h.blk.lt
theorem LRf.keep {w w' : World} {q : Nat} {s : Hq.St} {F : Nat → Prop} (h : LRf w q s F) (hk : ∀ k, F k → w'.heap[k]? = w.heap[k]?) : LRf w' q s F := by
  obtain ⟨v, h, rfl⟩ := h
  exact ⟨v, ⟨h.blk.keep (hk q (Or.inr rfl)), row_stays h.row fun k e => hk k (Or.inl e)⟩, rfl⟩
theorem Rr13.later {w w' : World} {q : Nat} {s : Hq.St} {v : Value} (h : Rr13 w q s v) (hb : Below w.heap.size w w') : Rr13 w' q s v := ⟨h.blk.below hb, row_stays h.row fun k hk => hb.block k (h.row.lt k hk).2⟩
/-- An event's cells in the row. -/
theorem rrow_at13 {w : World} {B g N c : Nat} {l : List Hq.Wt} (h : w.ownsRow B 63 3 (.slice (some ⟨g, 0, none⟩) N c) N (evs13 l)) {j : Nat} {x : Hq.Wt} (hx : l[j]? = some x) : w.cell? ⟨g, j * 3, none⟩ = some (.int .i64 x.sess) ∧ w.cell? ⟨g, j * 3 + 1, none⟩ = some (.string x.path) ∧ w.cell? ⟨g, j * 3 + 2, none⟩ = some (.int .i64 x.kind) := by
  have hj := (List.getElem?_eq_some_iff.1 hx).1
  have hN : l.length * 3 = N * 3 := by rw [← evs13_len]; exact h.1
  have key : ∀ i u, i < 3 → (ev x)[i]? = some u → w.cell? ⟨g, j * 3 + i, none⟩ = some u := fun i u hi hu => by
    rw [h.cellAt _ (by omega)]
    exact evs13_cell l j x i u hx hu
  exact ⟨key 0 _ (by decide) rfl, key 1 _ (by decide) rfl, key 2 _ (by decide) rfl⟩
/-- Another row in the old one's place. -/
theorem Rr13.put {w w3 : World} {q : Nat} {s : Hq.St} {v v' : Value} {l' : List Hq.Wt} (h : Rr13 w q s v) (hb : Below w.heap.size w w3) (hr : w3.ownsRow w.heap.size 63 3 v' l'.length (evs13 l')) :
    LRf (w3.setCell ⟨q, 1, none⟩ v') q { s with l := l' } (Fw13 v' q) ∧ Moved w (w3.setCell ⟨q, 1, none⟩ v') (Fw13 v q) (Fw13 v' q) := by
  have hg := grownBy_setCell w3 ⟨q, 1, none⟩ v'
  have hq := h.blk.lt
  have hne : ∀ k, v'.ownBlock = some k → k ≠ q := fun k hk => by have := (hr.lt k hk).1; omega
  refine ⟨⟨v', ⟨(h.blk.below hb).set 1 v', ?_⟩, rfl⟩, hg.os.trans hb.os, hg.tape.trans hb.tape, hg.output.trans hb.output, Nat.le_trans hb.size hg.size, fun k hk hF => ?_, fun k hk => ?_⟩
  · have hr2 : w3.ownsRow 0 63 3 v' l'.length (evs13 l') := hr.mono (Nat.zero_le _)
    exact row_stays hr2 (fun k hk => RowKit.Below.heap_setCell _ _ _ _ (hne k hk))
  · have e3 := hb.size
    rw [hg.block k (by omega) (fun e => hF (Or.inr (by simpa using e))), hb.block k hk]
  · rcases hk with hk | rfl
    · exact Or.inr (hr.lt k hk).1
    · exact Or.inl (Or.inr rfl)
/-- Events that are handed to 'append'. -/
def Sev13 (w : World) (u : Value) (ms : List Hq.Wt) : Prop := (u = .slice none 0 0 ∧ ms = []) ∨ ∃ g o c, u = .slice (some ⟨g, o, none⟩) ms.length c ∧ ∀ (j : Nat) y, (evs13 ms)[j]? = some y → w.cell? ⟨g, o + j, none⟩ = some y
theorem Sev13.below {w w' : World} {u : Value} {ms : List Hq.Wt} (h : Sev13 w u ms) (hb : Below w.heap.size w w') : Sev13 w' u ms := by
  rcases h with h | ⟨g, o, c, h1, h2⟩
  · exact Or.inl h
  · exact Or.inr ⟨g, o, c, h1, fun j y hy => Below.kept hb (h2 j y hy)⟩
theorem Sev13.one {w : World} {sb : Nat} {x : Hq.Wt} (h : Cb w sb (ev x) 63) : Sev13 w (.slice (some ⟨sb, 0, none⟩) 1 1) [x] := by
  refine Or.inr ⟨sb, 0, 1, rfl, fun j y hy => ?_⟩
  have e : evs13 [x] = ev x := by unfold evs13; simp
  rw [e] at hy
  rw [Nat.zero_add, h.cell j]
  exact hy
theorem Sev13.grown {w w' : World} {g c : Nat} {x : Hq.Wt} {row : Option Nat} (h : Sev13 w (.slice (some ⟨g, 0, none⟩) 1 c) [x]) (hg : w.grownBy w' row) (hne : row ≠ some g) : Sev13 w' (.slice (some ⟨g, 0, none⟩) 1 c) [x] := by
  rcases h with ⟨h1, _⟩ | ⟨g', o, c', h1, h2⟩
  · cases h1
  · simp only [Value.slice.injEq, Option.some.injEq, Addr.mk.injEq, and_true] at h1
    obtain ⟨⟨rfl, rfl⟩, _, rfl⟩ := h1
    refine Or.inr ⟨g, 0, c, rfl, fun j s hs => ?_⟩
    have h3 := h2 j s hs
    have hlt := World.block_lt_of_cell? w _ h3
    exact (World.cell?_of_block (hg.block g hlt (fun e => hne e.symm))).trans h3
theorem wp_evr13 {o : Oper} {a : Act} {K : Act → World → Prop} {Q : Exit → Act → World → Prop} (s x : Operand)
    (ho : o.op = .call { callee := .builtin .append, args := #[s, x], argTypes := #[36, 36] })
    (B : Nat) (v u : Value) (es ms : List Hq.Wt) (w : World) (hs : a.eval s = v) (hx : a.eval x = u) (hown : w.ownsRow B 63 3 v es.length (evs13 es)) (hB : B ≤ w.heap.size) (hb : Sev13 w u ms) (hN : es.length + ms.length ≤ 3000)
    (h : ∀ v' w', w'.ownsRow B 63 3 v' (es ++ ms).length (evs13 (es ++ ms)) → Below B w w' → w.grownBy w' v.ownBlock → K (a.put o.dst v') w') : o.wp Tryd.prog a w K Q := by
  obtain ⟨i0, hi, hz0, hz1, hz2⟩ := info_parts infoRv
  rcases hb with ⟨rfl, rfl⟩ | ⟨g, ob, c, rfl, hcs⟩
  · have hrun := run_append_owned_none (P := Tryd.prog) (w := w) B 36 o.type 63 i0 3 Tryd.underlying36 hi v es.length (evs13 es) hown
    have hx2 : a.eval x = .slice none 0 0 := hx
    unfold Oper.wp
    simp [execOp, ho, resolve, invoke, builtin, hs, hx2, hrun, Result.andThen]
    exact h v w (by simpa using hown) (Below.refl _ _) ⟨rfl, rfl, rfl, Nat.le_refl _, fun _ _ _ => rfl⟩
  · refine wp_append_own w s x 36 ho B 63 i0 _ 3 32 Tryd.underlying36 hi hz0 hz1 hz2 rfl (by decide) v es.length (evs13 es) hs hown ⟨g, ob, none⟩ ms.length c (evs13 ms) hx (evs13_len ms) ?_ (evs13_one ms) (by unfold maxLen; omega) (by omega) hB ?_
    · intro j y hy
      rw [Addr.add_lit]
      exact hcs j y hy
    · intro v' w' ho' hg _
      exact h v' w' (by rw [evs13_app, List.length_append]; exact ho') ((Below.refl _ w).grown hg hB (fun k hk => (hown.lt k hk).1)) hg
theorem wpList_evr13 {ops : Array Oper} {rest : List Oper} {o : Oper} {a : Act} {Q : Exit → Act → World → Prop} (hgd : o.guard = none) (s x : Operand)
    (ho : o.op = .call { callee := .builtin .append, args := #[s, x], argTypes := #[36, 36] })
    (B : Nat) (v u : Value) (es ms : List Hq.Wt) (w : World) (hs : a.eval s = v) (hx : a.eval x = u) (hown : w.ownsRow B 63 3 v es.length (evs13 es)) (hB : B ≤ w.heap.size) (hb : Sev13 w u ms) (hN : es.length + ms.length ≤ 3000)
    (h : ∀ v' w', w'.ownsRow B 63 3 v' (es ++ ms).length (evs13 (es ++ ms)) → Below B w w' → w.grownBy w' v.ownBlock → wpList Tryd.prog ops Q rest (a.put o.dst v') w') : wpList Tryd.prog ops Q (o :: rest) a w :=
  wpList_plain hgd fun _ hK => wp_evr13 s x ho B v u es ms w hs hx hown hB hb hN fun v' w' h1 h2 h3 => hK _ _ (h v' w' h1 h2 h3)
theorem ev_of_rrow {w : World} {B : Nat} {v : Value} {es : List Hq.Wt} (h : w.ownsRow B 63 3 v es.length (evs13 es)) : Ev w v es := by
  obtain ⟨a, c, rfl, hc, ha⟩ := row_form h
  refine ⟨a, es.length, c, rfl, rfl, hc, fun e => ?_, fun j x hx => ?_⟩
  · subst e
    rcases h.2 with ⟨e, _⟩ | ⟨g, cap, cur, e, _⟩
    · exact (Value.slice.inj e).2.2
    · cases (Value.slice.inj e).1
  · have hj := (List.getElem?_eq_some_iff.1 hx).1
    obtain ⟨g, rfl⟩ := ha (by omega)
    refine ⟨g, 0, rfl, fun i u hu => ?_⟩
    have hi : i < 3 := (List.getElem?_eq_some_iff.1 hu).1
    rw [Nat.zero_add, h.cellAt _ (by omega)]
    exact evs13_cell es j x i u hx hu

set_option maxRecDepth 20000 in
set_option maxHeartbeats 2000000 in
theorem before_any13 (x y : Hq.Wt) (w : World) : Calls Tryd.prog 28 #[.agg #[.int .i64 x.sess, .string x.path, .int .i64 x.kind], .agg #[.int .i64 y.sess, .string y.path, .int .i64 y.kind]] w fun e w' => e = .returned (.bool (Hq.lt x y)) ∧ Below w.heap.size w w' := by
  have HB : Hid (Below w.heap.size w ((w.alloc (.cells #[.int .i64 x.sess, .string x.path, .int .i64 x.kind] 63)).alloc (.cells #[.int .i64 y.sess, .string y.path, .int .i64 y.kind] 63))) := by
    have h1 := (Below.refl _ w).alloc (Nat.le_refl _) (.cells #[.int .i64 x.sess, .string x.path, .int .i64 x.kind] 63)
    exact h1.alloc (by simp) _
  go_enter Tryd.func28, Tryd.ntmps28
  by_cases h1 : x.sess = y.sess
  · have h1b : (x.sess != y.sess) = false := by simp [h1]
    by_cases h2 : x.kind = y.kind
    · have h2b : (x.kind != y.kind) = false := by simp [h2]
      have HR : Hid (Hq.lt x y = Op.bytesLess x.path.toList y.path.toList) := (show _ = _ by unfold Hq.lt; rw [if_pos h1, if_pos h2]; rfl)
      clear h1 h2
      go_wp2
      go_ret
      exact ⟨by rw [HR.out]; rfl, HB.out⟩
    · have h2b : (x.kind != y.kind) = true := by simp [h2]
      have HR : Hid (Hq.lt x y = decide (x.kind < y.kind)) := (show _ = _ by unfold Hq.lt; rw [if_pos h1, if_neg h2])
      clear h1 h2
      go_wp2
      go_ret
      exact ⟨by rw [HR.out]; rfl, HB.out⟩
  · have h1b : (x.sess != y.sess) = true := by simp [h1]
    have HR : Hid (Hq.lt x y = decide (x.sess < y.sess)) := (show _ = _ by unfold Hq.lt; rw [if_neg h1])
    clear h1
    go_wp2
    go_ret
    exact ⟨by rw [HR.out]; rfl, HB.out⟩
end Go.Proofs.YtjejpkognjedpaaDoor
