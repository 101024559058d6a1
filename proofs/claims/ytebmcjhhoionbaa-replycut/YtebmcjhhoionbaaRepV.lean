/- Replies that a call has under way: their boxes, rows of results and of Names that it owns. -/
import Derived.Test.YtebmcjhhoionbaaBox6
import Derived.Test.YtebmcjhhoionbaaStrs
namespace Go.Proofs.Ytebmcjhhoionbaa
open Go.RowKit

/-- A reply's five cells that a call owns, and may write. -/
structure RepV (w : World) (q : Nat) (r : Rp) (u : Value) : Prop where
  box : BoxR w q r u
  free : ∀ i : Nat, w.frozen? ⟨q, i, none⟩ = false

theorem RepV.lt {w : World} {q : Nat} {r : Rp} {u : Value} (h : RepV w q r u) : q < w.heap.size := World.block_lt_of_cell? w _ h.box.c0
theorem RepV.made (w : World) (r : Rp) (u : Value) (t : TypeId) : RepV (w.alloc (.cells #[.int .i64 r.num, .int .i64 r.zxid, .int .i64 r.err, .int .i64 r.at_, u] t)) w.heap.size r u :=
  ⟨BoxR.made w r u t, fun i => by simp⟩
theorem RepV.grown {w w' : World} {q k : Nat} {r : Rp} {u : Value} (h : RepV w q r u) (hg : w.grownBy w' (some k)) (hr : q ≠ k) : RepV w' q r u := by
  have hb := hg.block q h.lt (by simpa using hr)
  exact ⟨⟨(World.cell?_of_block hb).trans h.box.c0, (World.cell?_of_block hb).trans h.box.c1, (World.cell?_of_block hb).trans h.box.c2, (World.cell?_of_block hb).trans h.box.c3, (World.cell?_of_block hb).trans h.box.c4⟩, fun i => (World.frozen?_of_block hb).trans (h.free i)⟩
theorem RepV.below {w w' : World} {q : Nat} {r : Rp} {u : Value} (h : RepV w q r u) (hb : Below w.heap.size w w') : RepV w' q r u :=
  ⟨h.box.below hb, fun i => (World.frozen?_of_block (hb.block q h.lt)).trans (h.free i)⟩
theorem RepV.set4 {w : World} {q : Nat} {r : Rp} {u : Value} (h : RepV w q r u) (x : Value) : RepV (w.setCell ⟨q, 4, none⟩ x) q r x := by
  refine ⟨⟨?_, ?_, ?_, ?_, ?_⟩, fun i => by simpa using h.free i⟩
  · rw [World.cell?_setCell_other _ _ _ _ (by simp)]; exact h.box.c0
  · rw [World.cell?_setCell_other _ _ _ _ (by simp)]; exact h.box.c1
  · rw [World.cell?_setCell_other _ _ _ _ (by simp)]; exact h.box.c2
  · rw [World.cell?_setCell_other _ _ _ _ (by simp)]; exact h.box.c3
  · exact World.cell?_setCell_same _ _ _ h.box.c4

/-- Five cells are written one after the other. -/
theorem RepV.all5 {w : World} {q : Nat} {r0 : Rp} {u0 : Value} (h : RepV w q r0 u0) (r : Rp) (u : Value) :
    BoxR (((((w.setCell ⟨q, 0, none⟩ (.int .i64 r.num)).setCell ⟨q, 1, none⟩ (.int .i64 r.zxid)).setCell ⟨q, 2, none⟩ (.int .i64 r.err)).setCell ⟨q, 3, none⟩ (.int .i64 r.at_)).setCell ⟨q, 4, none⟩ u) q r u ∧
    w.grownBy (((((w.setCell ⟨q, 0, none⟩ (.int .i64 r.num)).setCell ⟨q, 1, none⟩ (.int .i64 r.zxid)).setCell ⟨q, 2, none⟩ (.int .i64 r.err)).setCell ⟨q, 3, none⟩ (.int .i64 r.at_)).setCell ⟨q, 4, none⟩ u) (some q) := by
  have s0 : ∀ (W : World) (i : Nat) (x y : Value), W.cell? ⟨q, i, none⟩ = some y → (W.setCell ⟨q, i, none⟩ x).cell? ⟨q, i, none⟩ = some x := fun W i x y hy => World.cell?_setCell_same _ _ _ hy
  have so : ∀ (W : World) (i j : Nat) (x : Value), j ≠ i → (W.setCell ⟨q, i, none⟩ x).cell? ⟨q, j, none⟩ = W.cell? ⟨q, j, none⟩ := fun W i j x hij => World.cell?_setCell_other _ _ _ _ (fun e => hij (by injection e with _ e2; exact e2.symm))
  refine ⟨⟨?_, ?_, ?_, ?_, ?_⟩, ?_⟩
  · rw [so _ 4 0 _ (by decide), so _ 3 0 _ (by decide), so _ 2 0 _ (by decide), so _ 1 0 _ (by decide)]
    exact s0 _ _ _ _ h.box.c0
  · rw [so _ 4 1 _ (by decide), so _ 3 1 _ (by decide), so _ 2 1 _ (by decide)]
    exact s0 _ _ _ _ (by rw [so _ 0 1 _ (by decide)]; exact h.box.c1)
  · rw [so _ 4 2 _ (by decide), so _ 3 2 _ (by decide)]
    exact s0 _ _ _ _ (by rw [so _ 1 2 _ (by decide), so _ 0 2 _ (by decide)]; exact h.box.c2)
  · rw [so _ 4 3 _ (by decide)]
    exact s0 _ _ _ _ (by rw [so _ 2 3 _ (by decide), so _ 1 3 _ (by decide), so _ 0 3 _ (by decide)]; exact h.box.c3)
  · exact s0 _ _ _ _ (by rw [so _ 3 4 _ (by decide), so _ 2 4 _ (by decide), so _ 1 4 _ (by decide), so _ 0 4 _ (by decide)]; exact h.box.c4)
  · exact grownBy_trans (grownBy_trans (grownBy_trans (grownBy_trans (grownBy_setCell w ⟨q, 0, none⟩ _) (grownBy_setCell _ ⟨q, 1, none⟩ _)) (grownBy_setCell _ ⟨q, 2, none⟩ _)) (grownBy_setCell _ ⟨q, 3, none⟩ _)) (grownBy_setCell _ ⟨q, 4, none⟩ _)

/-- Rows of two kinds lie in two blocks. -/
theorem own_apart {w : World} {B B' n m s s' : Nat} {e e' : TypeId} {v u : Value} {xs ys : List Value} (h : w.ownsRow B e s v n xs) (k : w.ownsRow B' e' s' u m ys) (hne : e ≠ e') : u.ownBlock = none ∨ u.ownBlock ≠ v.ownBlock := by
  rcases k.2 with ⟨rfl, _⟩ | ⟨g, cap, cur, rfl, _, hg, _⟩
  · exact Or.inl rfl
  · refine Or.inr fun e1 => ?_
    rcases h.2 with ⟨rfl, _⟩ | ⟨g', cap', cur', rfl, _, hg', _⟩
    · simp [Value.ownBlock] at e1
    · simp only [Value.ownBlock, Option.some.injEq] at e1
      subst e1
      rw [hg] at hg'
      simp only [Option.some.injEq, Obj.cells.injEq] at hg'
      exact hne hg'.2.1.symm

theorem xc_len (x : X) (nv : Value) : (xc x nv).length = 11 := rfl

/-- The cells of results, one behind the other. -/
def xcs (ps : List (X × Value)) : List Value := ps.flatMap fun p => xc p.1 p.2

theorem xcs_get : ∀ (ps : List (X × Value)) (j : Nat), (xcs ps)[j]? = (ps[j / 11]?).bind fun p => (xc p.1 p.2)[j % 11]?
  | [], j => by simp [xcs]
  | p :: ps, j => by
    have ih := xcs_get ps (j - 11)
    unfold xcs at ih ⊢
    rw [List.flatMap_cons]
    by_cases hj : j < 11
    · have e1 : j / 11 = 0 := by omega
      have e2 : j % 11 = j := by omega
      rw [List.getElem?_append_left (by rw [xc_len]; exact hj), e1, e2]
      rfl
    · have e1 : j / 11 = (j - 11) / 11 + 1 := by omega
      have e2 : j % 11 = (j - 11) % 11 := by omega
      rw [List.getElem?_append_right (by rw [xc_len]; omega), xc_len, ih, e1, e2, List.getElem?_cons_succ]

theorem xcs_len (ps : List (X × Value)) : (xcs ps).length = ps.length * 11 := by
  unfold xcs
  induction ps with
  | nil => rfl
  | cons p ps ih => rw [List.flatMap_cons, List.length_append, xc_len, ih, List.length_cons]; omega

/-- A row of results that a call owns from block B on, their Names too. -/
structure Xo (w : World) (B : Nat) (v : Value) (ps : List (X × Value)) : Prop where
  own : w.ownsRow B 35 11 v ps.length (xcs ps)
  names : ∀ p ∈ ps, w.ownsRow B 9 1 p.2 p.1.names.length (sc p.1.names)

theorem Xo.nil (w : World) (B : Nat) : Xo w B (.slice none 0 0) [] := ⟨World.ownsRow_nil _ _ _ _, fun p hp => by cases hp⟩

/-- A block below B was written, or new ones were made. -/
theorem Xo.kept {w w' : World} {B k : Nat} {v : Value} {ps : List (X × Value)} (h : Xo w B v ps) (hg : w.grownBy w' (some k)) (hk : k < B ∨ w.heap.size ≤ k) : Xo w' B v ps := by
  refine ⟨h.own.kept hg (Or.inr fun e => ?_), fun p hp => (h.names p hp).kept hg (Or.inr fun e => ?_)⟩
  · have := h.own.lt k e
    omega
  · have := (h.names p hp).lt k e
    omega

theorem Xo.below {w w' : World} {B : Nat} {v : Value} {ps : List (X × Value)} (h : Xo w B v ps) (hb : Below w.heap.size w w') : Xo w' B v ps :=
  h.kept (grownBy_below (row := some w.heap.size) hb) (Or.inr (Nat.le_refl _))

theorem sq_own {w : World} {B : Nat} {v : Value} {ts : List ByteArray} (h : w.ownsRow B 9 1 v ts.length (sc ts)) : Sq w v ts := by
  rcases h.2 with ⟨rfl, h0⟩ | ⟨g, cap, cur, rfl, _, _, hn, _⟩
  · exact ⟨none, 0, 0, rfl, h0.symm, Nat.le_refl _, fun _ => rfl, fun j o ho => by
      have := (List.getElem?_eq_some_iff.1 ho).1
      omega⟩
  · refine ⟨some ⟨g, 0, none⟩, ts.length, cap, rfl, rfl, hn, fun e => (by cases e), fun j s hs => ⟨g, 0, rfl, ?_⟩⟩
    have hj := (List.getElem?_eq_some_iff.1 hs).1
    rw [Nat.zero_add, h.cellAt j (by omega)]
    unfold sc
    rw [List.getElem?_map, hs]
    rfl

theorem Xo.rl {w : World} {B : Nat} {v : Value} {ps : List (X × Value)} (h : Xo w B v ps) : Rl w v (ps.map (·.1)) := by
  rcases h.own.2 with ⟨rfl, h0⟩ | ⟨g, cap, cur, rfl, _, _, hn, _⟩
  · refine ⟨none, 0, 0, rfl, by rw [List.length_map]; exact h0.symm, Nat.le_refl _, fun _ => rfl, fun j o ho => ?_⟩
    have := (List.getElem?_eq_some_iff.1 ho).1
    rw [List.length_map] at this
    omega
  · refine ⟨some ⟨g, 0, none⟩, ps.length, cap, rfl, by rw [List.length_map], hn, fun e => (by cases e), fun j x hx => ?_⟩
    have hj := (List.getElem?_eq_some_iff.1 hx).1
    rw [List.length_map] at hj
    have hp : ps[j]? = some ps[j] := List.getElem?_eq_getElem hj
    rw [List.getElem?_map, hp] at hx
    have hx : ps[j].1 = x := Option.some.inj hx
    subst hx
    refine ⟨g, 0, ps[j].2, rfl, sq_own (h.names _ (List.getElem_mem hj)), fun i u hu => ?_⟩
    have hi : i < 11 := by
      have := (List.getElem?_eq_some_iff.1 hu).1
      rw [xc_len] at this
      exact this
    rw [Nat.zero_add, h.own.cellAt (j * 11 + i) (by omega), xcs_get]
    have e1 : (j * 11 + i) / 11 = j := by omega
    have e2 : (j * 11 + i) % 11 = i := by omega
    rw [e1, e2, hp]
    exact hu

theorem infoResult : (Try.prog.info? 35).map (fun i => (i.zero, i.size, i.bytes)) = some (some (.agg #[.int .i64 0, .string ⟨#[]⟩, .string ⟨#[]⟩, .slice none 0 0, .int .i64 0, .int .i64 0, .int .i64 0, .int .i64 0, .int .i64 0, .int .i64 0, .int .i64 0]), 11, 120) := by kernel_rfl

theorem xc_one {x : X} {nv : Value} (h : nv.oneCell' = true) : ∀ u ∈ xc x nv, u.oneCell' = true := by
  intro u hu
  simp [xc] at hu
  rcases hu with rfl | rfl | rfl | rfl | rfl | rfl | rfl | rfl | rfl | rfl | rfl
  all_goals first | rfl | exact h

theorem text_one {w : World} {B n : Nat} {v : Value} {us : List Value} (h : w.ownsRow B 9 1 v n us) : v.oneCell' = true := by
  rcases h.2 with ⟨rfl, _⟩ | ⟨g, cap, cur, rfl, _⟩ <;> rfl

/-- What a result more makes of an owned row. -/
theorem Xo.more {w0 w' : World} {B : Nat} {v v' : Value} {ps : List (X × Value)} {p : X × Value} (h : Xo w0 B v ps) (hp : w0.ownsRow B 9 1 p.2 p.1.names.length (sc p.1.names))
    (ho : w'.ownsRow B 35 11 v' (ps.length + 1) (xcs ps ++ xc p.1 p.2)) (hg : (w0.alloc (.cells (xc p.1 p.2).toArray 35)).grownBy w' v.ownBlock) (hne : (9 : TypeId) ≠ 35) : Xo w' B v' (ps ++ [p]) := by
  have ha := World.grownBy_alloc w0 (.cells (xc p.1 p.2).toArray 35) none
  have hg' : w0.grownBy w' v.ownBlock := grownBy_trans ⟨ha.os, ha.tape, ha.output, ha.size, fun k hk _ => ha.block k hk (by simp)⟩ hg
  have keep : ∀ q : X × Value, w0.ownsRow B 9 1 q.2 q.1.names.length (sc q.1.names) → w'.ownsRow B 9 1 q.2 q.1.names.length (sc q.1.names) := fun q hq => hq.kept hg' (own_apart h.own hq (fun e => hne e.symm))
  refine ⟨?_, fun q hq => ?_⟩
  · rw [List.length_append]
    unfold xcs at ho ⊢
    rw [List.flatMap_append]
    simpa using ho
  · rcases List.mem_append.1 hq with hq | hq
    · exact keep q (h.names q hq)
    · simp only [List.mem_cons, List.not_mem_nil, or_false] at hq
      subst hq
      exact keep q hp

/-- 'append(l, x)': what the call owns grows by a result; other blocks stay. -/
theorem append_x1 {ops : Array Oper} {rest : List Oper} {o : Oper} {a : Act} {Q : Exit → Act → World → Prop} (hgd : o.guard = none) (s x : Operand)
    (ho : o.op = .call { callee := .builtin .append, args := #[s, x], argTypes := #[24, 24] })
    (B : Nat) (v : Value) (ps : List (X × Value)) (p : X × Value) (w0 : World) (q : Nat) (hq : q = w0.heap.size) (hs : a.eval s = v) (hx : a.eval x = .slice (some ⟨q, 0, none⟩) 1 1) (hX : Xo w0 B v ps) (hp : w0.ownsRow B 9 1 p.2 p.1.names.length (sc p.1.names)) (hB : B ≤ w0.heap.size) (hN : ps.length ≤ 1000)
    (h : ∀ v' w', Xo w' B v' (ps ++ [p]) → (w0.alloc (.cells (xc p.1 p.2).toArray 35)).grownBy w' v.ownBlock → wpList Try.prog ops Q rest (a.put o.dst v') w') : wpList Try.prog ops Q (o :: rest) a (w0.alloc (.cells (xc p.1 p.2).toArray 35)) := by
  subst hq
  obtain ⟨i0, hi, hz0, hz1, hz2⟩ := info_parts infoResult
  refine wpList_append_own _ hgd s x 24 ho B 35 i0 (.agg #[.int .i64 0, .string ⟨#[]⟩, .string ⟨#[]⟩, .slice none 0 0, .int .i64 0, .int .i64 0, .int .i64 0, .int .i64 0, .int .i64 0, .int .i64 0, .int .i64 0]) 11 120 Try.underlying24 hi hz0 hz1 hz2 rfl (by decide) v ps.length (xcs ps) hs (hX.own.alloc _) ⟨w0.heap.size, 0, none⟩ 1 1 (xc p.1 p.2) hx rfl ?_ (xc_one (text_one hp)) (by unfold maxLen; omega) (by omega) (by simp; omega) ?_
  · intro j u hu
    rw [Addr.add_lit, Nat.zero_add]
    exact cell?_alloc_at _ _ _ _ _ _ (by simpa using hu)
  · intro v' w' ho' hg _
    exact h v' w' (hX.more hp ho' hg (by decide)) hg

/-- The same, within a drawn region. -/
theorem wp_x1 {o : Oper} {a : Act} {K : Act → World → Prop} {Q : Exit → Act → World → Prop} (s x : Operand)
    (ho : o.op = .call { callee := .builtin .append, args := #[s, x], argTypes := #[24, 24] })
    (B : Nat) (v : Value) (ps : List (X × Value)) (p : X × Value) (w0 : World) (q : Nat) (hq : q = w0.heap.size) (hs : a.eval s = v) (hx : a.eval x = .slice (some ⟨q, 0, none⟩) 1 1) (hX : Xo w0 B v ps) (hp : w0.ownsRow B 9 1 p.2 p.1.names.length (sc p.1.names)) (hB : B ≤ w0.heap.size) (hN : ps.length ≤ 1000)
    (h : ∀ v' w', Xo w' B v' (ps ++ [p]) → (w0.alloc (.cells (xc p.1 p.2).toArray 35)).grownBy w' v.ownBlock → K (a.put o.dst v') w') : o.wp Try.prog a (w0.alloc (.cells (xc p.1 p.2).toArray 35)) K Q := by
  subst hq
  obtain ⟨i0, hi, hz0, hz1, hz2⟩ := info_parts infoResult
  refine wp_append_own _ s x 24 ho B 35 i0 (.agg #[.int .i64 0, .string ⟨#[]⟩, .string ⟨#[]⟩, .slice none 0 0, .int .i64 0, .int .i64 0, .int .i64 0, .int .i64 0, .int .i64 0, .int .i64 0, .int .i64 0]) 11 120 Try.underlying24 hi hz0 hz1 hz2 rfl (by decide) v ps.length (xcs ps) hs (hX.own.alloc _) ⟨w0.heap.size, 0, none⟩ 1 1 (xc p.1 p.2) hx rfl ?_ (xc_one (text_one hp)) (by unfold maxLen; omega) (by omega) (by simp; omega) ?_
  · intro j u hu
    rw [Addr.add_lit, Nat.zero_add]
    exact cell?_alloc_at _ _ _ _ _ _ (by simpa using hu)
  · intro v' w' ho' hg _
    exact h v' w' (hX.more hp ho' hg (by decide)) hg

theorem grown_row {w w' : World} {row : Option Nat} (h : w.grownBy w' row) (r : Nat) (hr : ∀ k, row = some k → k = r) : w.grownBy w' (some r) :=
  ⟨h.os, h.tape, h.output, h.size, fun k hk hne => h.block k hk (fun e => hne (by rw [hr k e.symm]))⟩

/-- What the call owns grew: which block that was. -/
theorem Xo.where_ {w wx w' : World} {B : Nat} {v : Value} {ps : List (X × Value)} (h : Xo w B v ps) (hB : B ≤ w.heap.size) (hal : w.grownBy wx none) (hg : wx.grownBy w' v.ownBlock) : ∃ k, w.grownBy w' (some k) ∧ B ≤ k := by
  have hgg : w.grownBy w' v.ownBlock := grownBy_trans ⟨hal.os, hal.tape, hal.output, hal.size, fun k hk _ => hal.block k hk (by simp)⟩ hg
  cases e : v.ownBlock with
  | none => exact ⟨w.heap.size, grown_row hgg _ (fun k hk => by rw [e] at hk; cases hk), hB⟩
  | some k => exact ⟨k, grown_row hgg _ (fun k' hk' => by rw [e] at hk'; exact (Option.some.inj hk').symm), (h.own.lt k e).1⟩
end Go.Proofs.Ytebmcjhhoionbaa
