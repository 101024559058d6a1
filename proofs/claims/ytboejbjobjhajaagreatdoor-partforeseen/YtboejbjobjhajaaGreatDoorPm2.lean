import Derived.Test.YtboejbjobjhajaaGreatDoorPln
import Derived.Test.YtboejbjobjhajaaGreatDoorBas
namespace Go.Proofs.YtboejbjobjhajaaGreatDoor
open Go.RowKit
def rpv (r : Rp) (u : Value) : Value := .agg #[.int .i64 r.num, .int .i64 r.zxid, .int .i64 r.err, .int .i64 r.at_, u]
structure BoxR (w : World) (q : Nat) (r : Rp) (u : Value) : Prop where
  c0 : w.cell? ⟨q, 0, none⟩ = some (.int .i64 r.num)
  c1 : w.cell? ⟨q, 1, none⟩ = some (.int .i64 r.zxid)
  c2 : w.cell? ⟨q, 2, none⟩ = some (.int .i64 r.err)
  c3 : w.cell? ⟨q, 3, none⟩ = some (.int .i64 r.at_)
  c4 : w.cell? ⟨q, 4, none⟩ = some u
theorem BoxR.below {w w' : World} {q : Nat} {r : Rp} {u : Value} (h : BoxR w q r u) (hb : Below w.heap.size w w') : BoxR w' q r u :=
  ⟨Below.kept hb h.c0, Below.kept hb h.c1, Below.kept hb h.c2, Below.kept hb h.c3, Below.kept hb h.c4⟩
theorem BoxR.made (w : World) (r : Rp) (u : Value) (t : TypeId) : BoxR (w.alloc (.cells #[.int .i64 r.num, .int .i64 r.zxid, .int .i64 r.err, .int .i64 r.at_, u] t)) w.heap.size r u :=
  ⟨cell?_alloc_at _ _ _ _ _ _ rfl, cell?_alloc_at _ _ _ _ _ _ rfl, cell?_alloc_at _ _ _ _ _ _ rfl, cell?_alloc_at _ _ _ _ _ _ rfl, cell?_alloc_at _ _ _ _ _ _ rfl⟩
structure BoxX (w : World) (q : Nat) (x : X) (nv : Value) : Prop where
  c0 : w.cell? ⟨q, 0, none⟩ = some (.int .i64 x.err)
  c1 : w.cell? ⟨q, 1, none⟩ = some (.string x.path)
  c2 : w.cell? ⟨q, 2, none⟩ = some (.string x.data)
  c3 : w.cell? ⟨q, 3, none⟩ = some nv
  c4 : w.cell? ⟨q, 4, none⟩ = some (.int .i64 x.made)
  c5 : w.cell? ⟨q, 5, none⟩ = some (.int .i64 x.changed)
  c6 : w.cell? ⟨q, 6, none⟩ = some (.int .i64 x.ver)
  c7 : w.cell? ⟨q, 7, none⟩ = some (.int .i64 x.kids)
  c8 : w.cell? ⟨q, 8, none⟩ = some (.int .i64 x.owner)
  c9 : w.cell? ⟨q, 9, none⟩ = some (.int .i64 x.len)
  c10 : w.cell? ⟨q, 10, none⟩ = some (.int .i64 x.cnt)
theorem BoxX.made (w : World) (x : X) (nv : Value) (t : TypeId) : BoxX (w.alloc (.cells #[.int .i64 x.err, .string x.path, .string x.data, nv, .int .i64 x.made, .int .i64 x.changed, .int .i64 x.ver, .int .i64 x.kids, .int .i64 x.owner, .int .i64 x.len, .int .i64 x.cnt] t)) w.heap.size x nv :=
  ⟨cell?_alloc_at _ _ _ _ _ _ rfl, cell?_alloc_at _ _ _ _ _ _ rfl, cell?_alloc_at _ _ _ _ _ _ rfl, cell?_alloc_at _ _ _ _ _ _ rfl, cell?_alloc_at _ _ _ _ _ _ rfl, cell?_alloc_at _ _ _ _ _ _ rfl, cell?_alloc_at _ _ _ _ _ _ rfl, cell?_alloc_at _ _ _ _ _ _ rfl, cell?_alloc_at _ _ _ _ _ _ rfl, cell?_alloc_at _ _ _ _ _ _ rfl, cell?_alloc_at _ _ _ _ _ _ rfl⟩
structure RepV (w : World) (q : Nat) (r : Rp) (u : Value) : Prop where
  box : BoxR w q r u
  free : ∀ i : Nat, w.frozen? ⟨q, i, none⟩ = false
theorem RepV.lt {w : World} {q : Nat} {r : Rp} {u : Value} (h : RepV w q r u) : q < w.heap.size := World.block_lt_of_cell? w _ h.box.c0
theorem RepV.made (w : World) (r : Rp) (u : Value) (t : TypeId) : RepV (w.alloc (.cells #[.int .i64 r.num, .int .i64 r.zxid, .int .i64 r.err, .int .i64 r.at_, u] t)) w.heap.size r u :=
  ⟨BoxR.made w r u t, fun i => by simp⟩
theorem RepV.grown {w w' : World} {q k : Nat} {r : Rp} {u : Value} (h : RepV w q r u) (hg : w.grownBy w' (some k)) (hr : q ≠ k) : RepV w' q r u := by
  have hb := hg.block q h.lt (by simpa using hr)
  exact ⟨⟨(World.cell?_of_block hb).trans h.box.c0, (World.cell?_of_block hb).trans h.box.c1, (World.cell?_of_block hb).trans h.box.c2, (World.cell?_of_block hb).trans h.box.c3, (World.cell?_of_block hb).trans h.box.c4⟩, fun i => (World.frozen?_of_block hb).trans (h.free i)⟩
theorem RepV.below {w w' : World} {q : Nat} {r : Rp} {u : Value} (h : RepV w q r u) (hb : Below w.heap.size w w') : RepV w' q r u :=
  ⟨h.box.below hb, fun i => (World.frozen?_of_block (hb.block q h.lt)).trans (h.free i)⟩
theorem RepV.set4 {w : World} {q : Nat} {r : Rp} {u : Value} (h : RepV w q r u) (x : Value) : RepV (w.setCell ⟨q, 4, none⟩ x) q r x := by
  refine ⟨⟨?_, ?_, ?_, ?_, ?_⟩, fun i => by simpa using h.free i⟩
  · rw [World.cell?_setCell_other _ _ _ _ (by simp)]; exact h.box.c0
  · rw [World.cell?_setCell_other _ _ _ _ (by simp)]; exact h.box.c1
  · rw [World.cell?_setCell_other _ _ _ _ (by simp)]; exact h.box.c2
  · rw [World.cell?_setCell_other _ _ _ _ (by simp)]; exact h.box.c3
  · exact World.cell?_setCell_same _ _ _ h.box.c4
theorem RepV.all5 {w : World} {q : Nat} {r0 : Rp} {u0 : Value} (h : RepV w q r0 u0) (r : Rp) (u : Value) :
    BoxR (((((w.setCell ⟨q, 0, none⟩ (.int .i64 r.num)).setCell ⟨q, 1, none⟩ (.int .i64 r.zxid)).setCell ⟨q, 2, none⟩ (.int .i64 r.err)).setCell ⟨q, 3, none⟩ (.int .i64 r.at_)).setCell ⟨q, 4, none⟩ u) q r u ∧
    w.grownBy (((((w.setCell ⟨q, 0, none⟩ (.int .i64 r.num)).setCell ⟨q, 1, none⟩ (.int .i64 r.zxid)).setCell ⟨q, 2, none⟩ (.int .i64 r.err)).setCell ⟨q, 3, none⟩ (.int .i64 r.at_)).setCell ⟨q, 4, none⟩ u) (some q) := by
  have s0 : ∀ (W : World) (i : Nat) (x y : Value), W.cell? ⟨q, i, none⟩ = some y → (W.setCell ⟨q, i, none⟩ x).cell? ⟨q, i, none⟩ = some x := fun W i x y hy => World.cell?_setCell_same _ _ _ hy
  have so : ∀ (W : World) (i j : Nat) (x : Value), j ≠ i → (W.setCell ⟨q, i, none⟩ x).cell? ⟨q, j, none⟩ = W.cell? ⟨q, j, none⟩ := fun W i j x hij => World.cell?_setCell_other _ _ _ _ (fun e => hij (by injection e with _ e2; exact e2.symm))
  refine ⟨⟨?_, ?_, ?_, ?_, ?_⟩, ?_⟩
  · rw [so _ 4 0 _ (by decide), so _ 3 0 _ (by decide), so _ 2 0 _ (by decide), so _ 1 0 _ (by decide)]
    exact s0 _ _ _ _ h.box.c0
  · rw [so _ 4 1 _ (by decide), so _ 3 1 _ (by decide), so _ 2 1 _ (by decide)]
    exact s0 _ _ _ _ (by rw [so _ 0 1 _ (by decide)]; exact h.box.c1)
  · rw [so _ 4 2 _ (by decide), so _ 3 2 _ (by decide)]
    exact s0 _ _ _ _ (by rw [so _ 1 2 _ (by decide), so _ 0 2 _ (by decide)]; exact h.box.c2)
  · rw [so _ 4 3 _ (by decide)]
    exact s0 _ _ _ _ (by rw [so _ 2 3 _ (by decide), so _ 1 3 _ (by decide), so _ 0 3 _ (by decide)]; exact h.box.c3)
  · exact s0 _ _ _ _ (by rw [so _ 3 4 _ (by decide), so _ 2 4 _ (by decide), so _ 1 4 _ (by decide), so _ 0 4 _ (by decide)]; exact h.box.c4)
  · exact grownBy_trans (grownBy_trans (grownBy_trans (grownBy_trans (grownBy_setCell w ⟨q, 0, none⟩ _) (grownBy_setCell _ ⟨q, 1, none⟩ _)) (grownBy_setCell _ ⟨q, 2, none⟩ _)) (grownBy_setCell _ ⟨q, 3, none⟩ _)) (grownBy_setCell _ ⟨q, 4, none⟩ _)
theorem own_apart {w : World} {B B' n m s s' : Nat} {e e' : TypeId} {v u : Value} {xs ys : List Value} (h : w.ownsRow B e s v n xs) (k : w.ownsRow B' e' s' u m ys) (hne : e ≠ e') : u.ownBlock = none ∨ u.ownBlock ≠ v.ownBlock := by
  rcases k.2 with ⟨rfl, _⟩ | ⟨g, cap, cur, rfl, _, hg, _⟩
  · exact Or.inl rfl
  · refine Or.inr fun e1 => ?_
    rcases h.2 with ⟨rfl, _⟩ | ⟨g', cap', cur', rfl, _, hg', _⟩
    · simp [Value.ownBlock] at e1
    · simp only [Value.ownBlock, Option.some.injEq] at e1
      subst e1
      rw [hg] at hg'
      simp only [Option.some.injEq, Obj.cells.injEq] at hg'
      exact hne hg'.2.1.symm
theorem xc_len (x : X) (nv : Value) : (xc x nv).length = 11 := rfl
def xcs (ps : List (X × Value)) : List Value := ps.flatMap fun p => xc p.1 p.2
theorem xcs_get : ∀ (ps : List (X × Value)) (j : Nat), (xcs ps)[j]? = (ps[j / 11]?).bind fun p => (xc p.1 p.2)[j % 11]?
  | [], j => by simp [xcs]
  | p :: ps, j => by
    have ih := xcs_get ps (j - 11)
    unfold xcs at ih ⊢
    rw [List.flatMap_cons]
    by_cases hj : j < 11
    · have e1 : j / 11 = 0 := by omega
      have e2 : j % 11 = j := by omega
      rw [List.getElem?_append_left (by rw [xc_len]; exact hj), e1, e2]
      rfl
    · have e1 : j / 11 = (j - 11) / 11 + 1 := by omega
      have e2 : j % 11 = (j - 11) % 11 := by omega
      rw [List.getElem?_append_right (by rw [xc_len]; omega), xc_len, ih, e1, e2, List.getElem?_cons_succ]
structure Xo (w : World) (B : Nat) (v : Value) (ps : List (X × Value)) : Prop where
  own : w.ownsRow B 75 11 v ps.length (xcs ps)
  names : ∀ p ∈ ps, w.ownsRow B 9 1 p.2 p.1.names.length (sc p.1.names)
theorem Xo.nil (w : World) (B : Nat) : Xo w B (.slice none 0 0) [] := ⟨World.ownsRow_nil _ _ _ _, fun p hp => by cases hp⟩
theorem Xo.kept {w w' : World} {B k : Nat} {v : Value} {ps : List (X × Value)} (h : Xo w B v ps) (hg : w.grownBy w' (some k)) (hk : k < B ∨ w.heap.size ≤ k) : Xo w' B v ps := by
  refine ⟨h.own.kept hg (Or.inr fun e => ?_), fun p hp => (h.names p hp).kept hg (Or.inr fun e => ?_)⟩
  · have := h.own.lt k e
    omega
  · have := (h.names p hp).lt k e
    omega
theorem Xo.below {w w' : World} {B : Nat} {v : Value} {ps : List (X × Value)} (h : Xo w B v ps) (hb : Below w.heap.size w w') : Xo w' B v ps :=
  h.kept (grownBy_below (row := some w.heap.size) hb) (Or.inr (Nat.le_refl _))
theorem sq_own {w : World} {B : Nat} {v : Value} {ts : List ByteArray} (h : w.ownsRow B 9 1 v ts.length (sc ts)) : Sq w v ts := by
  rcases h.2 with ⟨rfl, h0⟩ | ⟨g, cap, cur, rfl, _, _, hn, _⟩
  · exact ⟨none, 0, 0, rfl, h0.symm, Nat.le_refl _, fun _ => rfl, fun j o ho => by
      have := (List.getElem?_eq_some_iff.1 ho).1
      omega⟩
  · refine ⟨some ⟨g, 0, none⟩, ts.length, cap, rfl, rfl, hn, fun e => (by cases e), fun j s hs => ⟨g, 0, rfl, ?_⟩⟩
    have hj := (List.getElem?_eq_some_iff.1 hs).1
    rw [Nat.zero_add, h.cellAt j (by omega)]
    unfold sc
    rw [List.getElem?_map, hs]
    rfl
theorem Xo.rl {w : World} {B : Nat} {v : Value} {ps : List (X × Value)} (h : Xo w B v ps) : Rl w v (ps.map (·.1)) := by
  rcases h.own.2 with ⟨rfl, h0⟩ | ⟨g, cap, cur, rfl, _, _, hn, _⟩
  · refine ⟨none, 0, 0, rfl, by rw [List.length_map]; exact h0.symm, Nat.le_refl _, fun _ => rfl, fun j o ho => ?_⟩
    have := (List.getElem?_eq_some_iff.1 ho).1
    rw [List.length_map] at this
    omega
  · refine ⟨some ⟨g, 0, none⟩, ps.length, cap, rfl, by rw [List.length_map], hn, fun e => (by cases e), fun j x hx => ?_⟩
    have hj := (List.getElem?_eq_some_iff.1 hx).1
    rw [List.length_map] at hj
    have hp : ps[j]? = some ps[j] := List.getElem?_eq_getElem hj
    rw [List.getElem?_map, hp] at hx
    have hx : ps[j].1 = x := Option.some.inj hx
    subst hx
    refine ⟨g, 0, ps[j].2, rfl, sq_own (h.names _ (List.getElem_mem hj)), fun i u hu => ?_⟩
    have hi : i < 11 := by
      have := (List.getElem?_eq_some_iff.1 hu).1
      rw [xc_len] at this
      exact this
    rw [Nat.zero_add, h.own.cellAt (j * 11 + i) (by omega), xcs_get]
    have e1 : (j * 11 + i) / 11 = j := by omega
    have e2 : (j * 11 + i) % 11 = i := by omega
    rw [e1, e2, hp]
    exact hu
theorem infoResult : (Tryz.prog.info? 75).map (fun i => (i.zero, i.size, i.bytes)) = some (some (.agg #[.int .i64 0, .string ⟨#[]⟩, .string ⟨#[]⟩, .slice none 0 0, .int .i64 0, .int .i64 0, .int .i64 0, .int .i64 0, .int .i64 0, .int .i64 0, .int .i64 0]), 11, 120) := by kernel_rfl
theorem xc_one {x : X} {nv : Value} (h : nv.oneCell' = true) : ∀ u ∈ xc x nv, u.oneCell' = true := by
  intro u hu
  simp [xc] at hu
  rcases hu with rfl | rfl | rfl | rfl | rfl | rfl | rfl | rfl | rfl | rfl | rfl
  all_goals first | rfl | exact h
theorem text_one {w : World} {B n : Nat} {v : Value} {us : List Value} (h : w.ownsRow B 9 1 v n us) : v.oneCell' = true := by
  rcases h.2 with ⟨rfl, _⟩ | ⟨g, cap, cur, rfl, _⟩ <;> rfl
theorem Xo.more {w0 w' : World} {B : Nat} {v v' : Value} {ps : List (X × Value)} {p : X × Value} (h : Xo w0 B v ps) (hp : w0.ownsRow B 9 1 p.2 p.1.names.length (sc p.1.names))
    (ho : w'.ownsRow B 75 11 v' (ps.length + 1) (xcs ps ++ xc p.1 p.2)) (hg : (w0.alloc (.cells (xc p.1 p.2).toArray 75)).grownBy w' v.ownBlock) (hne : (9 : TypeId) ≠ 75) : Xo w' B v' (ps ++ [p]) := by
  have ha := World.grownBy_alloc w0 (.cells (xc p.1 p.2).toArray 75) none
  have hg' : w0.grownBy w' v.ownBlock := grownBy_trans ⟨ha.os, ha.tape, ha.output, ha.size, fun k hk _ => ha.block k hk (by simp)⟩ hg
  have keep : ∀ q : X × Value, w0.ownsRow B 9 1 q.2 q.1.names.length (sc q.1.names) → w'.ownsRow B 9 1 q.2 q.1.names.length (sc q.1.names) := fun q hq => hq.kept hg' (own_apart h.own hq (fun e => hne e.symm))
  refine ⟨?_, fun q hq => ?_⟩
  · rw [List.length_append]
    unfold xcs at ho ⊢
    rw [List.flatMap_append]
    simpa using ho
  · rcases List.mem_append.1 hq with hq | hq
    · exact keep q (h.names q hq)
    · simp only [List.mem_cons, List.not_mem_nil, or_false] at hq
      subst hq
      exact keep q hp
theorem append_x1 {ops : Array Oper} {rest : List Oper} {o : Oper} {a : Act} {Q : Exit → Act → World → Prop} (hgd : o.guard = none) (s x : Operand)
    (ho : o.op = .call { callee := .builtin .append, args := #[s, x], argTypes := #[33, 33] })
    (B : Nat) (v : Value) (ps : List (X × Value)) (p : X × Value) (w0 : World) (q : Nat) (hq : q = w0.heap.size) (hs : a.eval s = v) (hx : a.eval x = .slice (some ⟨q, 0, none⟩) 1 1) (hX : Xo w0 B v ps) (hp : w0.ownsRow B 9 1 p.2 p.1.names.length (sc p.1.names)) (hB : B ≤ w0.heap.size) (hN : ps.length ≤ 1000)
    (h : ∀ v' w', Xo w' B v' (ps ++ [p]) → (w0.alloc (.cells (xc p.1 p.2).toArray 75)).grownBy w' v.ownBlock → wpList Tryz.prog ops Q rest (a.put o.dst v') w') : wpList Tryz.prog ops Q (o :: rest) a (w0.alloc (.cells (xc p.1 p.2).toArray 75)) := by
  subst hq
  obtain ⟨i0, hi, hz0, hz1, hz2⟩ := info_parts infoResult
  refine wpList_append_own _ hgd s x 33 ho B 75 i0 (.agg #[.int .i64 0, .string ⟨#[]⟩, .string ⟨#[]⟩, .slice none 0 0, .int .i64 0, .int .i64 0, .int .i64 0, .int .i64 0, .int .i64 0, .int .i64 0, .int .i64 0]) 11 120 Tryz.underlying33 hi hz0 hz1 hz2 rfl (by decide) v ps.length (xcs ps) hs (hX.own.alloc _) ⟨w0.heap.size, 0, none⟩ 1 1 (xc p.1 p.2) hx rfl ?_ (xc_one (text_one hp)) (by unfold maxLen; omega) (by omega) (by simp; omega) ?_
  · intro j u hu
    rw [Addr.add_lit, Nat.zero_add]
    exact cell?_alloc_at _ _ _ _ _ _ (by simpa using hu)
  · intro v' w' ho' hg _
    exact h v' w' (hX.more hp ho' hg (by decide)) hg
theorem grown_row {w w' : World} {row : Option Nat} (h : w.grownBy w' row) (r : Nat) (hr : ∀ k, row = some k → k = r) : w.grownBy w' (some r) :=
  ⟨h.os, h.tape, h.output, h.size, fun k hk hne => h.block k hk (fun e => hne (by rw [hr k e.symm]))⟩
theorem Xo.where_ {w wx w' : World} {B : Nat} {v : Value} {ps : List (X × Value)} (h : Xo w B v ps) (hB : B ≤ w.heap.size) (hal : w.grownBy wx none) (hg : wx.grownBy w' v.ownBlock) : ∃ k, w.grownBy w' (some k) ∧ B ≤ k := by
  have hgg : w.grownBy w' v.ownBlock := grownBy_trans ⟨hal.os, hal.tape, hal.output, hal.size, fun k hk _ => hal.block k hk (by simp)⟩ hg
  cases e : v.ownBlock with
  | none => exact ⟨w.heap.size, grown_row hgg _ (fun k hk => by rw [e] at hk; cases hk), hB⟩
  | some k => exact ⟨k, grown_row hgg _ (fun k' hk' => by rw [e] at hk'; exact (Option.some.inj hk').symm), (h.own.lt k e).1⟩
def Rq.skip (e : Int) : X := ⟨e, ⟨#[]⟩, ⟨#[]⟩, [], 0, 0, 0, 0, 0, 0, 0⟩
def Rq.fails (e at_ : Int) (n : Nat) : List X := (List.range n).map fun (i : Nat) => Rq.skip (if (i : Int) = at_ then e else 14)
def Rq.fail (num e at_ n : Int) : Rp := ⟨num, 0, e, at_, if n < 0 ∨ 16 < n then [] else Rq.fails e at_ n.toNat⟩
def Rq.zero : Rp := ⟨0, 0, 0, 0, []⟩
theorem fails_more (e at_ : Int) (k : Nat) : Rq.fails e at_ (k + 1) = Rq.fails e at_ k ++ [Rq.skip (if (k : Int) = at_ then e else 14)] := by
  unfold Rq.fails
  rw [List.range_succ, List.map_append]
  rfl
theorem fails_len (e at_ : Int) (k : Nat) : (Rq.fails e at_ k).length = k := by simp [Rq.fails]
structure FailS (w wr : World) (q0 q1 : Nat) (r : Rp) (v : Value) (xs : List X) : Prop where
  ans : RepV wr q0 Rq.zero (.slice none 0 0)
  rep : RepV wr q1 r v
  own : Xo wr (q1 + 1) v (xs.map fun x => (x, .slice none 0 0))
  bare : ∀ x ∈ xs, x.names = []
  h0 : w.heap.size ≤ q0
  h1 : q0 < q1
  below : Below w.heap.size w wr
theorem FailS.push {w wr wx w' : World} {q0 q1 : Nat} {r : Rp} {v v' : Value} {xs : List X} {x : X} (h : FailS w wr q0 q1 r v xs) (hx : x.names = []) (hb : Below wr.heap.size wr wx) (hX : Xo w' (q1 + 1) v' ((xs ++ [x]).map fun x => (x, .slice none 0 0))) (hg : wx.grownBy w' v.ownBlock) :
    FailS w (w'.setCell ⟨q1, 4, none⟩ v') q0 q1 r v' (xs ++ [x]) := by
  have hlt := h.rep.lt
  obtain ⟨k, hk, hBk⟩ := h.own.where_ hlt (grownBy_below hb) hg
  have hset := grownBy_setCell w' ⟨q1, 4, none⟩ v'
  have h1 := h.h1
  have h0 := h.h0
  refine ⟨(h.ans.grown hk (by omega)).grown hset (by show q0 ≠ q1; omega), (h.rep.grown hk (by omega)).set4 v', hX.kept hset (Or.inl (by show q1 < q1 + 1; omega)), fun y hy => ?_, h.h0, h.h1, Below.reader (Below.reader h.below hk (Nat.le_refl _) (by omega)) hset (Nat.le_refl _) (by show w.heap.size ≤ q1; omega)⟩
  rcases List.mem_append.1 hy with hy | hy
  · exact h.bare y hy
  · simp only [List.mem_cons, List.not_mem_nil, or_false] at hy
    subst hy
    exact hx
theorem FailS.told {w wr : World} {q0 q1 : Nat} {r : Rp} {v : Value} {xs : List X} (h : FailS w wr q0 q1 r v xs) :
    Below w.heap.size w (((((wr.setCell ⟨q0, 0, none⟩ (.int .i64 r.num)).setCell ⟨q0, 1, none⟩ (.int .i64 r.zxid)).setCell ⟨q0, 2, none⟩ (.int .i64 r.err)).setCell ⟨q0, 3, none⟩ (.int .i64 r.at_)).setCell ⟨q0, 4, none⟩ v) ∧
    BoxR (((((wr.setCell ⟨q0, 0, none⟩ (.int .i64 r.num)).setCell ⟨q0, 1, none⟩ (.int .i64 r.zxid)).setCell ⟨q0, 2, none⟩ (.int .i64 r.err)).setCell ⟨q0, 3, none⟩ (.int .i64 r.at_)).setCell ⟨q0, 4, none⟩ v) q0 r v ∧
    Rl (((((wr.setCell ⟨q0, 0, none⟩ (.int .i64 r.num)).setCell ⟨q0, 1, none⟩ (.int .i64 r.zxid)).setCell ⟨q0, 2, none⟩ (.int .i64 r.err)).setCell ⟨q0, 3, none⟩ (.int .i64 r.at_)).setCell ⟨q0, 4, none⟩ v) v xs ∧ ∀ k, v.ownBlock = some k → w.heap.size ≤ k := by
  obtain ⟨h1, h2⟩ := h.ans.all5 r v
  refine ⟨Below.reader h.below h2 (Nat.le_refl _) h.h0, h1, ?_, fun k hk => by have := (h.own.own.lt k hk).1; have := h.h0; have := h.h1; omega⟩
  have hX := h.own.kept h2 (Or.inl (by have := h.h1; omega))
  have := hX.rl
  rw [List.map_map] at this
  have e : ((fun p : X × Value => p.1) ∘ fun x : X => (x, Value.slice none 0 0)) = id := rfl
  rw [e, List.map_id] at this
  exact this
end Go.Proofs.YtboejbjobjhajaaGreatDoor
namespace Go.Proofs.YtboejbjobjhajaaGreatDoor.Tq
open Kq
def after (t : Tr) (s z : Int) (os : List O) : Tr := os.foldl (fun t o => (doo t o s z).2) t
def says (t : Tr) (s z : Int) : List O → List X
  | [] => []
  | o :: os => (doo t o s z).1 :: says (doo t o s z).2 s z os
def bad (t : Tr) (s z : Int) : List O → Option (Nat × Int)
  | [] => none
  | o :: os => if (doo t o s z).1.err ≠ 0 then some (0, (doo t o s z).1.err) else (bad (doo t o s z).2 s z os).map fun k => (k.1 + 1, k.2)
def turn (t : Tr) (s z : Int) (os : List O) : (Rp × Bool) × Tr :=
  match bad t s z os with
  | some k => ((Rq.fail 0 k.2 (k.1 : Int) (os.length : Int), false), after t s z (os.take k.1))
  | none => ((⟨0, z, 0, -1, says t s z os⟩, true), after t s z os)
def many (t : Tr) (s z : Int) (os : List O) : (Rp × Bool) × Tr :=
  if 16 < os.length then ((Rq.fail 0 2 (-1) 0, false), t)
  else if os.length = 0 then ((Rq.fail 0 1 (-1) 0, false), t)
  else ((turn t s z os).1, if (turn t s z os).1.2 then (turn t s z os).2 else t)
section
variable {t : Tr} {s z : Int} {o : O} {os l : List O} {k : Nat × Int}
theorem after_snoc : after t s z (l ++ [o]) = (doo (after t s z l) o s z).2 := by unfold after; simp
theorem says_snoc : ∀ {l : List O} {t : Tr}, says t s z (l ++ [o]) = says t s z l ++ [(doo (after t s z l) o s z).1]
  | [], t => rfl
  | a :: l, t => by
    show (doo t a s z).1 :: says (doo t a s z).2 s z (l ++ [o]) = (doo t a s z).1 :: says (doo t a s z).2 s z l ++ [(doo (after (doo t a s z).2 s z l) o s z).1]
    rw [says_snoc (l := l) (t := (doo t a s z).2)]
    rfl
theorem says_len : ∀ {l : List O} {t : Tr}, (says t s z l).length = l.length
  | [], _ => rfl
  | a :: l, t => by
    show (says (doo t a s z).2 s z l).length + 1 = l.length + 1
    rw [says_len (l := l)]
theorem bad_none : ∀ {l : List O} {t : Tr}, bad t s z l = none → (doo (after t s z l) o s z).1.err = 0 → bad t s z (l ++ [o]) = none
  | [], t, _, h => by
    show (if (doo t o s z).1.err ≠ 0 then some (0, (doo t o s z).1.err) else (none : Option (Nat × Int)).map fun k => (k.1 + 1, k.2)) = none
    have h2 : (doo t o s z).1.err = 0 := h
    rw [if_neg (by simp [h2])]
    rfl
  | a :: l, t, h, h2 => by
    have e1 : bad t s z (a :: l) = if (doo t a s z).1.err ≠ 0 then some (0, (doo t a s z).1.err) else (bad (doo t a s z).2 s z l).map fun k => (k.1 + 1, k.2) := rfl
    have e2 : bad t s z (a :: l ++ [o]) = if (doo t a s z).1.err ≠ 0 then some (0, (doo t a s z).1.err) else (bad (doo t a s z).2 s z (l ++ [o])).map fun k => (k.1 + 1, k.2) := rfl
    rw [e1] at h
    rw [e2]
    by_cases he : (doo t a s z).1.err ≠ 0
    · rw [if_pos he] at h
      cases h
    · rw [if_neg he] at h ⊢
      rw [Option.map_eq_none_iff] at h
      rw [bad_none h h2]
      rfl
theorem bad_some : ∀ {l : List O} {t : Tr}, bad t s z l = none → (doo (after t s z l) o s z).1.err ≠ 0 → ∀ r, bad t s z (l ++ o :: r) = some (l.length, (doo (after t s z l) o s z).1.err)
  | [], t, _, h, r => by
    show (if (doo t o s z).1.err ≠ 0 then some (0, (doo t o s z).1.err) else _) = _
    have h2 : (doo t o s z).1.err ≠ 0 := h
    rw [if_pos h2]
    rfl
  | a :: l, t, h, h2, r => by
    have e1 : bad t s z (a :: l) = if (doo t a s z).1.err ≠ 0 then some (0, (doo t a s z).1.err) else (bad (doo t a s z).2 s z l).map fun k => (k.1 + 1, k.2) := rfl
    have e2 : bad t s z (a :: l ++ o :: r) = if (doo t a s z).1.err ≠ 0 then some (0, (doo t a s z).1.err) else (bad (doo t a s z).2 s z (l ++ o :: r)).map fun k => (k.1 + 1, k.2) := rfl
    rw [e1] at h
    rw [e2]
    by_cases he : (doo t a s z).1.err ≠ 0
    · rw [if_pos he] at h
      cases h
    · rw [if_neg he] at h ⊢
      rw [Option.map_eq_none_iff] at h
      rw [bad_some h h2 r]
      rfl
theorem fine_after : ∀ {l : List O} {t : Tr} {n : Nat}, Fine11 t → Few t n → n + l.length ≤ 899 → Fine11 (after t s z l)
  | [], _, _, h, _, _ => h
  | a :: l, t, n, h, hk, hn => by
    simp only [List.length_cons] at hn
    exact fine_after (l := l) (fine_doo h (hk.more (by omega))) (few_doo hk) (by omega)
theorem turn_some (h : bad t s z os = some k) : turn t s z os = ((Rq.fail 0 k.2 (k.1 : Int) (os.length : Int), false), after t s z (os.take k.1)) := by unfold turn; rw [h]
theorem turn_none (h : bad t s z os = none) : turn t s z os = ((⟨0, z, 0, -1, says t s z os⟩, true), after t s z os) := by unfold turn; rw [h]
theorem bad_lt : ∀ {l : List O} {t : Tr} {k : Nat × Int}, bad t s z l = some k → k.1 < l.length ∧ k.2 ≠ 0
  | [], _, _, h => by cases h
  | a :: l, t, k, h => by
    have e1 : bad t s z (a :: l) = if (doo t a s z).1.err ≠ 0 then some (0, (doo t a s z).1.err) else (bad (doo t a s z).2 s z l).map fun k => (k.1 + 1, k.2) := rfl
    rw [e1] at h
    split at h
    · rename_i he
      rw [← Option.some.inj h]
      exact ⟨by simp, he⟩
    · obtain ⟨j, hj, rfl⟩ := Option.map_eq_some_iff.1 h
      have := bad_lt hj
      exact ⟨by simp only [List.length_cons]; omega, this.2⟩
end
end Go.Proofs.YtboejbjobjhajaaGreatDoor.Tq
namespace Go.Proofs.YtboejbjobjhajaaGreatDoor.Tq
def dropT (t : Tr) (p : ByteArray) : Tr := match find t.l p with | none => t | some _ => { t with l := orphan (del t.l p) p }
def drops (t : Tr) (ps : List ByteArray) : Tr := ps.foldl dropT t
theorem fine_drop {t : Tr} (h : Fine11 t) (p : ByteArray) : Fine11 (dropT t p) := by
  unfold dropT
  split
  · exact h
  · exact fine_orphan (t := { t with l := del t.l p }) (fine_del h)
theorem fine_drops : ∀ {ps : List ByteArray} {t : Tr}, Fine11 t → Fine11 (drops t ps)
  | [], _, h => h
  | p :: ps, _, h => fine_drops (ps := ps) (fine_drop h p)
theorem drops_snoc {t : Tr} {ps : List ByteArray} {p : ByteArray} : drops t (ps ++ [p]) = dropT (drops t ps) p := by unfold drops; simp
theorem ofs_good {t : Tr} (h : Fine11 t) {s : Int} {p : ByteArray} (hp : p ∈ ofs t s) : Pl.goodB p.data.toList = true := by
  unfold ofs at hp
  split at hp
  · obtain ⟨e, he, rfl⟩ := List.mem_map.1 hp
    exact (h.nodes e (List.mem_filter.1 he).1).1
  · cases hp
theorem ofs_len {t : Tr} (h : Fine11 t) (s : Int) : (ofs t s).length ≤ 500 := by
  unfold ofs
  split
  · rw [List.length_map]
    have h1 := List.length_filter_le (fun e : En => decide (e.2.owner = s)) t.l
    have h2 := h.len
    have h3 := h.room
    omega
  · simp
def ask (t : Tr) (s n z : Int) (os : List O) : Rp × Tr :=
  if Oq.may s n os ≠ 0 then (Rq.fail n (Oq.may s n os) (-1) 0, t) else ({ (many t s z os).1.1 with num := n, zxid := z }, (many t s z os).2)
end Go.Proofs.YtboejbjobjhajaaGreatDoor.Tq
