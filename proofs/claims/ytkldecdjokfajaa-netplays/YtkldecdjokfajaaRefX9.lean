/- On the way through the reference's Send: a message in a block of its own; the row with one more. -/
import Derived.Test.YtkldecdjokfajaaRefS9
namespace Go.Proofs.Ytkldecdjokfajaa
open Go.RowKit

/-- On the way: a message in a block of its own, its numbers and rows owned from a world wX on. -/
structure Bx (wX wx : World) (p5 : Nat) (fr tt kd : Int) (vN vB : Value) (ns : List Int) (ls : List (List UInt8)) : Prop where
  below : Below wX.heap.size wX wx
  ge : wX.heap.size ≤ p5
  blk : wx.heap[p5]? = some (.cells #[.int .i64 fr, .int .i64 tt, .int .i64 kd, vN, vB] 47 (0, 0))
  own : wx.ownsRow wX.heap.size 2 1 vN ns.length (ns.map (Value.int .i64))
  rows : Lo wx wX.heap.size vB ls

section
variable {wX wx w' w4 : World} {p5 : Nat} {fr tt kd : Int} {vN vB vB' : Value} {ns : List Int} {ls ls' : List (List UInt8)}
theorem Bx.cell (h : Bx wX wx p5 fr tt kd vN vB ns ls) (i : Nat) : wx.cell? ⟨p5, i, none⟩ = ([.int .i64 fr, .int .i64 tt, .int .i64 kd, vN, vB] : List Value)[i]? := by
  have hb := h.blk
  simp [World.cell?, hb]
theorem Bx.free (h : Bx wX wx p5 fr tt kd vN vB ns ls) (i : Nat) : wx.frozen? ⟨p5, i, none⟩ = false := by
  have hb := h.blk
  simp [World.frozen?, hb]
theorem Bx.lt (h : Bx wX wx p5 fr tt kd vN vB ns ls) : p5 < wx.heap.size := (Array.getElem?_eq_some_iff.1 h.blk).1
theorem row_kind9 {w : World} {B n s k : Nat} {t : TypeId} {v : Value} {us : List Value} (h : w.ownsRow B t s v n us) (hk : v.ownBlock = some k) : ∃ cur, w.heap[k]? = some (.cells cur t (0, 0)) := by
  rcases h.2 with ⟨rfl, _⟩ | ⟨g, cap, cur, rfl, _, hg, _⟩
  · cases hk
  · simp only [Value.ownBlock, Option.some.injEq] at hk
    subst hk
    exact ⟨cur, hg⟩
theorem row_not {w : World} {B n s : Nat} {t : TypeId} {v : Value} {us : List Value} {cs : Array Value} (h : w.ownsRow B t s v n us) (hb : w.heap[p5]? = some (.cells cs 47 (0, 0))) (ht : t ≠ 47) : ∀ k, v.ownBlock = some k → k ≠ p5 := fun k e e2 => by
  obtain ⟨cur, hc⟩ := row_kind9 h e
  rw [e2, hb] at hc
  simp only [Option.some.injEq, Obj.cells.injEq] at hc
  exact ht hc.2.1.symm
theorem Lo.same {B : Nat} (h : Lo wx B vB ls) (hk : ∀ (k : Nat) (t : TypeId), t ≠ 47 → (∃ cur : Array Value, wx.heap[k]? = some (Obj.cells cur t (0, 0))) → w'.heap[k]? = wx.heap[k]?) : Lo w' B vB ls := by
  obtain ⟨us, h1, h2⟩ := h
  exact ⟨us, row_same9 h1 (fun k e => hk k _ (by decide) (row_kind9 h1 e)), fun j xs u hx hu => row_same9 (h2 j xs u hx hu) (fun k e => hk k _ (by decide) (row_kind9 (h2 j xs u hx hu) e))⟩
theorem Bx.later (h : Bx wX wx p5 fr tt kd vN vB ns ls) (hb : Below wx.heap.size wx w') : Bx wX w' p5 fr tt kd vN vB ns ls :=
  ⟨h.below.trans (hb.mono h.below.size), h.ge, (hb.block p5 h.lt).trans h.blk, row_same9 h.own (fun k e => hb.block k (h.own.lt k e).2), h.rows.grown hb⟩
/-- Its rows are others now. -/
theorem Bx.put (h : Bx wX wx p5 fr tt kd vN vB ns ls) (hg : wx.grownBy w4 vB.ownBlock) (hL : Lo w4 wX.heap.size vB' ls') : Bx wX (w4.setCell ⟨p5, 4, none⟩ vB') p5 fr tt kd vN vB' ns ls' := by
  obtain ⟨us, h1, h2⟩ := h.rows
  have hset := grownBy_setCell w4 ⟨p5, 4, none⟩ vB'
  have hne : ∀ k, k ≠ p5 → (w4.setCell ⟨p5, 4, none⟩ vB').heap[k]? = w4.heap[k]? := fun k hk => RowKit.Below.heap_setCell _ _ _ _ hk
  have hb4 : w4.heap[p5]? = some (.cells #[.int .i64 fr, .int .i64 tt, .int .i64 kd, vN, vB] 47 (0, 0)) := (hg.block p5 h.lt (fun e => row_not h1 h.blk (by decide) p5 e.symm rfl)).trans h.blk
  have hbl : Below wX.heap.size wX w4 := h.below.grown hg h.below.size (fun z hz => (h1.lt z hz).1)
  have ho4 := h.own.kept hg (own_kinds h1 h.own (by decide))
  refine ⟨⟨hset.os.trans hbl.os, hset.tape.trans hbl.tape, hset.output.trans hbl.output, Nat.le_trans hbl.size hset.size, fun k hk => ?_⟩, h.ge, ?_, row_same9 ho4 (fun k e => hne k (row_not ho4 hb4 (by decide) k e)), hL.same (fun k t ht ⟨cur, hc⟩ => hne k (fun e => ?_))⟩
  · have := h.ge
    rw [hne k (by omega)]
    exact hbl.block k hk
  · simp [World.setCell, Array.getElem?_modify, hb4]
  · rw [e, hb4] at hc
    simp only [Option.some.injEq, Obj.cells.injEq] at hc
    exact ht hc.2.1.symm
set_option maxHeartbeats 1000000 in
/-- Just written down. -/
theorem Bx.start {wY : World} {a52 : Option Addr} {n52 c52 : Nat} (hb : Below wX.heap.size wX wY) (hk : wY.heap[p5]? = some (.cells #[.int .i64 0, .int .i64 0, .int .i64 0, .slice none 0 0, .slice none 0 0] 47)) (hge : wX.heap.size ≤ p5) (ho : wY.ownsRow wX.heap.size 2 1 (.slice a52 n52 c52) n52 (ns.map (Value.int .i64))) (hn : n52 = ns.length) :
    Bx wX (((((wY.setCell ⟨p5, 0, none⟩ (.int .i64 fr)).setCell ⟨p5, 1, none⟩ (.int .i64 tt)).setCell ⟨p5, 2, none⟩ (.int .i64 kd)).setCell ⟨p5, 3, none⟩ (.slice a52 n52 c52)).setCell ⟨p5, 4, none⟩ (.slice none 0 0)) p5 fr tt kd (.slice a52 n52 c52) (.slice none 0 0) ns [] := by
  have hne : ∀ k, k ≠ p5 → (((((wY.setCell ⟨p5, 0, none⟩ (.int .i64 fr)).setCell ⟨p5, 1, none⟩ (.int .i64 tt)).setCell ⟨p5, 2, none⟩ (.int .i64 kd)).setCell ⟨p5, 3, none⟩ (.slice a52 n52 c52)).setCell ⟨p5, 4, none⟩ (.slice none 0 0)).heap[k]? = wY.heap[k]? := fun k hk => (RowKit.Below.heap_setCell _ _ _ _ hk).trans ((RowKit.Below.heap_setCell _ _ _ _ hk).trans ((RowKit.Below.heap_setCell _ _ _ _ hk).trans ((RowKit.Below.heap_setCell _ _ _ _ hk).trans (RowKit.Below.heap_setCell _ _ _ _ hk))))
  subst hn
  refine ⟨⟨hb.os, hb.tape, hb.output, by have e := hb.size; simp only [World.setCell, Array.size_modify]; exact e, fun k hk2 => ?_⟩, hge, ?_, row_same9 ho (fun k e => hne k (row_not ho hk (by decide) k e)), Lo.nil _ _⟩
  · rw [hne k (by omega)]
    exact hb.block k hk2
  · simp [World.setCell, Array.getElem?_modify, hk]
end

/-- A message behind the others, its row just made. -/
theorem Rf9.putRow {w wX w4 : World} {q : Nat} {n : Nq.Nt} {G : Nat → Prop} {v v' : Value} {ts : List Mt} {C : List Value} {m : Nq.Ms} {a b : Value} (h : Rf9 w q n G v ts C) (hX : Below w.heap.size w wX) (hb : Below wX.heap.size wX w4) (ho : w4.ownsRow wX.heap.size 47 5 v' (ts ++ [(m, a, b)]).length (cs5 (ts ++ [(m, a, b)]))) (hm : Nq.may n m = true) (hp : Mp wX m a b (fun k => w.heap.size ≤ k)) (hl : Lite m) :
    ∃ G' v2 ts' C', Rf9 (w4.setCell ⟨q, 2, none⟩ v') q (Nq.put n m) G' v2 ts' C' ∧ Moved w (w4.setCell ⟨q, 2, none⟩ v') (Gq q G) (Gq q G') := by
  have hW := hX.trans (hb.mono hX.size)
  have hp4 : Mp w4 m a b (fun k => w.heap.size ≤ k ∧ k < wX.heap.size) := hp.bound.keep (fun k hk => hb.block k hk.2)
  refine ⟨_, _, _, _, h.newRow hW (ho.mono hX.size) (fun z hz => ?_) ⟨(Nq.put_room n m).2, (Nq.put_room n m).1, by rw [Nq.put_yes hm]⟩ ?_ (fine_put h.fine hl)⟩
  · rcases List.mem_append.1 hz with e | e
    · exact (h.parts z e).in_new hW (fun k hk => h.glt k hk)
    · have e2 : z = (m, a, b) := by simpa using e
      subst e2
      exact hp4.mono (fun k hk => Or.inr ⟨hk.1, Nat.lt_of_lt_of_le hk.2 hb.size⟩)
  · rw [Nq.put_yes hm, List.map_append, h.ms]
    rfl

end Go.Proofs.Ytkldecdjokfajaa
