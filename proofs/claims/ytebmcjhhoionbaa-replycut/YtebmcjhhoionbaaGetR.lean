/- What a Get of replies has under way: the reply, the results that were read, the one that is being read. -/
import Derived.Test.YtebmcjhhoionbaaFail6
import Derived.Test.YtebmcjhhoionbaaPlainY
import Derived.Deep.Onto
namespace Go.Proofs.Ytebmcjhhoionbaa
open Go.RowKit

/-- A result's eleven cells that a call owns, and may write. -/
structure XV (w : World) (q : Nat) (x : X) (nv : Value) : Prop where
  box : BoxX w q x nv
  free : ∀ i : Nat, w.frozen? ⟨q, i, none⟩ = false

theorem XV.lt {w : World} {q : Nat} {x : X} {nv : Value} (h : XV w q x nv) : q < w.heap.size := World.block_lt_of_cell? w _ h.box.c0
theorem XV.made (w : World) (x : X) (nv : Value) (t : TypeId) : XV (w.alloc (.cells #[.int .i64 x.err, .string x.path, .string x.data, nv, .int .i64 x.made, .int .i64 x.changed, .int .i64 x.ver, .int .i64 x.kids, .int .i64 x.owner, .int .i64 x.len, .int .i64 x.cnt] t)) w.heap.size x nv :=
  ⟨BoxX.made w x nv t, fun i => by simp⟩
theorem XV.grown {w w' : World} {q k : Nat} {x : X} {nv : Value} (h : XV w q x nv) (hg : w.grownBy w' (some k)) (hr : q ≠ k) : XV w' q x nv := by
  have hb := hg.block q h.lt (by simpa using hr)
  exact ⟨⟨(World.cell?_of_block hb).trans h.box.c0, (World.cell?_of_block hb).trans h.box.c1, (World.cell?_of_block hb).trans h.box.c2, (World.cell?_of_block hb).trans h.box.c3, (World.cell?_of_block hb).trans h.box.c4, (World.cell?_of_block hb).trans h.box.c5, (World.cell?_of_block hb).trans h.box.c6, (World.cell?_of_block hb).trans h.box.c7, (World.cell?_of_block hb).trans h.box.c8, (World.cell?_of_block hb).trans h.box.c9, (World.cell?_of_block hb).trans h.box.c10⟩, fun i => (World.frozen?_of_block hb).trans (h.free i)⟩
theorem XV.set1 {w : World} {q : Nat} {x : X} {nv : Value} (h : XV w q x nv) (y : ByteArray) : XV (w.setCell ⟨q, 1, none⟩ (.string y)) q { x with path := y } nv := by
  refine ⟨⟨?_, ?_, ?_, ?_, ?_, ?_, ?_, ?_, ?_, ?_, ?_⟩, fun i => by simpa using h.free i⟩
  · rw [World.cell?_setCell_other _ _ _ _ (by simp)]; exact h.box.c0
  · exact World.cell?_setCell_same _ _ _ h.box.c1
  · rw [World.cell?_setCell_other _ _ _ _ (by simp)]; exact h.box.c2
  · rw [World.cell?_setCell_other _ _ _ _ (by simp)]; exact h.box.c3
  · rw [World.cell?_setCell_other _ _ _ _ (by simp)]; exact h.box.c4
  · rw [World.cell?_setCell_other _ _ _ _ (by simp)]; exact h.box.c5
  · rw [World.cell?_setCell_other _ _ _ _ (by simp)]; exact h.box.c6
  · rw [World.cell?_setCell_other _ _ _ _ (by simp)]; exact h.box.c7
  · rw [World.cell?_setCell_other _ _ _ _ (by simp)]; exact h.box.c8
  · rw [World.cell?_setCell_other _ _ _ _ (by simp)]; exact h.box.c9
  · rw [World.cell?_setCell_other _ _ _ _ (by simp)]; exact h.box.c10
theorem XV.set2 {w : World} {q : Nat} {x : X} {nv : Value} (h : XV w q x nv) (y : ByteArray) : XV (w.setCell ⟨q, 2, none⟩ (.string y)) q { x with data := y } nv := by
  refine ⟨⟨?_, ?_, ?_, ?_, ?_, ?_, ?_, ?_, ?_, ?_, ?_⟩, fun i => by simpa using h.free i⟩
  · rw [World.cell?_setCell_other _ _ _ _ (by simp)]; exact h.box.c0
  · rw [World.cell?_setCell_other _ _ _ _ (by simp)]; exact h.box.c1
  · exact World.cell?_setCell_same _ _ _ h.box.c2
  · rw [World.cell?_setCell_other _ _ _ _ (by simp)]; exact h.box.c3
  · rw [World.cell?_setCell_other _ _ _ _ (by simp)]; exact h.box.c4
  · rw [World.cell?_setCell_other _ _ _ _ (by simp)]; exact h.box.c5
  · rw [World.cell?_setCell_other _ _ _ _ (by simp)]; exact h.box.c6
  · rw [World.cell?_setCell_other _ _ _ _ (by simp)]; exact h.box.c7
  · rw [World.cell?_setCell_other _ _ _ _ (by simp)]; exact h.box.c8
  · rw [World.cell?_setCell_other _ _ _ _ (by simp)]; exact h.box.c9
  · rw [World.cell?_setCell_other _ _ _ _ (by simp)]; exact h.box.c10
theorem XV.set3 {w : World} {q : Nat} {x : X} {nv : Value} (h : XV w q x nv) (ts : List ByteArray) (y : Value) : XV (w.setCell ⟨q, 3, none⟩ y) q { x with names := ts } y := by
  refine ⟨⟨?_, ?_, ?_, ?_, ?_, ?_, ?_, ?_, ?_, ?_, ?_⟩, fun i => by simpa using h.free i⟩
  · rw [World.cell?_setCell_other _ _ _ _ (by simp)]; exact h.box.c0
  · rw [World.cell?_setCell_other _ _ _ _ (by simp)]; exact h.box.c1
  · rw [World.cell?_setCell_other _ _ _ _ (by simp)]; exact h.box.c2
  · exact World.cell?_setCell_same _ _ _ h.box.c3
  · rw [World.cell?_setCell_other _ _ _ _ (by simp)]; exact h.box.c4
  · rw [World.cell?_setCell_other _ _ _ _ (by simp)]; exact h.box.c5
  · rw [World.cell?_setCell_other _ _ _ _ (by simp)]; exact h.box.c6
  · rw [World.cell?_setCell_other _ _ _ _ (by simp)]; exact h.box.c7
  · rw [World.cell?_setCell_other _ _ _ _ (by simp)]; exact h.box.c8
  · rw [World.cell?_setCell_other _ _ _ _ (by simp)]; exact h.box.c9
  · rw [World.cell?_setCell_other _ _ _ _ (by simp)]; exact h.box.c10
theorem XV.set4 {w : World} {q : Nat} {x : X} {nv : Value} (h : XV w q x nv) (y : Int) : XV (w.setCell ⟨q, 4, none⟩ (.int .i64 y)) q { x with made := y } nv := by
  refine ⟨⟨?_, ?_, ?_, ?_, ?_, ?_, ?_, ?_, ?_, ?_, ?_⟩, fun i => by simpa using h.free i⟩
  · rw [World.cell?_setCell_other _ _ _ _ (by simp)]; exact h.box.c0
  · rw [World.cell?_setCell_other _ _ _ _ (by simp)]; exact h.box.c1
  · rw [World.cell?_setCell_other _ _ _ _ (by simp)]; exact h.box.c2
  · rw [World.cell?_setCell_other _ _ _ _ (by simp)]; exact h.box.c3
  · exact World.cell?_setCell_same _ _ _ h.box.c4
  · rw [World.cell?_setCell_other _ _ _ _ (by simp)]; exact h.box.c5
  · rw [World.cell?_setCell_other _ _ _ _ (by simp)]; exact h.box.c6
  · rw [World.cell?_setCell_other _ _ _ _ (by simp)]; exact h.box.c7
  · rw [World.cell?_setCell_other _ _ _ _ (by simp)]; exact h.box.c8
  · rw [World.cell?_setCell_other _ _ _ _ (by simp)]; exact h.box.c9
  · rw [World.cell?_setCell_other _ _ _ _ (by simp)]; exact h.box.c10
theorem XV.set5 {w : World} {q : Nat} {x : X} {nv : Value} (h : XV w q x nv) (y : Int) : XV (w.setCell ⟨q, 5, none⟩ (.int .i64 y)) q { x with changed := y } nv := by
  refine ⟨⟨?_, ?_, ?_, ?_, ?_, ?_, ?_, ?_, ?_, ?_, ?_⟩, fun i => by simpa using h.free i⟩
  · rw [World.cell?_setCell_other _ _ _ _ (by simp)]; exact h.box.c0
  · rw [World.cell?_setCell_other _ _ _ _ (by simp)]; exact h.box.c1
  · rw [World.cell?_setCell_other _ _ _ _ (by simp)]; exact h.box.c2
  · rw [World.cell?_setCell_other _ _ _ _ (by simp)]; exact h.box.c3
  · rw [World.cell?_setCell_other _ _ _ _ (by simp)]; exact h.box.c4
  · exact World.cell?_setCell_same _ _ _ h.box.c5
  · rw [World.cell?_setCell_other _ _ _ _ (by simp)]; exact h.box.c6
  · rw [World.cell?_setCell_other _ _ _ _ (by simp)]; exact h.box.c7
  · rw [World.cell?_setCell_other _ _ _ _ (by simp)]; exact h.box.c8
  · rw [World.cell?_setCell_other _ _ _ _ (by simp)]; exact h.box.c9
  · rw [World.cell?_setCell_other _ _ _ _ (by simp)]; exact h.box.c10
theorem XV.set6 {w : World} {q : Nat} {x : X} {nv : Value} (h : XV w q x nv) (y : Int) : XV (w.setCell ⟨q, 6, none⟩ (.int .i64 y)) q { x with ver := y } nv := by
  refine ⟨⟨?_, ?_, ?_, ?_, ?_, ?_, ?_, ?_, ?_, ?_, ?_⟩, fun i => by simpa using h.free i⟩
  · rw [World.cell?_setCell_other _ _ _ _ (by simp)]; exact h.box.c0
  · rw [World.cell?_setCell_other _ _ _ _ (by simp)]; exact h.box.c1
  · rw [World.cell?_setCell_other _ _ _ _ (by simp)]; exact h.box.c2
  · rw [World.cell?_setCell_other _ _ _ _ (by simp)]; exact h.box.c3
  · rw [World.cell?_setCell_other _ _ _ _ (by simp)]; exact h.box.c4
  · rw [World.cell?_setCell_other _ _ _ _ (by simp)]; exact h.box.c5
  · exact World.cell?_setCell_same _ _ _ h.box.c6
  · rw [World.cell?_setCell_other _ _ _ _ (by simp)]; exact h.box.c7
  · rw [World.cell?_setCell_other _ _ _ _ (by simp)]; exact h.box.c8
  · rw [World.cell?_setCell_other _ _ _ _ (by simp)]; exact h.box.c9
  · rw [World.cell?_setCell_other _ _ _ _ (by simp)]; exact h.box.c10
theorem XV.set7 {w : World} {q : Nat} {x : X} {nv : Value} (h : XV w q x nv) (y : Int) : XV (w.setCell ⟨q, 7, none⟩ (.int .i64 y)) q { x with kids := y } nv := by
  refine ⟨⟨?_, ?_, ?_, ?_, ?_, ?_, ?_, ?_, ?_, ?_, ?_⟩, fun i => by simpa using h.free i⟩
  · rw [World.cell?_setCell_other _ _ _ _ (by simp)]; exact h.box.c0
  · rw [World.cell?_setCell_other _ _ _ _ (by simp)]; exact h.box.c1
  · rw [World.cell?_setCell_other _ _ _ _ (by simp)]; exact h.box.c2
  · rw [World.cell?_setCell_other _ _ _ _ (by simp)]; exact h.box.c3
  · rw [World.cell?_setCell_other _ _ _ _ (by simp)]; exact h.box.c4
  · rw [World.cell?_setCell_other _ _ _ _ (by simp)]; exact h.box.c5
  · rw [World.cell?_setCell_other _ _ _ _ (by simp)]; exact h.box.c6
  · exact World.cell?_setCell_same _ _ _ h.box.c7
  · rw [World.cell?_setCell_other _ _ _ _ (by simp)]; exact h.box.c8
  · rw [World.cell?_setCell_other _ _ _ _ (by simp)]; exact h.box.c9
  · rw [World.cell?_setCell_other _ _ _ _ (by simp)]; exact h.box.c10
theorem XV.set8 {w : World} {q : Nat} {x : X} {nv : Value} (h : XV w q x nv) (y : Int) : XV (w.setCell ⟨q, 8, none⟩ (.int .i64 y)) q { x with owner := y } nv := by
  refine ⟨⟨?_, ?_, ?_, ?_, ?_, ?_, ?_, ?_, ?_, ?_, ?_⟩, fun i => by simpa using h.free i⟩
  · rw [World.cell?_setCell_other _ _ _ _ (by simp)]; exact h.box.c0
  · rw [World.cell?_setCell_other _ _ _ _ (by simp)]; exact h.box.c1
  · rw [World.cell?_setCell_other _ _ _ _ (by simp)]; exact h.box.c2
  · rw [World.cell?_setCell_other _ _ _ _ (by simp)]; exact h.box.c3
  · rw [World.cell?_setCell_other _ _ _ _ (by simp)]; exact h.box.c4
  · rw [World.cell?_setCell_other _ _ _ _ (by simp)]; exact h.box.c5
  · rw [World.cell?_setCell_other _ _ _ _ (by simp)]; exact h.box.c6
  · rw [World.cell?_setCell_other _ _ _ _ (by simp)]; exact h.box.c7
  · exact World.cell?_setCell_same _ _ _ h.box.c8
  · rw [World.cell?_setCell_other _ _ _ _ (by simp)]; exact h.box.c9
  · rw [World.cell?_setCell_other _ _ _ _ (by simp)]; exact h.box.c10
theorem XV.set9 {w : World} {q : Nat} {x : X} {nv : Value} (h : XV w q x nv) (y : Int) : XV (w.setCell ⟨q, 9, none⟩ (.int .i64 y)) q { x with len := y } nv := by
  refine ⟨⟨?_, ?_, ?_, ?_, ?_, ?_, ?_, ?_, ?_, ?_, ?_⟩, fun i => by simpa using h.free i⟩
  · rw [World.cell?_setCell_other _ _ _ _ (by simp)]; exact h.box.c0
  · rw [World.cell?_setCell_other _ _ _ _ (by simp)]; exact h.box.c1
  · rw [World.cell?_setCell_other _ _ _ _ (by simp)]; exact h.box.c2
  · rw [World.cell?_setCell_other _ _ _ _ (by simp)]; exact h.box.c3
  · rw [World.cell?_setCell_other _ _ _ _ (by simp)]; exact h.box.c4
  · rw [World.cell?_setCell_other _ _ _ _ (by simp)]; exact h.box.c5
  · rw [World.cell?_setCell_other _ _ _ _ (by simp)]; exact h.box.c6
  · rw [World.cell?_setCell_other _ _ _ _ (by simp)]; exact h.box.c7
  · rw [World.cell?_setCell_other _ _ _ _ (by simp)]; exact h.box.c8
  · exact World.cell?_setCell_same _ _ _ h.box.c9
  · rw [World.cell?_setCell_other _ _ _ _ (by simp)]; exact h.box.c10
theorem XV.set10 {w : World} {q : Nat} {x : X} {nv : Value} (h : XV w q x nv) (y : Int) : XV (w.setCell ⟨q, 10, none⟩ (.int .i64 y)) q { x with cnt := y } nv := by
  refine ⟨⟨?_, ?_, ?_, ?_, ?_, ?_, ?_, ?_, ?_, ?_, ?_⟩, fun i => by simpa using h.free i⟩
  · rw [World.cell?_setCell_other _ _ _ _ (by simp)]; exact h.box.c0
  · rw [World.cell?_setCell_other _ _ _ _ (by simp)]; exact h.box.c1
  · rw [World.cell?_setCell_other _ _ _ _ (by simp)]; exact h.box.c2
  · rw [World.cell?_setCell_other _ _ _ _ (by simp)]; exact h.box.c3
  · rw [World.cell?_setCell_other _ _ _ _ (by simp)]; exact h.box.c4
  · rw [World.cell?_setCell_other _ _ _ _ (by simp)]; exact h.box.c5
  · rw [World.cell?_setCell_other _ _ _ _ (by simp)]; exact h.box.c6
  · rw [World.cell?_setCell_other _ _ _ _ (by simp)]; exact h.box.c7
  · rw [World.cell?_setCell_other _ _ _ _ (by simp)]; exact h.box.c8
  · rw [World.cell?_setCell_other _ _ _ _ (by simp)]; exact h.box.c9
  · exact World.cell?_setCell_same _ _ _ h.box.c10

/-- All that the call owns of the results lies below a block. -/
def Under (u : Value) (ps : List (X × Value)) (q : Nat) : Prop := (∀ k, u.ownBlock = some k → k < q) ∧ ∀ p ∈ ps, ∀ k, p.2.ownBlock = some k → k < q

theorem Xo.under {w : World} {B : Nat} {u : Value} {ps : List (X × Value)} (h : Xo w B u ps) : Under u ps w.heap.size := ⟨fun k e => (h.own.lt k e).2, fun p hp k e => ((h.names p hp).lt k e).2⟩

theorem Xo.above {w w' : World} {B k q : Nat} {v : Value} {ps : List (X × Value)} (h : Xo w B v ps) (hu : Under v ps q) (hg : w.grownBy w' (some k)) (hk : q ≤ k) : Xo w' B v ps := by
  refine ⟨h.own.kept hg (Or.inr fun e => ?_), fun p hp => (h.names p hp).kept hg (Or.inr fun e => ?_)⟩
  · have := hu.1 k e
    omega
  · have := hu.2 p hp k e
    omega

/-- What a Get has under way: the answer's place at q0, the Reader at qr, the reply at qq. -/
structure GetR (w wr : World) (q0 qr qq : Nat) (r : Rp) (u : Value) (ps : List (X × Value)) : Prop where
  ans : RepV wr q0 Rq.zero (.slice none 0 0)
  rep : RepV wr qq r u
  own : Xo wr (qq + 1) u ps
  h0 : w.heap.size ≤ q0
  r0 : q0 < qr
  rq : qr < qq
  below : Below w.heap.size w wr

/-- The Reader has read. -/
theorem GetR.read {w wr w' : World} {q0 qr qq : Nat} {r : Rp} {u : Value} {ps : List (X × Value)} (h : GetR w wr q0 qr qq r u ps) (hg : wr.grownBy w' (some qr)) : GetR w w' q0 qr qq r u ps := by
  have h0 := h.h0
  have r0 := h.r0
  have rq := h.rq
  exact ⟨h.ans.grown hg (by omega), h.rep.grown hg (by omega), h.own.kept hg (Or.inl (by omega)), h.h0, h.r0, h.rq, Below.reader h.below hg (Nat.le_refl _) (by omega)⟩

/-- A block above all that was changed, or new ones were made. -/
theorem GetR.high {w wr w' : World} {q0 qr qq q k : Nat} {r : Rp} {u : Value} {ps : List (X × Value)} (h : GetR w wr q0 qr qq r u ps) (hu : Under u ps q) (hq : qq < q) (hg : wr.grownBy w' (some k)) (hk : q ≤ k) : GetR w w' q0 qr qq r u ps := by
  have h0 := h.h0
  have r0 := h.r0
  have rq := h.rq
  exact ⟨h.ans.grown hg (by omega), h.rep.grown hg (by omega), h.own.above hu hg hk, h.h0, h.r0, h.rq, Below.reader h.below hg (Nat.le_refl _) (by omega)⟩

/-- A result is being read, at q8. -/
structure RoundX (w wr : World) (q0 qr qq q8 : Nat) (r : Rp) (u : Value) (ps : List (X × Value)) (x : X) (nv : Value) : Prop where
  st : GetR w wr q0 qr qq r u ps
  box : XV wr q8 x nv
  nm : wr.ownsRow (q8 + 1) 9 1 nv x.names.length (sc x.names)
  und : Under u ps q8
  h8 : qq < q8

theorem GetR.round {w wr : World} {q0 qr qq : Nat} {r : Rp} {u : Value} {ps : List (X × Value)} (h : GetR w wr q0 qr qq r u ps) (e : Int) (t : TypeId) :
    RoundX w (wr.alloc (.cells #[.int .i64 e, .string ⟨#[]⟩, .string ⟨#[]⟩, .slice none 0 0, .int .i64 0, .int .i64 0, .int .i64 0, .int .i64 0, .int .i64 0, .int .i64 0, .int .i64 0] t)) q0 qr qq wr.heap.size r u ps (Rq.skip e) (.slice none 0 0) :=
  ⟨h.high h.own.under h.rep.lt (World.grownBy_alloc _ _ (some wr.heap.size)) (Nat.le_refl _), XV.made wr (Rq.skip e) _ _, World.ownsRow_nil _ _ _ _, h.own.under, h.rep.lt⟩

theorem RoundX.read {w wr w' : World} {q0 qr qq q8 : Nat} {r : Rp} {u : Value} {ps : List (X × Value)} {x : X} {nv : Value} (h : RoundX w wr q0 qr qq q8 r u ps x nv) (hg : wr.grownBy w' (some qr)) : RoundX w w' q0 qr qq q8 r u ps x nv := by
  have rq := h.st.rq
  have h8 := h.h8
  refine ⟨h.st.read hg, h.box.grown hg (by omega), h.nm.kept hg (Or.inr fun e => ?_), h.und, h.h8⟩
  have := (h.nm.lt qr e).1
  omega

/-- A field of it is written. -/
theorem RoundX.set {w wr : World} {q0 qr qq q8 : Nat} {r : Rp} {u : Value} {ps : List (X × Value)} {x x' : X} {nv : Value} (h : RoundX w wr q0 qr qq q8 r u ps x nv) (i : Nat) (y : Value) (hx : XV (wr.setCell ⟨q8, i, none⟩ y) q8 x' nv) (hn : x'.names = x.names) : RoundX w (wr.setCell ⟨q8, i, none⟩ y) q0 qr qq q8 r u ps x' nv := by
  have hs := grownBy_setCell wr ⟨q8, i, none⟩ y
  refine ⟨h.st.high h.und h.h8 hs (Nat.le_refl _), hx, ?_, h.und, h.h8⟩
  rw [hn]
  refine h.nm.kept hs (Or.inr fun e => ?_)
  have := (h.nm.lt q8 e).1
  omega

/-- An owned row of Names grew: which block that was. -/
theorem RoundX.where_ {w wr wx w' : World} {q0 qr qq q8 : Nat} {r : Rp} {u : Value} {ps : List (X × Value)} {x : X} {nv : Value} (h : RoundX w wr q0 qr qq q8 r u ps x nv) (hal : wr.grownBy wx none) (hg : wx.grownBy w' nv.ownBlock) : ∃ k, wr.grownBy w' (some k) ∧ q8 < k := by
  have hgg : wr.grownBy w' nv.ownBlock := grownBy_trans ⟨hal.os, hal.tape, hal.output, hal.size, fun k hk _ => hal.block k hk (by simp)⟩ hg
  cases e : nv.ownBlock with
  | none => exact ⟨wr.heap.size, grown_row hgg _ (fun k hk => by rw [e] at hk; cases hk), h.box.lt⟩
  | some k => exact ⟨k, grown_row hgg _ (fun k' hk' => by rw [e] at hk'; exact (Option.some.inj hk').symm), (h.nm.lt k e).1⟩

/-- A name more. -/
theorem RoundX.name {w wr wx w' : World} {q0 qr qq q8 : Nat} {r : Rp} {u : Value} {ps : List (X × Value)} {x : X} {nv nv' : Value} {t : ByteArray} (h : RoundX w wr q0 qr qq q8 r u ps x nv) (hal : wr.grownBy wx none) (hg : wx.grownBy w' nv.ownBlock) (hown : w'.ownsRow (q8 + 1) 9 1 nv' (x.names ++ [t]).length (sc (x.names ++ [t]))) :
    RoundX w (w'.setCell ⟨q8, 3, none⟩ nv') q0 qr qq q8 r u ps { x with names := x.names ++ [t] } nv' := by
  obtain ⟨k, hk, hlt⟩ := h.where_ hal hg
  have hs := grownBy_setCell w' ⟨q8, 3, none⟩ nv'
  have s1 := h.st.high h.und h.h8 hk (by omega)
  refine ⟨s1.high h.und h.h8 hs (Nat.le_refl _), (h.box.grown hk (by omega)).set3 _ _, hown.kept hs (Or.inr fun e => ?_), h.und, h.h8⟩
  have := (hown.lt q8 e).1
  omega

/-- It is read, and stands behind the others. -/
theorem RoundX.push {w wr wx w' : World} {q0 qr qq q8 : Nat} {r : Rp} {u u' : Value} {ps : List (X × Value)} {x : X} {nv : Value} (h : RoundX w wr q0 qr qq q8 r u ps x nv) (hal : wr.grownBy wx none) (hg : wx.grownBy w' u.ownBlock) (hX : Xo w' (qq + 1) u' (ps ++ [(x, nv)])) :
    GetR w (w'.setCell ⟨qq, 4, none⟩ u') q0 qr qq r u' (ps ++ [(x, nv)]) ∧ RepV w' qq r u := by
  obtain ⟨k, hk, hBk⟩ := h.st.own.where_ h.st.rep.lt hal hg
  have hset := grownBy_setCell w' ⟨qq, 4, none⟩ u'
  have h0 := h.st.h0
  have r0 := h.st.r0
  have rq := h.st.rq
  have rep' := h.st.rep.grown hk (by omega)
  exact ⟨⟨(h.st.ans.grown hk (by omega)).grown hset (by show q0 ≠ qq; omega), rep'.set4 u', hX.kept hset (Or.inl (by show qq < qq + 1; omega)), h.st.h0, h.st.r0, h.st.rq, Below.reader (Below.reader h.st.below hk (Nat.le_refl _) (by omega)) hset (Nat.le_refl _) (by show w.heap.size ≤ qq; omega)⟩, rep'⟩

/-- Something is written into the answer's place. -/
theorem GetR.told {w wr : World} {q0 qr qq : Nat} {r : Rp} {u : Value} {ps : List (X × Value)} (h : GetR w wr q0 qr qq r u ps) (r' : Rp) (u' : Value) :
    Below w.heap.size w (((((wr.setCell ⟨q0, 0, none⟩ (.int .i64 r'.num)).setCell ⟨q0, 1, none⟩ (.int .i64 r'.zxid)).setCell ⟨q0, 2, none⟩ (.int .i64 r'.err)).setCell ⟨q0, 3, none⟩ (.int .i64 r'.at_)).setCell ⟨q0, 4, none⟩ u') ∧
    BoxR (((((wr.setCell ⟨q0, 0, none⟩ (.int .i64 r'.num)).setCell ⟨q0, 1, none⟩ (.int .i64 r'.zxid)).setCell ⟨q0, 2, none⟩ (.int .i64 r'.err)).setCell ⟨q0, 3, none⟩ (.int .i64 r'.at_)).setCell ⟨q0, 4, none⟩ u') q0 r' u' ∧
    Rl (((((wr.setCell ⟨q0, 0, none⟩ (.int .i64 r'.num)).setCell ⟨q0, 1, none⟩ (.int .i64 r'.zxid)).setCell ⟨q0, 2, none⟩ (.int .i64 r'.err)).setCell ⟨q0, 3, none⟩ (.int .i64 r'.at_)).setCell ⟨q0, 4, none⟩ u') u (ps.map (·.1)) := by
  obtain ⟨h1, h2⟩ := h.ans.all5 r' u'
  exact ⟨Below.reader h.below h2 (Nat.le_refl _) h.h0, h1, (h.own.kept h2 (Or.inl (by have := h.r0; have := h.rq; omega))).rl⟩

theorem GetR.later {w wr w' : World} {q0 qr qq : Nat} {r : Rp} {u : Value} {ps : List (X × Value)} (h : GetR w wr q0 qr qq r u ps) (hb : Below wr.heap.size wr w') : GetR w w' q0 qr qq r u ps :=
  ⟨h.ans.below hb, h.rep.below hb, h.own.below hb, h.h0, h.r0, h.rq, h.below.trans (hb.mono h.below.size)⟩

theorem RoundX.drew {w wr : World} {q0 qr qq q8 : Nat} {r : Rp} {u : Value} {ps : List (X × Value)} {x : X} {nv : Value} (h : RoundX w wr q0 qr qq q8 r u ps x nv) : RoundX w wr.drew q0 qr qq q8 r u ps x nv := h.read (grownBy_drew wr (some qr))
end Go.Proofs.Ytebmcjhhoionbaa
