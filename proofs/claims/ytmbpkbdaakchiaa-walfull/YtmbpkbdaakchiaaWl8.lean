/- The log as it landed: a block of fields, its records in rows that it owns. -/
import Derived.Test.YtmbpkbdaakchiaaSpecs8
import Derived.Test.YtmbpkbdaakchiaaPlainY8
import Derived.Test.YtmbpkbdaakchiaaWSpecs7
import Derived.Test.YtmbpkbdaakchiaaWScan
import Derived.Test.YtmbpkbdaakchiaaLibW
import Derived.Test.YtmbpkbdaakchiaaHeld
import Derived.Test.YtmbpkbdaakchiaaTakeAt
import Derived.Maps.AppendAt
namespace Go.Proofs.Ytmbpkbdaakchiaa
open Go.RowKit

/-- The landed log at ql, over the disk at qd; sz: what it takes for the bytes of its frames. -/
structure WlU (w : World) (ql qd : Nat) (g : Wq.Lg) (G : Nat → Prop) (v : Value) (us : List Value) (sz : Int) : Prop where
  blk : Blk w ql [dptr qd, .int .i64 (g.lives : Int), .bool g.done, .int .i64 g.first, v, .int .i64 sz] 56
  own : w.ownsRow 0 31 1 v g.recs.length us
  rows : ∀ (j : Nat) u x, us[j]? = some u → g.recs[j]? = some x → w.ownsRow 0 5 1 u x.length (bc x) ∧ ∀ k, u.ownBlock = some k → G k
  gq : G ql
  gv : ∀ k, v.ownBlock = some k → G k
  glt : ∀ k, G k → k < w.heap.size
  fine : FineG g

/-- What it takes for the bytes is what they are. -/
def WlD : RepG := fun w ql qd g G => ∃ v us, WlU w ql qd g G v us ((Fr.frames g.recs).length : Int)

/-- The blocks that there are behind a call. -/
def Gl (w w' : World) (G : Nat → Prop) : Nat → Prop := fun k => G k ∨ (w.heap.size ≤ k ∧ k < w'.heap.size)

theorem moved_set {w : World} {q i : Nat} {u : Value} {G : Nat → Prop} (h : G q) : Moved w (w.setCell ⟨q, i, none⟩ u) G G := by
  have hset := grownBy_setCell w ⟨q, i, none⟩ u
  exact ⟨hset.os, hset.tape, hset.output, hset.size, fun k _ hG => RowKit.Below.heap_setCell _ _ _ _ (fun e => hG (e ▸ h)), fun k hk => Or.inl hk⟩

theorem DkD.keep {w w' : World} {q : Nat} {st : Dq.St} {F : Nat → Prop} (h : DkD w q st F) (hk : ∀ k, F k → w'.heap[k]? = w.heap[k]?) : DkD w' q st F := specs_any7.keep h hk
theorem DkD.lt {w : World} {q : Nat} {st : Dq.St} {F : Nat → Prop} (h : DkD w q st F) {k : Nat} (hk : F k) : k < w.heap.size := specs_any7.lt h hk
theorem DkD.below {w w' : World} {q : Nat} {st : Dq.St} {F : Nat → Prop} (h : DkD w q st F) (hb : Below w.heap.size w w') : DkD w' q st F := h.keep fun k hk => hb.block k (h.lt hk)

section
variable {w w' w4 : World} {ql qd : Nat} {g : Wq.Lg} {G : Nat → Prop} {v v' : Value} {us us' : List Value} {sz : Int} {recs' : List (List UInt8)}

theorem WlU.keep (h : WlU w ql qd g G v us sz) (hs : w.heap.size ≤ w'.heap.size) (hk : ∀ k, G k → w'.heap[k]? = w.heap[k]?) : WlU w' ql qd g G v us sz :=
  ⟨h.blk.keep (hk ql h.gq), row_keep h.own (fun k e => hk k (h.gv k e)), fun j u x hu hx => ⟨row_keep (h.rows j u x hu hx).1 (fun k e => hk k ((h.rows j u x hu hx).2 k e)), (h.rows j u x hu hx).2⟩, h.gq, h.gv, fun k e => Nat.lt_of_lt_of_le (h.glt k e) hs, h.fine⟩
theorem WlU.below (h : WlU w ql qd g G v us sz) (hb : Below w.heap.size w w') : WlU w' ql qd g G v us sz := h.keep hb.size fun k hk => hb.block k (h.glt k hk)
theorem WlU.ulen (h : WlU w ql qd g G v us sz) : us.length = g.recs.length := by have := h.own.1; omega
/-- Its blocks are apart from a disk's that has moved. -/
theorem WlU.other {X X' : Nat → Prop} (h : WlU w ql qd g G v us sz) (hm : Moved w w' X X') (ha : ∀ k, X k → ¬ G k) : WlU w' ql qd g G v us sz ∧ ∀ k, X' k → ¬ G k := by
  refine ⟨h.keep hm.size (fun k hk => hm.block k (h.glt k hk) (fun e => ha k e hk)), fun k hX hk => ?_⟩
  rcases hm.sub k hX with e | e
  · exact ha k e hk
  · have := h.glt k hk
    omega
/-- A row lies elsewhere than the log's own block. -/
theorem Blk.row_ne {cs : List Value} (hq : Blk w ql cs 56) {B n : Nat} {t : TypeId} {u : Value} {xs : List Value} (hu : w.ownsRow B t 1 u n xs) (ht : t ≠ 56) : ∀ k, u.ownBlock = some k → k ≠ ql := fun k e e2 => by
  obtain ⟨cur, hc⟩ := row_block hu e
  unfold Blk at hq
  rw [e2, hq] at hc
  simp only [Option.some.injEq, Obj.cells.injEq] at hc
  exact ht hc.2.1.symm
theorem Blk.row_set {cs : List Value} (hq : Blk w ql cs 56) {B n i : Nat} {t : TypeId} {u y : Value} {xs : List Value} (hu : w.ownsRow B t 1 u n xs) (ht : t ≠ 56) : (w.setCell ⟨ql, i, none⟩ y).ownsRow B t 1 u n xs :=
  row_keep hu (fun k e => RowKit.Below.heap_setCell _ _ _ _ (hq.row_ne hu ht k e))
theorem WlU.vne (h : WlU w ql qd g G v us sz) : ∀ k, v.ownBlock = some k → k ≠ ql := h.blk.row_ne h.own (by decide)

theorem WlU.lt_set (h : WlU w ql qd g G v us sz) (i : Nat) (u : Value) : ∀ k, G k → k < (w.setCell ⟨ql, i, none⟩ u).heap.size := fun k e => Nat.lt_of_lt_of_le (h.glt k e) (grownBy_setCell w ⟨ql, i, none⟩ u).size
/-- The done-flag is written. -/
theorem WlU.setDone (h : WlU w ql qd g G v us sz) : WlU (w.setCell ⟨ql, 2, none⟩ (.bool true)) ql qd { g with done := true } G v us sz :=
  ⟨h.blk.set 2 (.bool true), h.blk.row_set h.own (by decide), fun j u x hu hx => ⟨h.blk.row_set (h.rows j u x hu hx).1 (by decide), (h.rows j u x hu hx).2⟩, h.gq, h.gv, h.lt_set 2 _, ⟨h.fine.lo, h.fine.hi, h.fine.len, h.fine.recs⟩⟩
/-- The first number is written. -/
theorem WlU.setFirst (h : WlU w ql qd g G v us sz) {n : Int} (h1 : 1 ≤ n) (h2 : n ≤ 1099511627776) : WlU (w.setCell ⟨ql, 3, none⟩ (.int .i64 n)) ql qd { g with first := n } G v us sz :=
  ⟨h.blk.set 3 (.int .i64 n), h.blk.row_set h.own (by decide), fun j u x hu hx => ⟨h.blk.row_set (h.rows j u x hu hx).1 (by decide), (h.rows j u x hu hx).2⟩, h.gq, h.gv, h.lt_set 3 _, ⟨h1, h2, h.fine.len, h.fine.recs⟩⟩
/-- The size is written. -/
theorem WlU.setSize (h : WlU w ql qd g G v us sz) (z : Int) : WlU (w.setCell ⟨ql, 5, none⟩ (.int .i64 z)) ql qd g G v us z :=
  ⟨h.blk.set 5 (.int .i64 z), h.blk.row_set h.own (by decide), fun j u x hu hx => ⟨h.blk.row_set (h.rows j u x hu hx).1 (by decide), (h.rows j u x hu hx).2⟩, h.gq, h.gv, h.lt_set 5 _, h.fine⟩

/-- The log's rows are others now. -/
theorem WlU.put (h : WlU w ql qd g G v us sz) (hg : w.grownBy w4 v.ownBlock) (hfin : FineG { g with recs := recs' }) (ho : w4.ownsRow 0 31 1 v' recs'.length us') (hv : ∀ k, v'.ownBlock = some k → G k ∨ w.heap.size ≤ k)
    (hrows : ∀ (j : Nat) u x, us'[j]? = some u → recs'[j]? = some x → w4.ownsRow 0 5 1 u x.length (bc x) ∧ ∀ k, u.ownBlock = some k → G k ∨ w.heap.size ≤ k) :
    WlU (w4.setCell ⟨ql, 4, none⟩ v') ql qd { g with recs := recs' } (Gl w w4 G) v' us' sz ∧ Moved w (w4.setCell ⟨ql, 4, none⟩ v') G (Gl w w4 G) := by
  have hset := grownBy_setCell w4 ⟨ql, 4, none⟩ v'
  have hne : ∀ k, k ≠ ql → (w4.setCell ⟨ql, 4, none⟩ v').heap[k]? = w4.heap[k]? := fun k hk => RowKit.Below.heap_setCell _ _ _ _ hk
  have hq4 : Blk w4 ql _ 56 := h.blk.keep (hg.block ql h.blk.lt (fun e => h.vne ql e.symm rfl))
  have hin : ∀ {B n : Nat} {t : TypeId} {u : Value} {xs : List Value}, w4.ownsRow B t 1 u n xs → (∀ k, u.ownBlock = some k → G k ∨ w.heap.size ≤ k) → ∀ k, u.ownBlock = some k → Gl w w4 G k := fun hu hk k e => by
    rcases hk k e with h1 | h1
    · exact Or.inl h1
    · exact Or.inr ⟨h1, (hu.lt k e).2⟩
  refine ⟨⟨hq4.set 4 v', hq4.row_set ho (by decide), fun j u x hu hx => ?_, Or.inl h.gq, hin ho hv, fun k hk => ?_, hfin⟩, ⟨hset.os.trans hg.os, hset.tape.trans hg.tape, hset.output.trans hg.output, Nat.le_trans hg.size hset.size, fun k hk hG => ?_, fun k hk => ?_⟩⟩
  · obtain ⟨h1, h2⟩ := hrows j u x hu hx
    exact ⟨hq4.row_set h1 (by decide), hin h1 h2⟩
  · refine Nat.lt_of_lt_of_le ?_ hset.size
    rcases hk with hk | hk
    · exact Nat.lt_of_lt_of_le (h.glt k hk) hg.size
    · exact hk.2
  · rw [hne k (fun e => hG (e ▸ h.gq))]
    exact hg.block k hk (fun e => hG (h.gv k e.symm))
  · rcases hk with hk | hk
    · exact Or.inl hk
    · exact Or.inr hk.1

/-- A row more. -/
theorem WlU.more {r : List UInt8} {w3 : World} {u : Value} (h : WlU w ql qd g G v us sz) (hl : g.recs.length ≤ 9999) (hr : r.length ≤ 20000) (hb : Below w.heap.size w w3) (hu : w3.ownsRow w.heap.size 5 1 u r.length (bc r)) (hg : w3.grownBy w4 v.ownBlock) (ho : w4.ownsRow 0 31 1 v' (g.recs.length + 1) (us ++ [u])) (hat : v'.ownBlock = v.ownBlock ∨ v'.ownBlock = some w3.heap.size) :
    WlU (w4.setCell ⟨ql, 4, none⟩ v') ql qd { g with recs := g.recs ++ [r] } (Gl w w4 G) v' (us ++ [u]) sz ∧ Moved w (w4.setCell ⟨ql, 4, none⟩ v') G (Gl w w4 G) := by
  have h3 := h.below hb
  have hul := h.ulen
  refine h.put ((grownBy_below hb).trans hg) ⟨h.fine.lo, h.fine.hi, by simp; omega, fun x hx => ?_⟩ (by simpa using ho) (fun k e => ?_) (fun j y x hy hx => ?_)
  · rcases List.mem_append.1 hx with hx | hx
    · exact h.fine.recs x hx
    · simp at hx
      rw [hx]
      exact hr
  · rcases hat with h1 | h1
    · exact Or.inl (h.gv k (h1.symm.trans e))
    · rw [e] at h1
      simp only [Option.some.injEq] at h1
      have := hb.size
      exact Or.inr (by omega)
  · by_cases hj : j < g.recs.length
    · rw [List.getElem?_append_left hj] at hx
      rw [List.getElem?_append_left (by omega)] at hy
      obtain ⟨h4, h5⟩ := h3.rows j y x hy hx
      exact ⟨h4.kept hg (own_kinds h3.own h4 (by decide)), fun k e => Or.inl (h5 k e)⟩
    · have hj2 : j = g.recs.length := by
        have := (List.getElem?_eq_some_iff.1 hx).1
        simp at this
        omega
      subst hj2
      rw [List.getElem?_append_right (Nat.le_refl _), Nat.sub_self] at hx
      rw [List.getElem?_append_right (by omega), hul, Nat.sub_self] at hy
      simp at hx hy
      subst hx hy
      refine ⟨(hu.mono (Nat.zero_le _)).kept hg (own_kinds h3.own hu (by decide)), fun k e => Or.inr (hu.lt k e).1⟩

/-- What a call of a log comes to, the log being the very one. -/
theorem post_of {st' : Dq.St} {g' : Wq.Lg} {F F' G' : Nat → Prop} (hd : DkD w' qd st' F') (hg : WlD w' ql qd g' G') (ha : ∀ k, F' k → ¬ G' k) (hm : Moved w w' (both F G) (both F' G')) : Post8 DkD WlD w ql qd F G g' st' w' :=
  ⟨F', G', g', hd, hg, Wq.Like.refl _ _, ha, hm⟩
theorem Post8.before {st' : Dq.St} {g' : Wq.Lg} {F F1 G1 : Nat → Prop} {w1 : World} (h : Post8 DkD WlD w ql qd F G g' st' w') (hm : Moved w1 w (both F1 G1) (both F G)) : Post8 DkD WlD w1 ql qd F1 G1 g' st' w' := by
  obtain ⟨F', G', g2, h1, h2, h3, h4, h5⟩ := h
  exact ⟨F', G', g2, h1, h2, h3, h4, hm.trans h5⟩
/-- A log that was done before answers alike, its flag written or not. -/
theorem post_dead {st : Dq.St} {F : Nat → Prop} (hd : DkD w qd st F) (hg : WlD w ql qd g G) (ha : ∀ k, F k → ¬ G k) (ho : Wq.off g st = true) : Post8 DkD WlD w ql qd F G { g with done := true } st w :=
  ⟨F, G, g, hd, hg, ⟨rfl, rfl, rfl, by rw [ho, Wq.off_true]⟩, ha, Moved.refl _ _⟩
theorem Moved.rightL {F G' : Nat → Prop} (h : Moved w w' G G') : Moved w w' (both F G) (both F G') := ⟨h.os, h.tape, h.output, h.size, fun k hk hF => h.block k hk (fun e => hF (Or.inr e)), fun k hk => by
  rcases hk with hk | hk
  · exact Or.inl (Or.inl hk)
  · rcases h.sub k hk with h1 | h1
    · exact Or.inl (Or.inr h1)
    · exact Or.inr h1⟩
/-- The done-flag, told of both. -/
theorem post_done {st : Dq.St} {F : Nat → Prop} (hd : DkD w qd st F) (hg : WlU w ql qd g G v us ((Fr.frames g.recs).length : Int)) (ha : ∀ k, F k → ¬ G k) : Post8 DkD WlD w ql qd F G { g with done := true } st (w.setCell ⟨ql, 2, none⟩ (.bool true)) := by
  have h2 : Moved w (w.setCell ⟨ql, 2, none⟩ (.bool true)) G G := moved_set hg.gq
  exact post_of (hd.keep (fun k hk => h2.block k (hd.lt hk) (ha k hk))) ⟨v, us, hg.setDone⟩ ha h2.rightL
end
end Go.Proofs.Ytmbpkbdaakchiaa
