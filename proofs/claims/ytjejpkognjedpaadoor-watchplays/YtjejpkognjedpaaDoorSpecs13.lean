/- What watch's calls are asked to answer, whatever the watches are made of (to be proved of the landed code). -/
import Derived.Test.YtjejpkognjedpaaDoorPlainH13
import Derived.Test.YtjejpkognjedpaaDoorLibN
import Derived.Test.YtjejpkognjedpaaDoorCells
namespace Go.Proofs.YtjejpkognjedpaaDoor
open Go.RowKit

theorem Pa.Std.low13 {w w' : World} (h : Pa.Std w) (hb : Below 3 w w') : Pa.Std w' := by
  obtain ⟨m, hm⟩ := h.len
  have hs := h.size
  have hs' := hb.size
  exact ⟨⟨m, by rw [hb.cell (p := ⟨0, 0, none⟩) (by simp only []; omega)]; exact hm⟩, by omega⟩
theorem Pa.Std.moved13 {w w' : World} {F F' : Nat → Prop} (h : Pa.Std w) (hm : Moved w w' F F') (hF : ∀ k, F k → 3 ≤ k) : Pa.Std w' := h.low13 (hm.below h.size hF)
/-- The three cells of an event. -/
def ev (x : Hq.Wt) : List Value := [.int .i64 x.sess, .string x.path, .int .i64 x.kind]
/-- A value is a slice of these events. -/
def Ev (w : World) (v : Value) (es : List Hq.Wt) : Prop := ∃ av k c, v = .slice av k c ∧ k = es.length ∧ k ≤ c ∧ (av = none → c = 0) ∧ ∀ (j : Nat) x, es[j]? = some x → ∃ g b, av = some ⟨g, b, none⟩ ∧ ∀ (i : Nat) u, (ev x)[i]? = some u → w.cell? ⟨g, b + (j * 3 + i), none⟩ = some u
theorem Ev.keep {w w' : World} {v : Value} {es : List Hq.Wt} (h : Ev w v es) (hk : ∀ k, v.ownBlock = some k → k < w.heap.size → w'.heap[k]? = w.heap[k]?) : Ev w' v es := by
  obtain ⟨av, k, c, rfl, hj, hc, hn, hs⟩ := h
  refine ⟨av, k, c, rfl, hj, hc, hn, fun j x hx => ?_⟩
  obtain ⟨g, b, ha, hcell⟩ := hs j x hx
  have hb := hk g (by rw [ha]; rfl) (World.block_lt_of_cell? w _ (hcell 0 _ rfl))
  exact ⟨g, b, ha, fun i u hu => (World.cell?_of_block hb).trans (hcell i u hu)⟩
theorem Ev.below {w w' : World} {v : Value} {es : List Hq.Wt} (h : Ev w v es) (hb : Below w.heap.size w w') : Ev w' v es := h.keep fun k _ hl => hb.block k hl
theorem Ev.at {w : World} {v : Value} {es : List Hq.Wt} (h : Ev w v es) (h0 : 0 < es.length) : ∃ g b c, v = .slice (some ⟨g, b, none⟩) es.length c ∧ es.length ≤ c ∧ ∀ (j : Nat) x, es[j]? = some x →
    w.cell? ⟨g, b + j * 3, none⟩ = some (.int .i64 x.sess) ∧ w.cell? ⟨g, b + j * 3 + 1, none⟩ = some (.string x.path) ∧ w.cell? ⟨g, b + j * 3 + 2, none⟩ = some (.int .i64 x.kind) := by
  obtain ⟨av, k, c, rfl, hk, hc, hn, hs⟩ := h
  obtain ⟨g, b, rfl, _⟩ := hs 0 es[0] (List.getElem?_eq_getElem h0)
  refine ⟨g, b, c, by rw [hk], by omega, fun j x hx => ?_⟩
  obtain ⟨g', b', e, hcell⟩ := hs j x hx
  simp only [Option.some.injEq, Addr.mk.injEq, and_true] at e
  obtain ⟨rfl, rfl⟩ := e
  exact ⟨hcell 0 _ rfl, hcell 1 _ rfl, hcell 2 _ rfl⟩
theorem Ev.lt {w : World} {v : Value} {es : List Hq.Wt} (h : Ev w v es) (hne : es ≠ []) {k : Nat} (hk : v.ownBlock = some k) : k < w.heap.size := by
  obtain ⟨av, n, c, rfl, _, _, _, hs⟩ := h
  cases es with
  | nil => exact absurd rfl hne
  | cons x es =>
    obtain ⟨g, b, ha, hcell⟩ := hs 0 x rfl
    subst ha
    simp only [Value.ownBlock, Option.some.injEq] at hk
    subst hk
    exact World.block_lt_of_cell? w _ (hcell 0 _ rfl)

/-- A representation of watches: in a world, at an address, these, in these blocks. -/
abbrev Rep13 := World → Nat → Hq.St → (Nat → Prop) → Prop
structure Specs13 (LW : Rep13) : Prop where
  lt : ∀ {w q s F k}, LW w q s F → F k → k < w.heap.size
  keep : ∀ {w w' : World} {q s F}, LW w q s F → (∀ k, F k → w'.heap[k]? = w.heap[k]?) → LW w' q s F
  new : ∀ (n : Int) (w : World), Calls Tryd.prog 9 #[.int .i64 n] w fun e w' => Below w.heap.size w w' ∧
    if n < 1 ∨ 1000 < n then e = .returned (.tuple #[.pointer none, .int .i64 1]) else ∃ q F, e = .returned (.tuple #[dptr q, .int .i64 0]) ∧ LW w' q ⟨n, []⟩ F ∧ ∀ k, F k → w.heap.size ≤ k
  arm : ∀ (q : Nat) (s : Hq.St) (F : Nat → Prop) (x : Hq.Wt) (w : World), LW w q s F → Hq.Fine s → (∀ k, F k → 3 ≤ k) → Pa.Std w → x.path.size ≤ maxLen →
    Calls Tryd.prog 10 #[dptr q, .int .i64 x.sess, .string x.path, .int .i64 x.kind] w fun e w' => ∃ F', e = .returned (.int .i64 (Hq.arm s x).1) ∧ LW w' q (Hq.arm s x).2 F' ∧ Moved w w' F F'
  fire : ∀ (q : Nat) (s : Hq.St) (F : Nat → Prop) (p : ByteArray) (c : Int) (w : World), LW w q s F → Hq.Fine s → (∀ k, F k → 3 ≤ k) → Pa.Std w → p.size ≤ maxLen →
    Calls Tryd.prog 11 #[dptr q, .string p, .int .i64 c] w fun e w' => ∃ F' v, e = .returned v ∧ Ev w' v (Hq.events s p c) ∧ (∀ k, v.ownBlock = some k → w.heap.size ≤ k ∧ ¬ F' k) ∧ LW w' q (Hq.fired s p c) F' ∧ Moved w w' F F'
  drop : ∀ (q : Nat) (s : Hq.St) (F : Nat → Prop) (n : Int) (w : World), LW w q s F → Hq.Fine s →
    Calls Tryd.prog 12 #[dptr q, .int .i64 n] w fun e w' => ∃ F', e = .returned (.int .i64 ((s.l.length : Int) - ((Hq.drop s n).l.length : Int))) ∧ LW w' q (Hq.drop s n) F' ∧ Moved w w' F F'
  len : ∀ (q : Nat) (s : Hq.St) (F : Nat → Prop) (w : World), LW w q s F → Hq.Fine s →
    Calls Tryd.prog 13 #[dptr q] w fun e w' => e = .returned (.int .i64 (s.l.length : Int)) ∧ Below w.heap.size w w'

/-- Watches that a statement has made: their blocks are the statement's own. -/
structure Mine13 (LW : Rep13) (W w : World) (q : Nat) (s : Hq.St) (F : Nat → Prop) : Prop where
  ld : LW w q s F
  fine : Hq.Fine s
  hi : ∀ k, F k → W.heap.size ≤ k
  below : Below W.heap.size W w
section
variable {LW : Rep13} {W w w' : World} {q : Nat} {s s' : Hq.St} {F F' : Nat → Prop}
theorem Mine13.low (h : Mine13 LW W w q s F) (hS : Pa.Std W) : ∀ k, F k → 3 ≤ k := fun k hk => Nat.le_trans hS.size (h.hi k hk)
theorem Mine13.step (h : Mine13 LW W w q s F) (hl : LW w' q s' F') (hf : Hq.Fine s') (hm : Moved w w' F F') : Mine13 LW W w' q s' F' := by
  have hs := h.below.size
  refine ⟨hl, hf, fun k hk => ?_, h.below.trans (hm.below hs h.hi)⟩
  rcases hm.sub k hk with h1 | h1
  · exact h.hi k h1
  · omega
theorem Mine13.later (S : Specs13 LW) (h : Mine13 LW W w q s F) (hb : Below w.heap.size w w') : Mine13 LW W w' q s F :=
  h.step (S.keep h.ld fun k hk => hb.block k (S.lt h.ld hk)) h.fine (Moved.of_below F hb)
theorem mine13_new (S : Specs13 LW) (hW : Below W.heap.size W w) (n : Int) (h : 1 ≤ n ∧ n ≤ 1000) :
    Calls Tryd.prog 9 #[.int .i64 n] w fun e w' => ∃ q F, e = .returned (.tuple #[dptr q, .int .i64 0]) ∧ Mine13 LW W w' q ⟨n, []⟩ F := by
  refine (S.new n w).mono ?_
  rintro e w' ⟨hbl, he⟩
  rw [if_neg (by omega)] at he
  obtain ⟨q, F, rfl, hl, hF⟩ := he
  have hs := hW.size
  exact ⟨q, F, rfl, ⟨hl, Hq.Fine.made h.1 h.2, fun k hk => by have := hF k hk; omega, hW.trans (hbl.mono hs)⟩⟩
theorem mine13_no (S : Specs13 LW) (n : Int) (h : n < 1 ∨ 1000 < n) (w : World) :
    Calls Tryd.prog 9 #[.int .i64 n] w fun e w' => e = .returned (.tuple #[.pointer none, .int .i64 1]) ∧ Below w.heap.size w w' := by
  refine (S.new n w).mono ?_
  rintro e w' ⟨hbl, he⟩
  rw [if_pos h] at he
  exact ⟨he, hbl⟩
theorem Mine13.arm (S : Specs13 LW) (h : Mine13 LW W w q s F) (hS : Pa.Std W) (a : Int) (p : ByteArray) (k : Int) (hp : p.size ≤ maxLen) (e1 : Int) (s' : Hq.St) (he : Hq.arm s ⟨a, k, p⟩ = (e1, s')) :
    Calls Tryd.prog 10 #[dptr q, .int .i64 a, .string p, .int .i64 k] w fun e w' => ∃ F', e = .returned (.int .i64 e1) ∧ Mine13 LW W w' q s' F' ∧ Moved w w' F F' := by
  refine (S.arm q s F ⟨a, k, p⟩ w h.ld h.fine (h.low hS) (hS.below h.below) hp).mono ?_
  have hf := h.fine.arm ⟨a, k, p⟩
  rw [he] at hf ⊢
  rintro e w' ⟨F', rfl, hl, hm⟩
  exact ⟨F', rfl, h.step hl hf hm, hm⟩
theorem Mine13.fire (S : Specs13 LW) (h : Mine13 LW W w q s F) (hS : Pa.Std W) (p : ByteArray) (c : Int) (hp : p.size ≤ maxLen) (es : List Hq.Wt) (s' : Hq.St) (he : Hq.events s p c = es) (hs : Hq.fired s p c = s') :
    Calls Tryd.prog 11 #[dptr q, .string p, .int .i64 c] w fun e w' => ∃ F' v, e = .returned v ∧ Ev w' v es ∧ (∀ k, v.ownBlock = some k → w.heap.size ≤ k ∧ ¬ F' k) ∧ Mine13 LW W w' q s' F' ∧ Moved w w' F F' := by
  refine (S.fire q s F p c w h.ld h.fine (h.low hS) (hS.below h.below) hp).mono ?_
  have hf := h.fine.fired p c
  rw [he, hs] at *
  rintro e w' ⟨F', v, rfl, h1, h2, hl, hm⟩
  exact ⟨F', v, rfl, h1, h2, h.step hl hf hm, hm⟩
theorem Mine13.drop (S : Specs13 LW) (h : Mine13 LW W w q s F) (n : Int) (z : Int) (s' : Hq.St) (hs : Hq.drop s n = s') (hz : (s.l.length : Int) - (s'.l.length : Int) = z) :
    Calls Tryd.prog 12 #[dptr q, .int .i64 n] w fun e w' => ∃ F', e = .returned (.int .i64 z) ∧ Mine13 LW W w' q s' F' ∧ Moved w w' F F' := by
  refine (S.drop q s F n w h.ld h.fine).mono ?_
  have hf := h.fine.drop n
  rw [hs, hz] at *
  rintro e w' ⟨F', rfl, hl, hm⟩
  exact ⟨F', rfl, h.step hl hf hm, hm⟩
theorem Mine13.len (S : Specs13 LW) (h : Mine13 LW W w q s F) (z : Nat) (hz : s.l.length = z) :
    Calls Tryd.prog 13 #[dptr q] w fun e w' => e = .returned (.int .i64 (z : Int)) ∧ Mine13 LW W w' q s F ∧ Below w.heap.size w w' := by
  refine (S.len q s F w h.ld h.fine).mono ?_
  rintro e w' ⟨rfl, hb⟩
  rw [hz]
  exact ⟨rfl, h.later S hb, hb⟩
/-- Events that were handed out stay while the watches change. -/
theorem Ev.moved {v : Value} {es : List Hq.Wt} (h : Ev w v es) (hv : ∀ k, v.ownBlock = some k → ¬ F k) (hm : Moved w w' F F') : Ev w' v es ∧ ∀ k, v.ownBlock = some k → k < w.heap.size → ¬ F' k :=
  ⟨h.keep fun k hk hl => hm.block k hl (hv k hk), fun k hk hl e => by
    rcases hm.sub k e with e | e
    · exact hv k hk e
    · omega⟩
end
end Go.Proofs.YtjejpkognjedpaaDoor
