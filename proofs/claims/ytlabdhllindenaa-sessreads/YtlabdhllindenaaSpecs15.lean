/- What sess's calls are asked to answer, whatever the Sessions are made of (to be proved of the landed code). -/
import Derived.Test.YtlabdhllindenaaPlainQ15
import Derived.Test.YtlabdhllindenaaCells
namespace Go.Proofs.Ytlabdhllindenaa
open Go.RowKit

theorem Bi.keep {w w' : World} {v : Value} {zs : List Int} (h : Bi w v zs) (hk : ∀ k, v.ownBlock = some k → k < w.heap.size → w'.heap[k]? = w.heap[k]?) : Bi w' v zs := by
  obtain ⟨av, k, c, rfl, hj, hs⟩ := h
  refine ⟨av, k, c, rfl, hj, fun j z hz => ?_⟩
  obtain ⟨g, o, ha, hcell⟩ := hs j z hz
  have hb := hk g (by rw [ha]; rfl) (World.block_lt_of_cell? w _ hcell)
  exact ⟨g, o, ha, (World.cell?_of_block hb).trans hcell⟩
/-- Numbers that were handed out stay while something else changes. -/
theorem Bi.moved {w w' : World} {F F' : Nat → Prop} {v : Value} {zs : List Int} (h : Bi w v zs) (hv : ∀ k, v.ownBlock = some k → ¬ F k) (hm : Moved w w' F F') : Bi w' v zs :=
  h.keep fun k hk hl => hm.block k hl (hv k hk)

/-- A representation of Sessions: in a world, at an address, these, in these blocks. -/
abbrev Rep15 := World → Nat → Sq.St → (Nat → Prop) → Prop
structure Specs15 (LS : Rep15) : Prop where
  lt : ∀ {w q s F k}, LS w q s F → F k → k < w.heap.size
  keep : ∀ {w w' : World} {q s F}, LS w q s F → (∀ k, F k → w'.heap[k]? = w.heap[k]?) → LS w' q s F
  new : ∀ (n : Int) (w : World), Calls Try.prog 11 #[.int .i64 n] w fun e w' => Below w.heap.size w w' ∧
    if n < 1 ∨ 64 < n then e = .returned (.tuple #[.pointer none, .int .i64 1]) else ∃ q F, e = .returned (.tuple #[dptr q, .int .i64 0]) ∧ LS w' q (Sq.new n) F ∧ ∀ k, F k → w.heap.size ≤ k
  opn : ∀ (q : Nat) (s : Sq.St) (F : Nat → Prop) (m span : Int) (w : World), LS w q s F → Sq.Fine m s → m ≤ 2199023255552 →
    Calls Try.prog 12 #[dptr q, .int .i64 span] w fun e w' => ∃ F', e = .returned (.tuple #[.int .i64 (Sq.op s span).1, .int .i64 (Sq.op s span).2.1]) ∧ LS w' q (Sq.op s span).2.2 F' ∧ Moved w w' F F'
  touch : ∀ (q : Nat) (s : Sq.St) (F : Nat → Prop) (m id : Int) (w : World), LS w q s F → Sq.Fine m s → m ≤ 2199023255552 →
    Calls Try.prog 14 #[dptr q, .int .i64 id] w fun e w' => ∃ F', e = .returned (.int .i64 (Sq.touch s id).1) ∧ LS w' q (Sq.touch s id).2 F' ∧ Moved w w' F F'
  close : ∀ (q : Nat) (s : Sq.St) (F : Nat → Prop) (m id : Int) (w : World), LS w q s F → Sq.Fine m s → m ≤ 2199023255552 →
    Calls Try.prog 16 #[dptr q, .int .i64 id] w fun e w' => ∃ F', e = .returned (.int .i64 (Sq.close s id).1) ∧ LS w' q (Sq.close s id).2 F' ∧ Moved w w' F F'
  tick : ∀ (q : Nat) (s : Sq.St) (F : Nat → Prop) (m : Int) (w : World), LS w q s F → Sq.Fine m s → m ≤ 2199023255552 →
    Calls Try.prog 13 #[dptr q] w fun e w' => ∃ F' v, e = .returned v ∧ Bi w' v (Sq.over s) ∧ (∀ k, v.ownBlock = some k → w.heap.size ≤ k ∧ ¬ F' k) ∧ LS w' q (Sq.tick s) F' ∧ Moved w w' F F'
  live : ∀ (q : Nat) (s : Sq.St) (F : Nat → Prop) (m id : Int) (w : World), LS w q s F → Sq.Fine m s →
    Calls Try.prog 15 #[dptr q, .int .i64 id] w fun e w' => e = .returned (.bool (Sq.has s.l id)) ∧ Below w.heap.size w w'
  all : ∀ (q : Nat) (s : Sq.St) (F : Nat → Prop) (m : Int) (w : World), LS w q s F → Sq.Fine m s →
    Calls Try.prog 24 #[dptr q] w fun e w' => ∃ v, e = .returned v ∧ Bi w' v (Sq.all s) ∧ (∀ k, v.ownBlock = some k → w.heap.size ≤ k) ∧ Below w.heap.size w w'
  now : ∀ (q : Nat) (s : Sq.St) (F : Nat → Prop) (w : World), LS w q s F →
    Calls Try.prog 26 #[dptr q] w fun e w' => e = .returned (.int .i64 s.now) ∧ Below w.heap.size w w'
  put : ∀ (q : Nat) (s : Sq.St) (F : Nat → Prop) (m : Int) (w : World), LS w q s F → Sq.Fine m s →
    Calls Try.prog 23 #[dptr q] w fun e w' => ∃ v, e = .returned v ∧ w'.ownsRow w.heap.size 5 1 v (Sq.bytes s).length (bc (Sq.bytes s)) ∧ Below w.heap.size w w'
  get : ∀ (v : Value) (b : List UInt8) (w : World), Bs w v b → b.length ≤ 2000 →
    Calls Try.prog 17 #[v] w fun e w' => Below w.heap.size w w' ∧ (Sq.get b = none → e = .returned (.tuple #[.pointer none, .int .i64 3])) ∧ ∀ s, Sq.get b = some s → ∃ q F, e = .returned (.tuple #[dptr q, .int .i64 0]) ∧ LS w' q s F ∧ ∀ k, F k → w.heap.size ≤ k

/-- Sessions that a statement has made: their blocks are the statement's own. -/
structure Mine15 (LS : Rep15) (W w : World) (q : Nat) (m : Int) (s : Sq.St) (F : Nat → Prop) : Prop where
  ld : LS w q s F
  fine : Sq.Fine m s
  hi : ∀ k, F k → W.heap.size ≤ k
  below : Below W.heap.size W w
section
variable {LS : Rep15} {W w w' : World} {q : Nat} {m m' : Int} {s s' : Sq.St} {F F' : Nat → Prop}
theorem Mine15.step (h : Mine15 LS W w q m s F) (hl : LS w' q s' F') (hf : Sq.Fine m' s') (hm : Moved w w' F F') : Mine15 LS W w' q m' s' F' := by
  have hs := h.below.size
  refine ⟨hl, hf, fun k hk => ?_, h.below.trans (hm.below hs h.hi)⟩
  rcases hm.sub k hk with h1 | h1
  · exact h.hi k h1
  · omega
theorem Mine15.later (S : Specs15 LS) (h : Mine15 LS W w q m s F) (hb : Below w.heap.size w w') : Mine15 LS W w' q m s F :=
  h.step (S.keep h.ld fun k hk => hb.block k (S.lt h.ld hk)) h.fine (Moved.of_below F hb)
theorem Mine15.mono (h : Mine15 LS W w q m s F) (hm : m ≤ m') : Mine15 LS W w q m' s F := ⟨h.ld, h.fine.mono hm, h.hi, h.below⟩
/-- While something else changes. -/
theorem Mine15.stays (S : Specs15 LS) (h : Mine15 LS W w q m s F) {G G' : Nat → Prop} (hm : Moved w w' G G') (hG : ∀ k, G k → W.heap.size ≤ k) (hoff : ∀ k, F k → ¬ G k) : Mine15 LS W w' q m s F :=
  ⟨S.keep h.ld fun k hk => hm.block k (S.lt h.ld hk) (hoff k hk), h.fine, h.hi, h.below.trans (hm.below h.below.size hG)⟩
theorem mine15_new (S : Specs15 LS) (hW : Below W.heap.size W w) (n : Int) (h : 1 ≤ n ∧ n ≤ 64) :
    Calls Try.prog 11 #[.int .i64 n] w fun e w' => ∃ q F, e = .returned (.tuple #[dptr q, .int .i64 0]) ∧ Mine15 LS W w' q 1 (Sq.new n) F := by
  refine (S.new n w).mono ?_
  rintro e w' ⟨hbl, he⟩
  rw [if_neg (by omega)] at he
  obtain ⟨q, F, rfl, hl, hF⟩ := he
  have hs := hW.size
  exact ⟨q, F, rfl, ⟨hl, Sq.Fine.new h.1 h.2, fun k hk => by have := hF k hk; omega, hW.trans (hbl.mono hs)⟩⟩
theorem mine15_no (S : Specs15 LS) (n : Int) (h : n < 1 ∨ 64 < n) (w : World) :
    Calls Try.prog 11 #[.int .i64 n] w fun e w' => e = .returned (.tuple #[.pointer none, .int .i64 1]) ∧ Below w.heap.size w w' := by
  refine (S.new n w).mono ?_
  rintro e w' ⟨hbl, he⟩
  rw [if_pos h] at he
  exact ⟨he, hbl⟩
theorem Mine15.opn (S : Specs15 LS) (h : Mine15 LS W w q m s F) (hm : m ≤ 1000000) (span : Int) (a b : Int) (s' : Sq.St) (he : Sq.op s span = (a, b, s')) :
    Calls Try.prog 12 #[dptr q, .int .i64 span] w fun e w' => ∃ F', e = .returned (.tuple #[.int .i64 a, .int .i64 b]) ∧ Mine15 LS W w' q (m + 1) s' F' ∧ Moved w w' F F' := by
  refine (S.opn q s F m span w h.ld h.fine (by omega)).mono ?_
  have hf := h.fine.op span
  rw [he] at hf ⊢
  rintro e w' ⟨F', rfl, hl, hv⟩
  exact ⟨F', rfl, h.step hl hf hv, hv⟩
theorem Mine15.touch (S : Specs15 LS) (h : Mine15 LS W w q m s F) (hm : m ≤ 1000000) (id : Int) (a : Int) (s' : Sq.St) (he : Sq.touch s id = (a, s')) :
    Calls Try.prog 14 #[dptr q, .int .i64 id] w fun e w' => ∃ F', e = .returned (.int .i64 a) ∧ Mine15 LS W w' q m s' F' ∧ Moved w w' F F' := by
  refine (S.touch q s F m id w h.ld h.fine (by omega)).mono ?_
  have hf := h.fine.touch id
  rw [he] at hf ⊢
  rintro e w' ⟨F', rfl, hl, hv⟩
  exact ⟨F', rfl, h.step hl hf hv, hv⟩
theorem Mine15.close (S : Specs15 LS) (h : Mine15 LS W w q m s F) (hm : m ≤ 1000000) (id : Int) (a : Int) (s' : Sq.St) (he : Sq.close s id = (a, s')) :
    Calls Try.prog 16 #[dptr q, .int .i64 id] w fun e w' => ∃ F', e = .returned (.int .i64 a) ∧ Mine15 LS W w' q m s' F' ∧ Moved w w' F F' := by
  refine (S.close q s F m id w h.ld h.fine (by omega)).mono ?_
  have hf := h.fine.close id
  rw [he] at hf ⊢
  rintro e w' ⟨F', rfl, hl, hv⟩
  exact ⟨F', rfl, h.step hl hf hv, hv⟩
theorem Mine15.tick (S : Specs15 LS) (h : Mine15 LS W w q m s F) (hm : m ≤ 1000000) (zs : List Int) (s' : Sq.St) (hz : Sq.over s = zs) (he : Sq.tick s = s') :
    Calls Try.prog 13 #[dptr q] w fun e w' => ∃ F' v, e = .returned v ∧ Bi w' v zs ∧ (∀ k, v.ownBlock = some k → w.heap.size ≤ k ∧ ¬ F' k) ∧ Mine15 LS W w' q (m + 1) s' F' ∧ Moved w w' F F' := by
  refine (S.tick q s F m w h.ld h.fine (by omega)).mono ?_
  have hf := h.fine.tick
  rw [he] at hf ⊢
  rw [hz]
  rintro e w' ⟨F', v, rfl, h1, h2, hl, hv⟩
  exact ⟨F', v, rfl, h1, h2, h.step hl hf hv, hv⟩
theorem Mine15.live (S : Specs15 LS) (h : Mine15 LS W w q m s F) (id : Int) (b : Bool) (hb : Sq.has s.l id = b) :
    Calls Try.prog 15 #[dptr q, .int .i64 id] w fun e w' => e = .returned (.bool b) ∧ Mine15 LS W w' q m s F ∧ Below w.heap.size w w' := by
  refine (S.live q s F m id w h.ld h.fine).mono ?_
  rintro e w' ⟨rfl, hbl⟩
  rw [hb]
  exact ⟨rfl, h.later S hbl, hbl⟩
theorem Mine15.all (S : Specs15 LS) (h : Mine15 LS W w q m s F) :
    Calls Try.prog 24 #[dptr q] w fun e w' => ∃ v, e = .returned v ∧ Bi w' v (Sq.all s) ∧ (∀ k, v.ownBlock = some k → w.heap.size ≤ k) ∧ Mine15 LS W w' q m s F ∧ Below w.heap.size w w' := by
  refine (S.all q s F m w h.ld h.fine).mono ?_
  rintro e w' ⟨v, rfl, h1, h2, hb⟩
  exact ⟨v, rfl, h1, h2, h.later S hb, hb⟩
theorem Mine15.now (S : Specs15 LS) (h : Mine15 LS W w q m s F) (z : Int) (hz : s.now = z) :
    Calls Try.prog 26 #[dptr q] w fun e w' => e = .returned (.int .i64 z) ∧ Mine15 LS W w' q m s F ∧ Below w.heap.size w w' := by
  refine (S.now q s F w h.ld).mono ?_
  rintro e w' ⟨rfl, hb⟩
  rw [hz]
  exact ⟨rfl, h.later S hb, hb⟩
theorem Mine15.put (S : Specs15 LS) (h : Mine15 LS W w q m s F) :
    Calls Try.prog 23 #[dptr q] w fun e w' => ∃ v, e = .returned v ∧ w'.ownsRow w.heap.size 5 1 v (Sq.bytes s).length (bc (Sq.bytes s)) ∧ Mine15 LS W w' q m s F ∧ Below w.heap.size w w' := by
  refine (S.put q s F m w h.ld h.fine).mono ?_
  rintro e w' ⟨v, rfl, h1, hb⟩
  exact ⟨v, rfl, h1, h.later S hb, hb⟩
theorem mine15_get (S : Specs15 LS) (hW : Below W.heap.size W w) (v : Value) (b : List UInt8) (hv : Bs w v b) (hl : b.length ≤ 2000) (s : Sq.St) (hs : Sq.get b = some s) :
    Calls Try.prog 17 #[v] w fun e w' => ∃ q F, e = .returned (.tuple #[dptr q, .int .i64 0]) ∧ Mine15 LS W w' q 1099511627776 s F ∧ (∀ k, F k → w.heap.size ≤ k) ∧ Below w.heap.size w w' := by
  refine (S.get v b w hv hl).mono ?_
  rintro e w' ⟨hbl, _, h⟩
  obtain ⟨q, F, rfl, hls, hF⟩ := h s hs
  have hsz := hW.size
  exact ⟨q, F, rfl, ⟨hls, (Sq.get_inv hs).1, fun k hk => by have := hF k hk; omega, hW.trans (hbl.mono hsz)⟩, hF, hbl⟩
theorem mine15_getno (S : Specs15 LS) (v : Value) (b : List UInt8) (w : World) (hv : Bs w v b) (hl : b.length ≤ 2000) (hs : Sq.get b = none) :
    Calls Try.prog 17 #[v] w fun e w' => e = .returned (.tuple #[.pointer none, .int .i64 3]) ∧ Below w.heap.size w w' := by
  refine (S.get v b w hv hl).mono ?_
  rintro e w' ⟨hbl, h, _⟩
  exact ⟨h hs, hbl⟩
end
end Go.Proofs.Ytlabdhllindenaa
