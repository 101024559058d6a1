/- What route's calls are asked to answer, whatever the Table is made of (to be proved of the landed code). -/
import Derived.Test.YtjimemnkmpapgaaGreatDoorBii16
import Derived.Test.YtjimemnkmpapgaaGreatDoorLibN
namespace Go.Proofs.YtjimemnkmpapgaaGreatDoor
open Go.RowKit

/-- A representation of a Table: in a world, at an address, this, in these blocks. -/
abbrev Rep16 := World → Nat → Tb.St → (Nat → Prop) → Prop
structure Specs16 (LS : Rep16) : Prop where
  lt : ∀ {w q s F k}, LS w q s F → F k → k < w.heap.size
  keep : ∀ {w w' : World} {q s F}, LS w q s F → (∀ k, F k → w'.heap[k]? = w.heap[k]?) → LS w' q s F
  new : ∀ (n : Int) (w : World), Calls Tryz.prog 28 #[.int .i64 n] w fun e w' => Below w.heap.size w w' ∧
    if n < 1 ∨ 4 < n then e = .returned (.tuple #[.pointer none, .int .i64 1]) else ∃ q F, e = .returned (.tuple #[dptr q, .int .i64 0]) ∧ LS w' q (Tb.new n) F ∧ ∀ k, F k → w.heap.size ≤ k
  of : ∀ (q : Nat) (s : Tb.St) (F : Nat → Prop) (m : Int) (p : ByteArray) (w : World), LS w q s F → Tb.Fine m s → Pa.Std w → p.size ≤ maxLen →
    Calls Tryz.prog 26 #[dptr q, .string p] w fun e w' => e = .returned (.int .i64 (Tb.of s p)) ∧ Below w.heap.size w w'
  move : ∀ (q : Nat) (s : Tb.St) (F : Nat → Prop) (m : Int) (t : ByteArray) (n : Int) (w : World), LS w q s F → Tb.Fine m s → m ≤ 2199023255552 → Pa.Std w → t.size ≤ maxLen →
    Calls Tryz.prog 30 #[dptr q, .string t, .int .i64 n] w fun e w' => ∃ F', e = .returned (.int .i64 (Tb.move s t n).1) ∧ LS w' q (Tb.move s t n).2 F' ∧ Moved w w' F F'
  split : ∀ (q : Nat) (s : Tb.St) (F : Nat → Prop) (m : Int) (v : Value) (os : List O) (w : World), LS w q s F → Tb.Fine m s → Pa.Std w → Ol w v os → os.length ≤ 100 → Paths16 os →
    Calls Tryz.prog 34 #[dptr q, v] w fun e w' => ∃ u, e = .returned u ∧ Bii w' u (Tb.split s (os.map O.path)) ∧ Below w.heap.size w w'

/-- A Table that a statement has made: its blocks are the statement's own. -/
structure Mine16 (LS : Rep16) (W w : World) (q : Nat) (m : Int) (s : Tb.St) (F : Nat → Prop) : Prop where
  ld : LS w q s F
  fine : Tb.Fine m s
  hi : ∀ k, F k → W.heap.size ≤ k
  below : Below W.heap.size W w
section
variable {LS : Rep16} {W w w' : World} {q : Nat} {m m' : Int} {s s' : Tb.St} {F F' : Nat → Prop}
theorem Mine16.step (h : Mine16 LS W w q m s F) (hl : LS w' q s' F') (hf : Tb.Fine m' s') (hm : Moved w w' F F') : Mine16 LS W w' q m' s' F' := by
  have hs := h.below.size
  refine ⟨hl, hf, fun k hk => ?_, h.below.trans (hm.below hs h.hi)⟩
  rcases hm.sub k hk with h1 | h1
  · exact h.hi k h1
  · omega
theorem Mine16.later (S : Specs16 LS) (h : Mine16 LS W w q m s F) (hb : Below w.heap.size w w') : Mine16 LS W w' q m s F :=
  h.step (S.keep h.ld fun k hk => hb.block k (S.lt h.ld hk)) h.fine (Moved.of_below F hb)
theorem Mine16.mono (h : Mine16 LS W w q m s F) (hm : m ≤ m') : Mine16 LS W w q m' s F := ⟨h.ld, h.fine.mono hm, h.hi, h.below⟩
/-- While something else changes. -/
theorem Mine16.stays (S : Specs16 LS) (h : Mine16 LS W w q m s F) {G G' : Nat → Prop} (hm : Moved w w' G G') (hG : ∀ k, G k → W.heap.size ≤ k) (hoff : ∀ k, F k → ¬ G k) : Mine16 LS W w' q m s F :=
  ⟨S.keep h.ld fun k hk => hm.block k (S.lt h.ld hk) (hoff k hk), h.fine, h.hi, h.below.trans (hm.below h.below.size hG)⟩
theorem Mine16.std (h : Mine16 LS W w q m s F) (hS : Pa.Std W) : Pa.Std w := hS.below h.below
theorem mine16_new (S : Specs16 LS) (hW : Below W.heap.size W w) (n : Int) (h : 1 ≤ n ∧ n ≤ 4) :
    Calls Tryz.prog 28 #[.int .i64 n] w fun e w' => ∃ q F, e = .returned (.tuple #[dptr q, .int .i64 0]) ∧ Mine16 LS W w' q 1 (Tb.new n) F ∧ (∀ k, F k → w.heap.size ≤ k) ∧ Below w.heap.size w w' := by
  refine (S.new n w).mono ?_
  rintro e w' ⟨hbl, he⟩
  rw [if_neg (by omega)] at he
  obtain ⟨q, F, rfl, hl, hF⟩ := he
  have hs := hW.size
  exact ⟨q, F, rfl, ⟨hl, Tb.Fine.new h.1 h.2, fun k hk => by have := hF k hk; omega, hW.trans (hbl.mono hs)⟩, hF, hbl⟩
theorem mine16_no (S : Specs16 LS) (n : Int) (h : n < 1 ∨ 4 < n) (w : World) :
    Calls Tryz.prog 28 #[.int .i64 n] w fun e w' => e = .returned (.tuple #[.pointer none, .int .i64 1]) ∧ Below w.heap.size w w' := by
  refine (S.new n w).mono ?_
  rintro e w' ⟨hbl, he⟩
  rw [if_pos h] at he
  exact ⟨he, hbl⟩
theorem Mine16.of (S : Specs16 LS) (h : Mine16 LS W w q m s F) (hS : Pa.Std W) (p : ByteArray) (hp : p.size ≤ maxLen) (z : Int) (hz : Tb.of s p = z) :
    Calls Tryz.prog 26 #[dptr q, .string p] w fun e w' => e = .returned (.int .i64 z) ∧ Mine16 LS W w' q m s F ∧ Below w.heap.size w w' := by
  refine (S.of q s F m p w h.ld h.fine (h.std hS) hp).mono ?_
  rintro e w' ⟨rfl, hb⟩
  rw [hz]
  exact ⟨rfl, h.later S hb, hb⟩
theorem Mine16.move (S : Specs16 LS) (h : Mine16 LS W w q m s F) (hS : Pa.Std W) (hm : m ≤ 2199023255552) (t : ByteArray) (n : Int) (ht : t.size ≤ maxLen) (a : Int) (s' : Tb.St) (he : Tb.move s t n = (a, s')) :
    Calls Tryz.prog 30 #[dptr q, .string t, .int .i64 n] w fun e w' => ∃ F', e = .returned (.int .i64 a) ∧ Mine16 LS W w' q (m + 1) s' F' ∧ Moved w w' F F' := by
  refine (S.move q s F m t n w h.ld h.fine hm (h.std hS) ht).mono ?_
  have hf := h.fine.move t n
  rw [he] at hf ⊢
  rintro e w' ⟨F', rfl, hl, hv⟩
  exact ⟨F', rfl, h.step hl hf hv, hv⟩
theorem Mine16.split (S : Specs16 LS) (h : Mine16 LS W w q m s F) (hS : Pa.Std W) (v : Value) (os : List O) (hv : Ol w v os) (hl : os.length ≤ 100) (hp : Paths16 os) (ls : List (List Int)) (he : Tb.split s (os.map O.path) = ls) :
    Calls Tryz.prog 34 #[dptr q, v] w fun e w' => ∃ u, e = .returned u ∧ Bii w' u ls ∧ Mine16 LS W w' q m s F ∧ Below w.heap.size w w' := by
  refine (S.split q s F m v os w h.ld h.fine (h.std hS) hv hl hp).mono ?_
  rintro e w' ⟨u, rfl, h1, hb⟩
  rw [he] at h1
  exact ⟨u, rfl, h1, h.later S hb, hb⟩
end
end Go.Proofs.YtjimemnkmpapgaaGreatDoor
