/- What lock's calls are asked to answer, whatever Locks are made of (to be proved of the landed code). -/
import Derived.Test.YtadgjinlblloiaaDoorPlainL17
import Derived.Test.YtadgjinlblloiaaDoorCells
import Derived.Test.YtadgjinlblloiaaDoorLibN
namespace Go.Proofs.YtadgjinlblloiaaDoor
open Go.RowKit

abbrev Rep17 := World → Nat → Lk.St → (Nat → Prop) → Prop
def I64 (z : Int) : Prop := -9223372036854775808 ≤ z ∧ z ≤ 9223372036854775807
theorem Pa.Std.low17 {w w' : World} (h : Pa.Std w) (hb : Below 3 w w') : Pa.Std w' := by
  obtain ⟨m, hm⟩ := h.len
  have hs := h.size
  have hs' := hb.size
  exact ⟨⟨m, by rw [hb.cell (p := ⟨0, 0, none⟩) (by simp only []; omega)]; exact hm⟩, by omega⟩
theorem Pa.Std.moved17 {w w' : World} {F F' : Nat → Prop} (h : Pa.Std w) (hm : Moved w w' F F') (hF : ∀ k, F k → 3 ≤ k) : Pa.Std w' := h.low17 (hm.below h.size hF)
structure Specs17 (LS : Rep17) : Prop where
  lt : ∀ {w q s F k}, LS w q s F → F k → k < w.heap.size
  keep : ∀ {w w' : World} {q s F}, LS w q s F → (∀ k, F k → w'.heap[k]? = w.heap[k]?) → LS w' q s F
  new : ∀ (w : World), Calls Tryd.prog 9 #[] w fun e w' => ∃ q F, e = .returned (dptr q) ∧ LS w' q [] F ∧ (∀ k, F k → w.heap.size ≤ k) ∧ Below w.heap.size w w'
  take : ∀ (q : Nat) (s : Lk.St) (F : Nat → Prop) (m : Nat) (who : Int) (v : Value) (ps : List ByteArray) (w : World), LS w q s F → Lk.Fine m s → m ≤ 1000 → (∀ k, F k → 3 ≤ k) → Pa.Std w → I64 who → Ss w v ps → ps.length ≤ 10 → (∀ p ∈ ps, p.size ≤ maxLen) → (∀ k, v.ownBlock = some k → ps ≠ [] → ¬ F k) →
    Calls Tryd.prog 10 #[dptr q, .int .i64 who, v] w fun e w' => ∃ F', e = .returned (.tuple #[.string (Lk.take s who ps).1, .bool (Lk.take s who ps).2.1]) ∧ LS w' q (Lk.take s who ps).2.2 F' ∧ Moved w w' F F'
  free : ∀ (q : Nat) (s : Lk.St) (F : Nat → Prop) (m : Nat) (who : Int) (w : World), LS w q s F → Lk.Fine m s → m ≤ 1000 → (∀ k, F k → 3 ≤ k) → Pa.Std w → I64 who →
    Calls Tryd.prog 12 #[dptr q, .int .i64 who] w fun e w' => ∃ F', e = .returned (.int .i64 (Lk.free s who)) ∧ LS w' q (Lk.rest s who) F' ∧ Moved w w' F F'
  held : ∀ (q : Nat) (s : Lk.St) (F : Nat → Prop) (m : Nat) (p : ByteArray) (w : World), LS w q s F → Lk.Fine m s → m ≤ 1000 → p.size ≤ maxLen →
    Calls Tryd.prog 11 #[dptr q, .string p] w fun e w' => e = .returned (.tuple #[.int .i64 ((Lk.held s p).getD 0), .bool (Lk.held s p).isSome]) ∧ Below w.heap.size w w'
  blocks : ∀ (q : Nat) (s : Lk.St) (F : Nat → Prop) (m : Nat) (who : Int) (p : ByteArray) (w : World), LS w q s F → Lk.Fine m s → m ≤ 1000 → Pa.Std w → I64 who → p.size ≤ maxLen →
    Calls Tryd.prog 14 #[dptr q, .int .i64 who, .string p] w fun e w' => e = .returned (.bool (Lk.blocks s who p)) ∧ Below w.heap.size w w'
  len : ∀ (q : Nat) (s : Lk.St) (F : Nat → Prop) (m : Nat) (w : World), LS w q s F → Lk.Fine m s → m ≤ 1000 →
    Calls Tryd.prog 13 #[dptr q] w fun e w' => e = .returned (.int .i64 (s.length : Int)) ∧ Below w.heap.size w w'

/-- Locks that a statement has made: their blocks are the statement's own. -/
structure Mine17 (LS : Rep17) (W w : World) (q m : Nat) (s : Lk.St) (F : Nat → Prop) : Prop where
  ld : LS w q s F
  fine : Lk.Fine m s
  hi : ∀ k, F k → W.heap.size ≤ k
  below : Below W.heap.size W w
section
variable {LS : Rep17} {W w w' : World} {q : Nat} {m m' : Nat} {s s' : Lk.St} {F F' : Nat → Prop}
theorem Mine17.step (h : Mine17 LS W w q m s F) (hl : LS w' q s' F') (hf : Lk.Fine m' s') (hm : Moved w w' F F') : Mine17 LS W w' q m' s' F' := by
  have hs := h.below.size
  refine ⟨hl, hf, fun k hk => ?_, h.below.trans (hm.below hs h.hi)⟩
  rcases hm.sub k hk with h1 | h1
  · exact h.hi k h1
  · omega
theorem Mine17.later (S : Specs17 LS) (h : Mine17 LS W w q m s F) (hb : Below w.heap.size w w') : Mine17 LS W w' q m s F :=
  h.step (S.keep h.ld fun k hk => hb.block k (S.lt h.ld hk)) h.fine (Moved.of_below F hb)
theorem Mine17.mono (h : Mine17 LS W w q m s F) (hm : m ≤ m') : Mine17 LS W w q m' s F := ⟨h.ld, h.fine.mono hm, h.hi, h.below⟩
theorem Mine17.std (h : Mine17 LS W w q m s F) (hS : Pa.Std W) : Pa.Std w := hS.below h.below
theorem Mine17.low (h : Mine17 LS W w q m s F) (hS : Pa.Std W) : ∀ k, F k → 3 ≤ k := fun k hk => Nat.le_trans hS.size (h.hi k hk)
theorem mine17_new (S : Specs17 LS) (hW : Below W.heap.size W w) :
    Calls Tryd.prog 9 #[] w fun e w' => ∃ q F, e = .returned (dptr q) ∧ Mine17 LS W w' q 0 [] F ∧ (∀ k, F k → w.heap.size ≤ k) ∧ Below w.heap.size w w' := by
  refine (S.new w).mono ?_
  rintro e w' ⟨q, F, rfl, hl, hF, hb⟩
  have hs := hW.size
  exact ⟨q, F, rfl, ⟨hl, Lk.Fine.nil, fun k hk => by have := hF k hk; omega, hW.trans (hb.mono hs)⟩, hF, hb⟩
theorem Mine17.take (S : Specs17 LS) (h : Mine17 LS W w q m s F) (hS : Pa.Std W) (hm : m ≤ 1000) (who : Int) (hw : I64 who) (v : Value) (ps : List ByteArray) (hv : Ss w v ps) (hl : ps.length ≤ 10) (hp : ∀ p ∈ ps, p.size ≤ maxLen) (hoff : ∀ k, v.ownBlock = some k → ps ≠ [] → ¬ F k) (a : ByteArray) (b : Bool) (s' : Lk.St) (he : Lk.take s who ps = (a, b, s')) :
    Calls Tryd.prog 10 #[dptr q, .int .i64 who, v] w fun e w' => ∃ F', e = .returned (.tuple #[.string a, .bool b]) ∧ Mine17 LS W w' q (m + 10) s' F' ∧ Moved w w' F F' := by
  refine (S.take q s F m who v ps w h.ld h.fine hm (h.low hS) (h.std hS) hw hv hl hp hoff).mono ?_
  have hf := (h.fine.take hw ps).mono (show m + ps.length ≤ m + 10 by omega)
  rw [he] at hf ⊢
  rintro e w' ⟨F', rfl, hl, hv⟩
  exact ⟨F', rfl, h.step hl hf hv, hv⟩
theorem Mine17.free (S : Specs17 LS) (h : Mine17 LS W w q m s F) (hS : Pa.Std W) (hm : m ≤ 1000) (who : Int) (hwh : I64 who) (z : Int) (s' : Lk.St) (hz : Lk.free s who = z) (he : Lk.rest s who = s') :
    Calls Tryd.prog 12 #[dptr q, .int .i64 who] w fun e w' => ∃ F', e = .returned (.int .i64 z) ∧ Mine17 LS W w' q m s' F' ∧ Moved w w' F F' := by
  refine (S.free q s F m who w h.ld h.fine hm (h.low hS) (h.std hS) hwh).mono ?_
  have hf := h.fine.rest who
  rw [he] at hf ⊢
  rw [hz]
  rintro e w' ⟨F', rfl, hl, hv⟩
  exact ⟨F', rfl, h.step hl hf hv, hv⟩
theorem Mine17.held (S : Specs17 LS) (h : Mine17 LS W w q m s F) (hm : m ≤ 1000) (p : ByteArray) (hp : p.size ≤ maxLen) (o : Option Int) (ho : Lk.held s p = o) :
    Calls Tryd.prog 11 #[dptr q, .string p] w fun e w' => e = .returned (.tuple #[.int .i64 (o.getD 0), .bool o.isSome]) ∧ Mine17 LS W w' q m s F ∧ Below w.heap.size w w' := by
  refine (S.held q s F m p w h.ld h.fine hm hp).mono ?_
  rintro e w' ⟨rfl, hb⟩
  rw [ho]
  exact ⟨rfl, h.later S hb, hb⟩
theorem Mine17.blocks (S : Specs17 LS) (h : Mine17 LS W w q m s F) (hS : Pa.Std W) (hm : m ≤ 1000) (who : Int) (hwh : I64 who) (p : ByteArray) (hp : p.size ≤ maxLen) (b : Bool) (hb : Lk.blocks s who p = b) :
    Calls Tryd.prog 14 #[dptr q, .int .i64 who, .string p] w fun e w' => e = .returned (.bool b) ∧ Mine17 LS W w' q m s F ∧ Below w.heap.size w w' := by
  refine (S.blocks q s F m who p w h.ld h.fine hm (h.std hS) hwh hp).mono ?_
  rintro e w' ⟨rfl, hbl⟩
  rw [hb]
  exact ⟨rfl, h.later S hbl, hbl⟩
theorem Mine17.len (S : Specs17 LS) (h : Mine17 LS W w q m s F) (hm : m ≤ 1000) (z : Int) (hz : (s.length : Int) = z) :
    Calls Tryd.prog 13 #[dptr q] w fun e w' => e = .returned (.int .i64 z) ∧ Mine17 LS W w' q m s F ∧ Below w.heap.size w w' := by
  refine (S.len q s F m w h.ld h.fine hm).mono ?_
  rintro e w' ⟨rfl, hb⟩
  rw [hz]
  exact ⟨rfl, h.later S hb, hb⟩
end
end Go.Proofs.YtadgjinlblloiaaDoor
