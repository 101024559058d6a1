/- What op's calls are asked to answer (to be proved of the landed code); what the statements' own 'awake' answers over it. -/
import Derived.Test.YtjimemnkmpapgaaGreatDoorPlainP
import Derived.Test.YtjimemnkmpapgaaGreatDoorLibN
import Derived.Test.YtjimemnkmpapgaaGreatDoorOpenO
import Derived.Test.YtjimemnkmpapgaaGreatDoorBox
namespace Go.Proofs.YtjimemnkmpapgaaGreatDoor
open Go.RowKit

def GoodSpec : Prop := ∀ (o : O) (w : World), Pa.Std w → Fit o →
  Calls Tryz.prog 53 #[ov o] w fun e w' => e = .returned (.int .i64 (Oq.good o)) ∧ Below w.heap.size w w'
def MaySpec : Prop := ∀ (s n : Int) (u : Value) (os : List O) (w : World), Pa.Std w → Ol w u os → os.length ≤ maxLen → (∀ o ∈ os, Fit o) →
  Calls Tryz.prog 32 #[.agg #[.int .i64 s, .int .i64 n, u]] w fun e w' => e = .returned (.int .i64 (Oq.may s n os)) ∧ Below w.heap.size w w'
/-- Bytes are just those of a request that may be. -/
def Is (b : List UInt8) (s n : Int) (os : List O) : Prop := Oq.may s n os = 0 ∧ Oq.bytes s n os = b ∧ Oq.Rng s ∧ Oq.Rng n ∧ ∀ o ∈ os, Oq.Fine o
def SameSpec : Prop := ∀ (s n s' n' : Int) (u u' : Value) (os os' : List O) (w : World), Ol w u os → Ol w u' os' → os.length ≤ maxLen → os'.length ≤ maxLen →
  Calls Tryz.prog 25 #[.agg #[.int .i64 s, .int .i64 n, u], .agg #[.int .i64 s', .int .i64 n', u']] w (BoolP (s = s' ∧ n = n' ∧ os = os') w)

structure Specs : Prop where
  good : GoodSpec
  may : MaySpec
  same : SameSpec

theorem fine_of {o : O} (hf : Fit o) (hp : o.path.size ≤ 1000000) (hd : o.data.size ≤ 1000000) : Oq.Fine o := ⟨hf.kind, hf.ver, hf.flags, hp, hd⟩

theorem is_inj {b : List UInt8} {s n s' n' : Int} {os os' : List O} (h : Is b s n os) (h' : Is b s' n' os') : s = s' ∧ n = n' ∧ os = os' :=
  Oq.bytes_inj (h.2.1.trans h'.2.1.symm) h.2.2.1 h.2.2.2.1 h'.2.2.1 h'.2.2.2.1 (by have := (may_sizes h.1).2.2.2.1; omega) (by have := (may_sizes h'.1).2.2.2.1; omega) h.2.2.2.2 h'.2.2.2.2

/-- The statements' own request. -/
def o0 : O := ⟨3, ⟨#[47, 97]⟩, ⟨#[120]⟩, -1, 0⟩
def o1 : O := ⟨1, ⟨#[47, 97]⟩, ⟨#[]⟩, 0, 2⟩
theorem may0 : Oq.may 1 2 [o0] = 0 := by decide +kernel
theorem good1 : Oq.good o1 = 1 := by decide +kernel
theorem writes0 : Oq.writes [o0] = true := by decide +kernel
theorem fit0 : Fit o0 := ⟨by decide, by decide, by decide, by decide, by decide⟩
theorem fit1 : Fit o1 := ⟨by decide, by decide, by decide, by decide, by decide⟩
theorem Ol.one (w : World) (o : O) (t : TypeId) : Ol (w.alloc (.cells (oc o).toArray t)) (.slice (some ⟨w.heap.size, 0, none⟩) 1 1) [o] := by
  refine ⟨_, 1, 1, rfl, rfl, Nat.le_refl _, fun e => (by cases e), fun j x hx => ?_⟩
  match j, hx with
  | 0, hx =>
    simp at hx
    subst hx
    refine ⟨w.heap.size, 0, rfl, fun i u hu => ?_⟩
    rw [Nat.zero_mul, Nat.zero_add, Nat.zero_add]
    exact cell?_alloc_at _ _ _ _ _ _ (by simpa using hu)
  | (j + 1), hx => simp at hx
end Go.Proofs.YtjimemnkmpapgaaGreatDoor
