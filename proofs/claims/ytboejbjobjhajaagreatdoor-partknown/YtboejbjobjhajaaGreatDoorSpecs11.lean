/- What tree's calls are asked to answer, whatever the tree is made of (to be proved of the landed code). -/
import Derived.Test.YtboejbjobjhajaaGreatDoorPln
import Derived.Test.YtboejbjobjhajaaGreatDoorLibN
namespace Go.Proofs.YtboejbjobjhajaaGreatDoor
open Go.RowKit

theorem Pa.Std.low {w w' : World} (h : Pa.Std w) (hb : Below 6 w w') : Pa.Std w' := by
  obtain ⟨m, hm⟩ := h.len
  have hs := h.size
  have hs' := hb.size
  exact ⟨⟨m, by rw [hb.cell (p := ⟨0, 0, none⟩) (by simp only []; omega)]; exact hm⟩, by omega, var?_below hb Pa.gTab (by omega) h.tab⟩
theorem Pa.Std.moved {w w' : World} {F F' : Nat → Prop} (h : Pa.Std w) (hm : Moved w w' F F') (hF : ∀ k, F k → 6 ≤ k) : Pa.Std w' := h.low (hm.below h.size hF)
abbrev Rep11 := World → Nat → Tq.Tr → (Nat → Prop) → Prop
def rv (x : X) (nv : Value) : Value := .agg #[.int .i64 x.err, .string x.path, .string x.data, nv, .int .i64 x.made, .int .i64 x.changed, .int .i64 x.ver, .int .i64 x.kids, .int .i64 x.owner, .int .i64 x.len, .int .i64 x.cnt]
structure OFit (o : O) : Prop where
  kind : -9223372036854775808 ≤ o.kind ∧ o.kind ≤ 9223372036854775807
  path : o.path.size ≤ maxLen
  data : o.data.size ≤ maxLen
  ver : -9223372036854775808 ≤ o.ver ∧ o.ver ≤ 9223372036854775807
  flags : -9223372036854775808 ≤ o.flags ∧ o.flags ≤ 9223372036854775807
def Off11 (F : Nat → Prop) (v : Value) : Prop := ∀ k, v.ownBlock = some k → ¬ F k
def NodeP (t : Tq.Tr) (p : ByteArray) (F : Nat → Prop) (e : Ending) (w : World) : Prop :=
  (∀ n, Tq.find t.l p = some n → ∃ v, e = .returned (.tuple #[kv n v, .bool true]) ∧ Sq w v n.names ∧ (n.names ≠ [] → Off11 F v)) ∧
  (Tq.find t.l p = none → ∃ a c, e = .returned (.tuple #[kv Kq.zero (.slice a 0 c), .bool false]))

structure Specs11 (LT : Rep11) : Prop where
  lt : ∀ {w q t F k}, LT w q t F → F k → k < w.heap.size
  keep : ∀ {w w' : World} {q t F}, LT w q t F → (∀ k, F k → w'.heap[k]? = w.heap[k]?) → LT w' q t F
  new : ∀ (n : Int) (w : World), Calls Tryz.prog 42 #[.int .i64 n] w fun e w' => Below w.heap.size w w' ∧
    if n < 1 ∨ 500 < n then e = .returned (.tuple #[.pointer none, .int .i64 1]) else ∃ q F, e = .returned (.tuple #[dptr q, .int .i64 0]) ∧ LT w' q ⟨n, []⟩ F ∧ ∀ k, F k → w.heap.size ≤ k
  doo : ∀ (q : Nat) (t : Tq.Tr) (F : Nat → Prop) (o : O) (s z : Int) (w : World), LT w q t F → Fine11 t → (∀ k, F k → 6 ≤ k) → Pa.Std w → OFit o →
    Calls Tryz.prog 133 #[dptr q, ov o, .int .i64 s, .int .i64 z] w fun e w' => ∃ F' v, e = .returned (rv (Tq.doo t o s z).1 v) ∧ Sq w' v (Tq.doo t o s z).1.names ∧ ((Tq.doo t o s z).1.names ≠ [] → Off11 F' v) ∧ LT w' q (Tq.doo t o s z).2 F' ∧ Moved w w' F F'
  tri : ∀ (q : Nat) (t : Tq.Tr) (F : Nat → Prop) (o : O) (s z : Int) (w : World), LT w q t F → Fine11 t → (∀ k, F k → 6 ≤ k) → Pa.Std w → OFit o →
    Calls Tryz.prog 39 #[dptr q, ov o, .int .i64 s, .int .i64 z] w fun e w' => ∃ F' v, e = .returned (rv (Tq.doo t o s z).1 v) ∧ Sq w' v (Tq.doo t o s z).1.names ∧ ((Tq.doo t o s z).1.names ≠ [] → Off11 F' v) ∧ LT w' q t F' ∧ Moved w w' F F'
  node : ∀ (q : Nat) (t : Tq.Tr) (F : Nat → Prop) (p : ByteArray) (w : World), LT w q t F → Fine11 t → p.size ≤ maxLen →
    Calls Tryz.prog 82 #[dptr q, .string p] w fun e w' => ∃ F', NodeP t p F' e w' ∧ LT w' q t F' ∧ Moved w w' F F'
  paths : ∀ (q : Nat) (t : Tq.Tr) (F : Nat → Prop) (w : World), LT w q t F → Fine11 t →
    Calls Tryz.prog 81 #[dptr q] w fun e w' => ∃ F' v, e = .returned v ∧ Sq w' v (Tq.keys t.l) ∧ Off11 F' v ∧ LT w' q t F' ∧ Moved w w' F F'
  ofs : ∀ (q : Nat) (t : Tq.Tr) (F : Nat → Prop) (s : Int) (w : World), LT w q t F → Fine11 t →
    Calls Tryz.prog 59 #[dptr q, .int .i64 s] w fun e w' => ∃ F' v, e = .returned v ∧ Sq w' v (Tq.ofs t s) ∧ Off11 F' v ∧ LT w' q t F' ∧ Moved w w' F F'
  len : ∀ (q : Nat) (t : Tq.Tr) (F : Nat → Prop) (w : World), LT w q t F → Fine11 t →
    Calls Tryz.prog 20 #[dptr q] w fun e w' => ∃ F', e = .returned (.int .i64 (t.l.length : Int)) ∧ LT w' q t F' ∧ Moved w w' F F'
  copy : ∀ (q : Nat) (t : Tq.Tr) (F : Nat → Prop) (w : World), LT w q t F → Fine11 t →
    Calls Tryz.prog 47 #[dptr q] w fun e w' => ∃ q2 F2, e = .returned (dptr q2) ∧ LT w' q2 t F2 ∧ (∀ k, F2 k → w.heap.size ≤ k) ∧ LT w' q t F ∧ Below w.heap.size w w'

structure Kept11 (w : World) (F : Nat → Prop) (k : Nat) (cs : List Value) (t : TypeId) : Prop where
  cb : Cb w k cs t
  off : ¬ F k
theorem Kept11.moved {w w' : World} {F F' : Nat → Prop} {k : Nat} {cs : List Value} {t : TypeId} (h : Kept11 w F k cs t) (hm : Moved w w' F F') : Kept11 w' F' k cs t :=
  ⟨h.cb.keep (hm.block k h.cb.lt h.off), fun e => by
    rcases hm.sub k e with e | e
    · exact h.off e
    · have := h.cb.lt
      omega⟩
theorem Kept11.later {w w' : World} {F : Nat → Prop} {k : Nat} {cs : List Value} {t : TypeId} (h : Kept11 w F k cs t) (hb : Below w.heap.size w w') : Kept11 w' F k cs t := ⟨h.cb.below hb, h.off⟩
theorem Kept11.made (w : World) (F : Nat → Prop) (hF : ∀ k, F k → k < w.heap.size) (cs : List Value) (t : TypeId) : Kept11 (w.alloc (.cells cs.toArray t)) F w.heap.size cs t := ⟨Cb.made w cs t, fun e => by have := hF _ e; omega⟩

section
variable {LT : Rep11} {W w w' : World} {q : Nat} {t t' : Tq.Tr} {F F' : Nat → Prop}
theorem fine11_new {n : Int} (h : ¬ (n < 1 ∨ 500 < n)) : Fine11 ⟨n, []⟩ := ⟨List.Pairwise.nil, by simp only []; omega, by simp only [List.length_nil]; omega, fun e he => by cases he⟩
end
end Go.Proofs.YtboejbjobjhajaaGreatDoor
