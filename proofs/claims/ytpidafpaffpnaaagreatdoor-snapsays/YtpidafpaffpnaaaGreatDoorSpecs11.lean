/- What tree's calls are asked to answer, whatever the tree is made of (to be proved of the landed code). -/
import Derived.Test.YtpidafpaffpnaaaGreatDoorPln
import Derived.Test.YtpidafpaffpnaaaGreatDoorLibN
namespace Go.Proofs.YtpidafpaffpnaaaGreatDoor
open Go.RowKit

/-- What path's walks ask of the world does not hang on blocks from the sixth on. -/
theorem Pa.Std.low {w w' : World} (h : Pa.Std w) (hb : Below 6 w w') : Pa.Std w' := by
  obtain ⟨m, hm⟩ := h.len
  have hs := h.size
  have hs' := hb.size
  exact ⟨⟨m, by rw [hb.cell (p := ⟨0, 0, none⟩) (by simp only []; omega)]; exact hm⟩, by omega, var?_below hb Pa.gTab (by omega) h.tab⟩
theorem Pa.Std.moved {w w' : World} {F F' : Nat → Prop} (h : Pa.Std w) (hm : Moved w w' F F') (hF : ∀ k, F k → 6 ≤ k) : Pa.Std w' := h.low (hm.below h.size hF)
/-- A representation of trees: in a world, at an address, this tree, in these blocks. -/
abbrev Rep11 := World → Nat → Tq.Tr → (Nat → Prop) → Prop
def rv (x : X) (nv : Value) : Value := .agg #[.int .i64 x.err, .string x.path, .string x.data, nv, .int .i64 x.made, .int .i64 x.changed, .int .i64 x.ver, .int .i64 x.kids, .int .i64 x.owner, .int .i64 x.len, .int .i64 x.cnt]
/-- An Op whose numbers and texts an argument may hold. -/
structure OFit (o : O) : Prop where
  kind : -9223372036854775808 ≤ o.kind ∧ o.kind ≤ 9223372036854775807
  path : o.path.size ≤ maxLen
  data : o.data.size ≤ maxLen
  ver : -9223372036854775808 ≤ o.ver ∧ o.ver ≤ 9223372036854775807
  flags : -9223372036854775808 ≤ o.flags ∧ o.flags ≤ 9223372036854775807
/-- What a call hands out lies apart from the tree. -/
def Off11 (F : Nat → Prop) (v : Value) : Prop := ∀ k, v.ownBlock = some k → ¬ F k
/-- What Node hands out. -/
def NodeP (t : Tq.Tr) (p : ByteArray) (F : Nat → Prop) (e : Ending) (w : World) : Prop :=
  (∀ n, Tq.find t.l p = some n → ∃ v, e = .returned (.tuple #[kv n v, .bool true]) ∧ Sq w v n.names ∧ (n.names ≠ [] → Off11 F v)) ∧
  (Tq.find t.l p = none → ∃ a c, e = .returned (.tuple #[kv Kq.zero (.slice a 0 c), .bool false]))

structure Specs11 (LT : Rep11) : Prop where
  lt : ∀ {w q t F k}, LT w q t F → F k → k < w.heap.size
  keep : ∀ {w w' : World} {q t F}, LT w q t F → (∀ k, F k → w'.heap[k]? = w.heap[k]?) → LT w' q t F
  new : ∀ (n : Int) (w : World), Calls Tryz.prog 11 #[.int .i64 n] w fun e w' => Below w.heap.size w w' ∧
    if n < 1 ∨ 500 < n then e = .returned (.tuple #[.pointer none, .int .i64 1]) else ∃ q F, e = .returned (.tuple #[dptr q, .int .i64 0]) ∧ LT w' q ⟨n, []⟩ F ∧ ∀ k, F k → w.heap.size ≤ k
  doo : ∀ (q : Nat) (t : Tq.Tr) (F : Nat → Prop) (o : O) (s z : Int) (w : World), LT w q t F → Fine11 t → (∀ k, F k → 6 ≤ k) → Pa.Std w → OFit o →
    Calls Tryz.prog 14 #[dptr q, ov o, .int .i64 s, .int .i64 z] w fun e w' => ∃ F' v, e = .returned (rv (Tq.doo t o s z).1 v) ∧ Sq w' v (Tq.doo t o s z).1.names ∧ ((Tq.doo t o s z).1.names ≠ [] → Off11 F' v) ∧ LT w' q (Tq.doo t o s z).2 F' ∧ Moved w w' F F'
  tri : ∀ (q : Nat) (t : Tq.Tr) (F : Nat → Prop) (o : O) (s z : Int) (w : World), LT w q t F → Fine11 t → (∀ k, F k → 6 ≤ k) → Pa.Std w → OFit o →
    Calls Tryz.prog 16 #[dptr q, ov o, .int .i64 s, .int .i64 z] w fun e w' => ∃ F' v, e = .returned (rv (Tq.doo t o s z).1 v) ∧ Sq w' v (Tq.doo t o s z).1.names ∧ ((Tq.doo t o s z).1.names ≠ [] → Off11 F' v) ∧ LT w' q t F' ∧ Moved w w' F F'
  node : ∀ (q : Nat) (t : Tq.Tr) (F : Nat → Prop) (p : ByteArray) (w : World), LT w q t F → Fine11 t → p.size ≤ maxLen →
    Calls Tryz.prog 45 #[dptr q, .string p] w fun e w' => ∃ F', NodeP t p F' e w' ∧ LT w' q t F' ∧ Moved w w' F F'
  paths : ∀ (q : Nat) (t : Tq.Tr) (F : Nat → Prop) (w : World), LT w q t F → Fine11 t →
    Calls Tryz.prog 71 #[dptr q] w fun e w' => ∃ F' v, e = .returned v ∧ Sq w' v (Tq.keys t.l) ∧ Off11 F' v ∧ LT w' q t F' ∧ Moved w w' F F'
  ofs : ∀ (q : Nat) (t : Tq.Tr) (F : Nat → Prop) (s : Int) (w : World), LT w q t F → Fine11 t →
    Calls Tryz.prog 25 #[dptr q, .int .i64 s] w fun e w' => ∃ F' v, e = .returned v ∧ Sq w' v (Tq.ofs t s) ∧ Off11 F' v ∧ LT w' q t F' ∧ Moved w w' F F'
  len : ∀ (q : Nat) (t : Tq.Tr) (F : Nat → Prop) (w : World), LT w q t F → Fine11 t →
    Calls Tryz.prog 21 #[dptr q] w fun e w' => ∃ F', e = .returned (.int .i64 (t.l.length : Int)) ∧ LT w' q t F' ∧ Moved w w' F F'
  load : ∀ (q : Nat) (t : Tq.Tr) (F : Nat → Prop) (p : ByteArray) (n : Kq.Kn) (u : Value) (w : World), LT w q t F → Fine11 t → (∀ k, F k → 6 ≤ k) → Pa.Std w → Ss w u n.names → (n.names ≠ [] → Off11 F u) → n.names.length ≤ 1000 → (∀ s ∈ n.names, s.size ≤ 20000) → n.data.size ≤ 20000 → p.size ≤ maxLen →
    Calls Tryz.prog 18 #[dptr q, .string p, kv n u] w fun e w' => ∃ F', e = .returned (.int .i64 (Tq.load t p n).1) ∧ LT w' q (Tq.load t p n).2 F' ∧ Moved w w' F F'
  copy : ∀ (q : Nat) (t : Tq.Tr) (F : Nat → Prop) (w : World), LT w q t F → Fine11 t →
    Calls Tryz.prog 42 #[dptr q] w fun e w' => ∃ q2 F2, e = .returned (dptr q2) ∧ LT w' q2 t F2 ∧ (∀ k, F2 k → w.heap.size ≤ k) ∧ LT w' q t F ∧ Below w.heap.size w w'

/-- A block that lies apart from the tree. -/
structure Kept11 (w : World) (F : Nat → Prop) (k : Nat) (cs : List Value) (t : TypeId) : Prop where
  cb : Cb w k cs t
  off : ¬ F k
theorem Kept11.moved {w w' : World} {F F' : Nat → Prop} {k : Nat} {cs : List Value} {t : TypeId} (h : Kept11 w F k cs t) (hm : Moved w w' F F') : Kept11 w' F' k cs t :=
  ⟨h.cb.keep (hm.block k h.cb.lt h.off), fun e => by
    rcases hm.sub k e with e | e
    · exact h.off e
    · have := h.cb.lt
      omega⟩
theorem Kept11.later {w w' : World} {F : Nat → Prop} {k : Nat} {cs : List Value} {t : TypeId} (h : Kept11 w F k cs t) (hb : Below w.heap.size w w') : Kept11 w' F k cs t := ⟨h.cb.below hb, h.off⟩
theorem Kept11.made (w : World) (F : Nat → Prop) (hF : ∀ k, F k → k < w.heap.size) (cs : List Value) (t : TypeId) : Kept11 (w.alloc (.cells cs.toArray t)) F w.heap.size cs t := ⟨Cb.made w cs t, fun e => by have := hF _ e; omega⟩

/-- A tree that a statement has made: its blocks are the statement's own. -/
structure Mine11 (LT : Rep11) (W w : World) (q : Nat) (t : Tq.Tr) (F : Nat → Prop) : Prop where
  ld : LT w q t F
  fine : Fine11 t
  hi : ∀ k, F k → W.heap.size ≤ k
  below : Below W.heap.size W w
section
variable {LT : Rep11} {W w w' : World} {q : Nat} {t t' : Tq.Tr} {F F' : Nat → Prop}
theorem Mine11.six (h : Mine11 LT W w q t F) (hS : Pa.Std W) : ∀ k, F k → 6 ≤ k := fun k hk => Nat.le_trans hS.size (h.hi k hk)
theorem Mine11.step (h : Mine11 LT W w q t F) (hl : LT w' q t' F') (hf : Fine11 t') (hm : Moved w w' F F') : Mine11 LT W w' q t' F' := by
  have hs := h.below.size
  refine ⟨hl, hf, fun k hk => ?_, h.below.trans (hm.below hs h.hi)⟩
  rcases hm.sub k hk with h1 | h1
  · exact h.hi k h1
  · omega
theorem Mine11.later (S : Specs11 LT) (h : Mine11 LT W w q t F) (hb : Below w.heap.size w w') : Mine11 LT W w' q t F :=
  h.step (S.keep h.ld fun k hk => hb.block k (S.lt h.ld hk)) h.fine (Moved.of_below F hb)
theorem fine11_new {n : Int} (h : ¬ (n < 1 ∨ 500 < n)) : Fine11 ⟨n, []⟩ := ⟨List.Pairwise.nil, by simp only []; omega, by simp only [List.length_nil]; omega, fun e he => by cases he⟩
theorem Mine11.doo (S : Specs11 LT) (h : Mine11 LT W w q t F) (hS : Pa.Std W) (o : O) (s z : Int) (ho : OFit o) (x : X) (t' : Tq.Tr) (he : Tq.doo t o s z = (x, t')) (hf : Fine11 t') :
    Calls Tryz.prog 14 #[dptr q, ov o, .int .i64 s, .int .i64 z] w fun e w' => ∃ F' v, e = .returned (rv x v) ∧ Sq w' v x.names ∧ (x.names ≠ [] → Off11 F' v) ∧ Mine11 LT W w' q t' F' ∧ Moved w w' F F' := by
  refine (S.doo q t F o s z w h.ld h.fine (h.six hS) (hS.below h.below) ho).mono ?_
  rintro e w' ⟨F', v, rfl, h1, h2, h3, hm⟩
  rw [he] at h1 h2 h3 ⊢
  exact ⟨F', v, rfl, h1, h2, h.step h3 hf hm, hm⟩
theorem Mine11.node (S : Specs11 LT) (h : Mine11 LT W w q t F) (p : ByteArray) (hp : p.size ≤ maxLen) :
    Calls Tryz.prog 45 #[dptr q, .string p] w fun e w' => ∃ F', NodeP t p F' e w' ∧ Mine11 LT W w' q t F' ∧ Moved w w' F F' := by
  refine (S.node q t F p w h.ld h.fine hp).mono ?_
  rintro e w' ⟨F', h1, h2, hm⟩
  exact ⟨F', h1, h.step h2 h.fine hm, hm⟩
theorem Mine11.len (S : Specs11 LT) (h : Mine11 LT W w q t F) :
    Calls Tryz.prog 21 #[dptr q] w fun e w' => ∃ F', e = .returned (.int .i64 (t.l.length : Int)) ∧ Mine11 LT W w' q t F' ∧ Moved w w' F F' := by
  refine (S.len q t F w h.ld h.fine).mono ?_
  rintro e w' ⟨F', h1, h2, hm⟩
  exact ⟨F', h1, h.step h2 h.fine hm, hm⟩
end
end Go.Proofs.YtpidafpaffpnaaaGreatDoor
