/- Several Ops on a tree that a statement has made; lists of Ops and replies of the statement's own. -/
import Derived.Test.YtfcbdjjbchcpjaaGreatDoorWMany12
import Derived.Test.YtfcbdjjbchcpjaaGreatDoorLAwake11
namespace Go.Proofs.YtfcbdjjbchcpjaaGreatDoor
open Go.RowKit

/-- The cells of Ops, one behind the other. -/
def ocs (os : List O) : List Value := os.flatMap oc
theorem ocs_at : ∀ (os : List O) (j : Nat) {o : O} {i : Nat} {u : Value}, os[j]? = some o → (oc o)[i]? = some u → (ocs os)[j * 5 + i]? = some u
  | [], j, o, i, u, h, _ => by simp at h
  | y :: os, 0, o, i, u, h, hu => by
    simp only [List.getElem?_cons_zero, Option.some.injEq] at h
    subst h
    have hi := (List.getElem?_eq_some_iff.1 hu).1
    unfold ocs
    rw [List.flatMap_cons, List.getElem?_append_left (by simpa using hi), Nat.zero_mul, Nat.zero_add]
    exact hu
  | y :: os, j + 1, o, i, u, h, hu => by
    simp only [List.getElem?_cons_succ] at h
    have ih := ocs_at os j h hu
    have hl : (oc y).length = 5 := rfl
    unfold ocs at ih ⊢
    rw [List.flatMap_cons, List.getElem?_append_right (by rw [hl]; omega), hl, show (j + 1) * 5 + i - 5 = j * 5 + i by omega]
    exact ih
theorem Om12.made (w : World) (F : Nat → Prop) (hF : ∀ k, F k → k < w.heap.size) (os : List O) : Om12 (w.alloc (.cells (ocs os).toArray 34)) F (.slice (some ⟨w.heap.size, 0, none⟩) os.length os.length) os := by
  refine ⟨⟨_, _, _, rfl, rfl, Nat.le_refl _, fun e => (by cases e), fun j o ho => ⟨w.heap.size, 0, rfl, fun i u hu => ?_⟩⟩, fun _ k hk e => ?_⟩
  · rw [Nat.zero_add]
    exact cell?_alloc_at _ _ _ _ _ _ (by simpa using ocs_at os j ho hu)
  · simp only [Value.ownBlock, Option.some.injEq] at hk
    have := hF k e
    omega

/-- A reply that was boxed, off a tree's blocks. -/
structure Rb12 (w : World) (F : Nat → Prop) (B q : Nat) (r : Rp) (u : Value) : Prop where
  blk : Kept11 w F q [.int .i64 r.num, .int .i64 r.zxid, .int .i64 r.err, .int .i64 r.at_, u] 73
  res : Rn12 B F w u r.xs
section
variable {w w' : World} {F F' : Nat → Prop} {B q : Nat} {r : Rp} {u : Value}
theorem Rb12.moved (h : Rb12 w F B q r u) (hm : Moved w w' F F') : Rb12 w' F' B q r u := ⟨h.blk.moved hm, h.res.moved hm⟩
theorem Rb12.later (h : Rb12 w F B q r u) (hb : Below w.heap.size w w') : Rb12 w' F B q r u := ⟨h.blk.later hb, h.res.later hb⟩
theorem Rb12.made (hF : ∀ k, F k → k < w.heap.size) (h : Rn12 B F w u r.xs) : Rb12 (w.alloc (.cells #[.int .i64 r.num, .int .i64 r.zxid, .int .i64 r.err, .int .i64 r.at_, u] 73)) F B w.heap.size r u :=
  ⟨Kept11.made w F hF [.int .i64 r.num, .int .i64 r.zxid, .int .i64 r.err, .int .i64 r.at_, u] _, h.later ((Below.refl _ w).alloc (Nat.le_refl _) _)⟩
theorem Rn12.first {a : Option Addr} {k c : Nat} {x : X} {xs : List X} (h : Rn12 B F w (.slice a k c) xs) (hx : xs[0]? = some x) : ∃ g b, a = some ⟨g, b, none⟩ ∧ w.cell? ⟨g, b, none⟩ = some (.int .i64 x.err) := by
  obtain ⟨av, k', c', e, _, _, _, hs⟩ := h
  obtain ⟨g, b, nv, h1, _, _, _, h5⟩ := hs 0 x hx
  obtain ⟨e1, _, _⟩ := Value.slice.inj e
  exact ⟨g, b, by rw [e1, h1], by have := h5 0 _ rfl; simpa using this⟩
end
theorem Rn12.form {B : Nat} {F : Nat → Prop} {w : World} {u : Value} {xs : List X} (h : Rn12 B F w u xs) : ∃ a c, u = .slice a xs.length c := by
  obtain ⟨av, k, c, rfl, rfl, _⟩ := h
  exact ⟨_, _, rfl⟩

section
variable {LT : Rep11} {W w : World} {q : Nat} {t : Tq.Tr} {F : Nat → Prop}
theorem Mine11.flt (S : Specs11 LT) (h : Mine11 LT W w q t F) : ∀ k, F k → k < w.heap.size := fun _ hk => S.lt h.ld hk
theorem Mine11.many (S : Specs11 LT) (D : SpecD12 LT) (h : Mine11 LT W w q t F) (hS : Pa.Std W) (s z : Int) (v : Value) (os : List O) (m : Nat) (hk : Tq.Few t m) (hm : m ≤ 883) (hO : Om12 w F v os) (hok : ∀ o ∈ os, OFit o) (hn : os.length ≤ 9223372036854775807) (r : Rp) (b : Bool) (t' : Tq.Tr) (he : Tq.many t s z os = ((r, b), t')) :
    Calls Tryz.prog 41 #[dptr q, .int .i64 s, .int .i64 z, v] w fun e w' => ∃ F' u, e = .returned (.tuple #[rpv r u, .bool b]) ∧ Rn12 w.heap.size F' w' u r.xs ∧ Mine11 LT W w' q t' F' ∧ Moved w w' F F' := by
  have hfi : Fine11 t' := by
    by_cases h16 : 16 < os.length
    · rw [Tq.many_long h16] at he
      rw [← (Prod.mk.inj he).2]
      exact h.fine
    · have := Tq.many_fine (s := s) (z := z) (os := os) h.fine hk (by omega)
      rw [he] at this
      exact this
  refine (many_any12 S D q t F s z v os m w h.ld h.fine hk hm (h.six hS) (hS.below h.below) hO hok hn).mono ?_
  rintro e w' ⟨F', u, rfl, h1, h2, hm⟩
  rw [he] at h1 h2 ⊢
  exact ⟨F', u, rfl, h1, h.step h2 hfi hm, hm⟩
end
end Go.Proofs.YtfcbdjjbchcpjaaGreatDoor
