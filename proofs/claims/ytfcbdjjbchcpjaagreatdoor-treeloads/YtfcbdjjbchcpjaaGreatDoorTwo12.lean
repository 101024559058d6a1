/- Two trees of a statement's own, apart from one another. -/
import Derived.Test.YtfcbdjjbchcpjaaGreatDoorArg12
namespace Go.Proofs.YtfcbdjjbchcpjaaGreatDoor.Tq
section
variable {t : Tr} {s z : Int} {o : O} {n : Kq.Kn}
theorem make_names12 {u : Option ByteArray} {p d : ByteArray} {own : Int} : (makeAt t u p own z d).1.names = [] := by
  unfold makeAt
  split
  · rfl
  · split <;> rfl
theorem create_names12 : (create t o s z).1.names = [] := by
  unfold create
  simp only []
  split
  · exact make_names12
  · split
    · rfl
    · split
      · rfl
      · split
        · split
          · rfl
          · exact make_names12
        · exact make_names12
theorem at_names (hn : n.names.length ≤ 900) : (atNode t o z n).1.names.length ≤ 900 := by
  unfold atNode
  split
  · simp [fail]
  split
  · split <;> simp [fail, gone]
  split
  · simp [told]
  split
  · simp [gone]
  split
  · simp [told]
  split
  · simp [told]
  · exact hn
theorem doo_names (hf : Fine11 t) : (doo t o s z).1.names.length ≤ 900 := by
  unfold doo
  split
  · simp [fail]
  split
  · simp [fail]
  split
  · rw [create_names12]
    simp
  split
  · simp [fail]
  · rename_i hn
    exact at_names (hf.nodes _ (find_some hn)).2.many
theorem says_get : ∀ {l : List O} {t : Tr} {k : Nat} {o : O}, l[k]? = some o → (says t s z l)[k]? = some (doo (after t s z (l.take k)) o s z).1
  | [], _, _, _, h => by simp at h
  | a :: l, t, 0, o, h => by
    simp only [List.getElem?_cons_zero, Option.some.injEq] at h
    subst h
    rfl
  | a :: l, t, k + 1, o, h => by
    simp only [List.getElem?_cons_succ] at h
    exact says_get (l := l) (t := (doo t a s z).2) h
end
end Go.Proofs.YtfcbdjjbchcpjaaGreatDoor.Tq
namespace Go.Proofs.YtfcbdjjbchcpjaaGreatDoor
open Go.RowKit

structure Two12 (LT : Rep11) (W w : World) (q : Nat) (t : Tq.Tr) (F : Nat → Prop) (q2 : Nat) (t2 : Tq.Tr) (F2 : Nat → Prop) : Prop where
  one : Mine11 LT W w q t F
  two : Mine11 LT W w q2 t2 F2
  apart : ∀ k, F k → ¬ F2 k
section
variable {LT : Rep11} {W w w' : World} {q q2 : Nat} {t t2 t' : Tq.Tr} {F F2 F' : Nat → Prop}
theorem Two12.left (S : Specs11 LT) (h : Two12 LT W w q t F q2 t2 F2) (hM : Mine11 LT W w' q t' F') (hm : Moved w w' F F') : Two12 LT W w' q t' F' q2 t2 F2 :=
  ⟨hM, ⟨S.keep h.two.ld (fun k hk => hm.block k (S.lt h.two.ld hk) (fun e => h.apart k e hk)), h.two.fine, h.two.hi, hM.below⟩, fun k e e2 => by
    rcases hm.sub k e with e | e
    · exact h.apart k e e2
    · have := S.lt h.two.ld e2
      omega⟩
theorem Two12.right (S : Specs11 LT) (h : Two12 LT W w q t F q2 t2 F2) (hM : Mine11 LT W w' q2 t' F') (hm : Moved w w' F2 F') : Two12 LT W w' q t F q2 t' F' :=
  ⟨⟨S.keep h.one.ld (fun k hk => hm.block k (S.lt h.one.ld hk) (fun e => h.apart k hk e)), h.one.fine, h.one.hi, hM.below⟩, hM, fun k e e2 => by
    rcases hm.sub k e2 with e2 | e2
    · exact h.apart k e e2
    · have := S.lt h.one.ld e
      omega⟩
theorem Two12.later (S : Specs11 LT) (h : Two12 LT W w q t F q2 t2 F2) (hb : Below w.heap.size w w') : Two12 LT W w' q t F q2 t2 F2 := ⟨h.one.later S hb, h.two.later S hb, h.apart⟩
theorem Mine11.copy (S : Specs11 LT) (h : Mine11 LT W w q t F) :
    Calls Tryz.prog 39 #[dptr q] w fun e w' => ∃ q2 F2, e = .returned (dptr q2) ∧ Two12 LT W w' q t F q2 t F2 ∧ Below w.heap.size w w' ∧ ∀ k, F2 k → w.heap.size ≤ k := by
  refine (S.copy q t F w h.ld h.fine).mono ?_
  rintro e w' ⟨q2, F2, rfl, h1, h2, h3, hb⟩
  have hs := h.below.size
  refine ⟨q2, F2, rfl, ⟨h.later S hb, ⟨h1, h.fine, fun k hk => by have := h2 k hk; omega, h.below.trans (hb.mono hs)⟩, fun k e e2 => ?_⟩, hb, h2⟩
  have := S.lt h.ld e
  have := h2 k e2
  omega
end
theorem Rn12.at11 {B : Nat} {F : Nat → Prop} {w : World} {a : Option Addr} {L c j : Nat} {xs : List X} {x : X} (h : Rn12 B F w (.slice a L c) xs) (hx : xs[j]? = some x) : ∃ g b nv, a = some ⟨g, b, none⟩ ∧ Sq w nv x.names ∧ At11 w g (b + j * 11) x nv := by
  obtain ⟨av, k', c', e, _, _, _, hs⟩ := h
  obtain ⟨g, b, nv, h1, _, h3, _, h5⟩ := hs j x hx
  obtain ⟨e1, _, _⟩ := Value.slice.inj e
  exact ⟨g, b, nv, by rw [e1, h1], h3, At11.of fun i u hu => by have := h5 i u hu; rw [← Nat.add_assoc] at this; exact this⟩
theorem Rb12.swap {w : World} {F F' : Nat → Prop} {B q : Nat} {r : Rp} {u : Value} (h : Rb12 w F B q r u) (hq : ¬ F' q) (hF : ∀ k, F' k → k < B) : Rb12 w F' B q r u :=
  ⟨⟨h.blk.cb, hq⟩, h.res.keep fun k hk _ _ => ⟨rfl, fun e => by have := hF k e; omega⟩⟩
end Go.Proofs.YtfcbdjjbchcpjaaGreatDoor
