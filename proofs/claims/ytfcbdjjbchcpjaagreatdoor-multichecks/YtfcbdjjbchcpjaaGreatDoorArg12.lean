/- Trees of the reference's beside a statement's own tree. -/
import Derived.Test.YtfcbdjjbchcpjaaGreatDoorArgA12
import Derived.Test.YtfcbdjjbchcpjaaGreatDoorROwn12
namespace Go.Proofs.YtfcbdjjbchcpjaaGreatDoor
open Go.RowKit
/-- A tree of the reference's, as own makes it, beside the tree that it is of. -/
theorem Mine11.own {LT : Rep11} (S : Specs11 LT) (R : SpecR11 LT) {W w : World} {q : Nat} {t : Tq.Tr} {F : Nat → Prop} (h : Mine11 LT W w q t F) (room : Int) :
    Calls Tryz.prog 51 #[dptr q, .int .i64 room] w fun e w' => ∃ q' v es, e = .returned (dptr q') ∧ Ro11 W w' F q' room v es ∧ es.map (·.1) = t.l ∧ Below w.heap.size w w' := by
  refine (own_any12 S R q t F room w h.ld h.fine).mono ?_
  rintro e w' ⟨q', v, es, pv, rfl, hO, he⟩
  exact ⟨q', v, es, rfl, hO.ro (fun k hk => S.lt h.ld hk) h.below.size, he, hO.below⟩
/-- Two that are of the same entries. -/
theorem Ro11.alike {W w : World} {F F2 : Nat → Prop} {q q2 : Nat} {room r2 : Int} {v v2 : Value} {es es2 : List (Tq.En × Value)} {t : Tq.Tr} (h : Ro11 W w F q room v es) (h2 : Ro11 W w F2 q2 r2 v2 es2) (he : es.map (·.1) = t.l) (he2 : es2.map (·.1) = t.l) (hf : Fine11 t) :
    Calls Tryz.prog 31 #[dptr q, dptr q2] w fun e w' => e = .returned (.bool true) ∧ Below w.heap.size w w' :=
  h.same h2 (by rw [he, he2]) (by rw [he]; exact (fine_many hf).1) (by have h1 := congrArg List.length he; rw [List.length_map] at h1; have := (fine_many hf).2; omega)
end Go.Proofs.YtfcbdjjbchcpjaaGreatDoor
