/- A tree and a copy of it beside a tree of the reference's. -/
import Derived.Test.YtfcbdjjbchcpjaaGreatDoorTwo12
import Derived.Test.YtfcbdjjbchcpjaaGreatDoorWDo11
import Derived.Test.YtfcbdjjbchcpjaaGreatDoorROwnX11
namespace Go.Proofs.YtfcbdjjbchcpjaaGreatDoor
open Go.RowKit
def Tq.pZZ : ByteArray := ⟨#[47, 122, 122]⟩
theorem Moved.join_left {w w' : World} {F F' : Nat → Prop} (h : Moved w w' F F') (F2 : Nat → Prop) : Moved w w' (fun k => F k ∨ F2 k) (fun k => F' k ∨ F2 k) :=
  ⟨h.os, h.tape, h.output, h.size, fun k hk hn => h.block k hk (fun e => hn (Or.inl e)), fun k hk => hk.elim (fun e => (h.sub k e).imp Or.inl id) (fun e => Or.inl (Or.inr e))⟩
theorem Moved.join_right {w w' : World} {F2 F2' : Nat → Prop} (h : Moved w w' F2 F2') (F : Nat → Prop) : Moved w w' (fun k => F k ∨ F2 k) (fun k => F k ∨ F2' k) :=
  ⟨h.os, h.tape, h.output, h.size, fun k hk hn => h.block k hk (fun e => hn (Or.inr e)), fun k hk => hk.elim (fun e => Or.inl (Or.inl e)) (fun e => (h.sub k e).imp Or.inr id)⟩
section
variable {LT : Rep11} {W w w' : World} {q q2 : Nat} {t t2 : Tq.Tr} {F F2 : Nat → Prop}
theorem Mine11.own11 (S : Specs11 LT) (R : SpecR11 LT) (h : Mine11 LT W w q t F) (room : Int) :
    Calls Tryz.prog 32 #[dptr q, .int .i64 room] w fun e w' => ∃ q' v es, e = .returned (dptr q') ∧ Ro11 W w' F q' room v es ∧ es.map (·.1) = t.l ∧ Below w.heap.size w w' := by
  refine (own_any11 S R q t F room w h.ld h.fine).mono ?_
  rintro e w' ⟨q', v, es, pv, rfl, hO, he⟩
  exact ⟨q', v, es, rfl, hO.ro (fun k hk => S.lt h.ld hk) h.below.size, he, hO.below⟩
theorem Mine11.tri (S : Specs11 LT) (h : Mine11 LT W w q t F) (hS : Pa.Std W) (o : O) (s z : Int) (ho : OFit o) :
    Calls Tryz.prog 19 #[dptr q, ov o, .int .i64 s, .int .i64 z] w fun e w' => ∃ F' v, e = .returned (rv (Tq.doo t o s z).1 v) ∧ Mine11 LT W w' q t F' ∧ Moved w w' F F' := by
  refine (S.tri q t F o s z w h.ld h.fine (h.six hS) (hS.below h.below) ho).mono ?_
  rintro e w' ⟨F', v, rfl, _, _, h3, hm⟩
  exact ⟨F', v, rfl, h.step h3 h.fine hm, hm⟩
end
theorem Ro11.alike11 {W w : World} {F F2 : Nat → Prop} {q q2 : Nat} {room r2 : Int} {v v2 : Value} {es es2 : List (Tq.En × Value)} {t : Tq.Tr} (h : Ro11 W w F q room v es) (h2 : Ro11 W w F2 q2 r2 v2 es2) (he : es.map (·.1) = t.l) (he2 : es2.map (·.1) = t.l) (hf : Fine11 t) :
    Calls Tryz.prog 31 #[dptr q, dptr q2] w fun e w' => e = .returned (.bool true) ∧ Below w.heap.size w w' := h.alike h2 he he2 hf
end Go.Proofs.YtfcbdjjbchcpjaaGreatDoor
