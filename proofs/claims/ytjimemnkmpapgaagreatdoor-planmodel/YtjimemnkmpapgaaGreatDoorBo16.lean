/- Two Tables, apart from each other. -/
import Derived.Test.YtjimemnkmpapgaaGreatDoorSpecs16
namespace Go.Proofs.YtjimemnkmpapgaaGreatDoor
open Go.RowKit

theorem Moved.orl16 {w w' : World} {F F' : Nat → Prop} (h : Moved w w' F F') (G : Nat → Prop) : Moved w w' (fun k => F k ∨ G k) (fun k => F' k ∨ G k) :=
  ⟨h.os, h.tape, h.output, h.size, fun k hk hn => h.block k hk (fun e => hn (Or.inl e)), fun k hk => hk.elim (fun e => (h.sub k e).elim (fun e => Or.inl (Or.inl e)) Or.inr) (fun e => Or.inl (Or.inr e))⟩
theorem Moved.orr16 {w w' : World} {G G' : Nat → Prop} (h : Moved w w' G G') (F : Nat → Prop) : Moved w w' (fun k => F k ∨ G k) (fun k => F k ∨ G' k) :=
  ⟨h.os, h.tape, h.output, h.size, fun k hk hn => h.block k hk (fun e => hn (Or.inr e)), fun k hk => hk.elim (fun e => Or.inl (Or.inl e)) (fun e => (h.sub k e).elim (fun e => Or.inl (Or.inr e)) Or.inr)⟩
/-- Two Tables, apart from each other. -/
structure Bo16 (LS LT : Rep16) (W w : World) (q r : Nat) (m : Int) (s t : Tb.St) (F G : Nat → Prop) : Prop where
  one : Mine16 LS W w q m s F
  two : Mine16 LT W w r m t G
  off : ∀ k, F k → ¬ G k
section
variable {LS LT : Rep16} {W w w' : World} {q r : Nat} {m m' : Int} {s t s' t' : Tb.St} {F G F' G' : Nat → Prop}
theorem Bo16.later (S : Specs16 LS) (ltk : ∀ {w q s F k}, LT w q s F → F k → k < w.heap.size) (kpk : ∀ {w w' : World} {q s F}, LT w q s F → (∀ k, F k → w'.heap[k]? = w.heap[k]?) → LT w' q s F) (h : Bo16 LS LT W w q r m s t F G) (hb : Below w.heap.size w w') : Bo16 LS LT W w' q r m s t F G :=
  ⟨h.one.later S hb, h.two.step (kpk h.two.ld fun k hk => hb.block k (ltk h.two.ld hk)) h.two.fine (Moved.of_below G hb), h.off⟩
theorem Bo16.mono (h : Bo16 LS LT W w q r m s t F G) (hm : m ≤ m') : Bo16 LS LT W w q r m' s t F G := ⟨h.one.mono hm, h.two.mono hm, h.off⟩
/-- The first has moved. -/
theorem Bo16.first (ltk : ∀ {w q s F k}, LT w q s F → F k → k < w.heap.size) (kpk : ∀ {w w' : World} {q s F}, LT w q s F → (∀ k, F k → w'.heap[k]? = w.heap[k]?) → LT w' q s F) (h : Bo16 LS LT W w q r m s t F G) (h1 : Mine16 LS W w' q m' s' F') (hv : Moved w w' F F') (hm : m ≤ m') : Bo16 LS LT W w' q r m' s' t F' G :=
  ⟨h1, ⟨kpk h.two.ld fun k hk => hv.block k (ltk h.two.ld hk) (fun e => h.off k e hk), h.two.fine.mono hm, h.two.hi, h1.below⟩, fun k hk e => (hv.sub k hk).elim (fun e2 => h.off k e2 e) (fun e2 => by have := ltk h.two.ld e; omega)⟩
/-- The second has moved. -/
theorem Bo16.second (S : Specs16 LS) (h : Bo16 LS LT W w q r m s t F G) (h2 : Mine16 LT W w' r m' t' G') (hv : Moved w w' G G') (hm : m ≤ m') : Bo16 LS LT W w' q r m' s t' F G' :=
  ⟨⟨S.keep h.one.ld fun k hk => hv.block k (S.lt h.one.ld hk) (h.off k hk), h.one.fine.mono hm, h.one.hi, h2.below⟩, h2, fun k hk e => (hv.sub k e).elim (h.off k hk) (fun e2 => by have := S.lt h.one.ld hk; omega)⟩
end

end Go.Proofs.YtjimemnkmpapgaaGreatDoor
