/- What the reference's Get has under way: its Reader, its request, the Ops that were read. -/
import Derived.Test.YtcpajjjkhikipaaGreatDoorGetBase
import Derived.Test.YtcpajjjkhikipaaGreatDoorLibV
namespace Go.Proofs.YtcpajjjkhikipaaGreatDoor
open Go.RowKit

/-- All of it: the Reader at qr, the request at qq, the answer's place at q0. -/
structure GetS (w wr : World) (q0 qr qq : Nat) (v : Value) (b ys : List UInt8) (bad : Bool) (s n : Int) (u : Value) (os : List O) : Prop where
  rf : Pw.Rf wr qr v b ys bad
  req : ReqV wr qq s n u
  ans : ReqV wr q0 0 0 (.slice none 0 0)
  own : wr.ownsRow w.heap.size 24 5 u os.length (os.flatMap oc)
  ur : u.ownBlock ≠ some qr
  uq : u.ownBlock ≠ some qq
  u0 : u.ownBlock ≠ some q0
  hr : w.heap.size ≤ qr
  hq : w.heap.size ≤ qq
  h0 : w.heap.size ≤ q0
  rq : qr ≠ qq
  r0 : qr ≠ q0
  q00 : qq ≠ q0
  vb : 0 < b.length → ∀ r, v.ownBlock = some r → r < w.heap.size
  below : Below w.heap.size w wr

/-- The Reader has read. -/
theorem GetS.read {w wr w' : World} {q0 qr qq : Nat} {v : Value} {b ys ys' : List UInt8} {bad bad' : Bool} {s n : Int} {u : Value} {os : List O} (h : GetS w wr q0 qr qq v b ys bad s n u os) (hr : Pw.Rf w' qr v b ys' bad') (hg : wr.grownBy w' (some qr)) : GetS w w' q0 qr qq v b ys' bad' s n u os :=
  ⟨hr, h.req.grown hg h.rq.symm, h.ans.grown hg h.r0.symm, h.own.kept hg (Or.inr h.ur), h.ur, h.uq, h.u0, h.hr, h.hq, h.h0, h.rq, h.r0, h.q00, h.vb, Below.reader h.below hg (Nat.le_refl _) h.hr⟩

/-- Another block was written, or new ones were made. -/
theorem GetS.other {w wr w' : World} {q0 qr qq r : Nat} {v : Value} {b ys : List UInt8} {bad : Bool} {s n : Int} {u : Value} {os : List O} (h : GetS w wr q0 qr qq v b ys bad s n u os) (hg : wr.grownBy w' (some r)) (h1 : w.heap.size ≤ r) (h2 : r ≠ qr) (h3 : r ≠ qq) (h4 : r ≠ q0) (h5 : u.ownBlock ≠ some r) : GetS w w' q0 qr qq v b ys bad s n u os :=
  ⟨h.rf.grown hg h2.symm (fun hb e => by have := h.vb hb r e; omega), h.req.grown hg h3.symm, h.ans.grown hg h4.symm, h.own.kept hg (Or.inr h5), h.ur, h.uq, h.u0, h.hr, h.hq, h.h0, h.rq, h.r0, h.q00, h.vb, Below.reader h.below hg (Nat.le_refl _) h1⟩
end Go.Proofs.YtcpajjjkhikipaaGreatDoor
