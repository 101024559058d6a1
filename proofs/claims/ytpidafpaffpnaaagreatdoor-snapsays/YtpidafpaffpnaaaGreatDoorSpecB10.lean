/- What stat's calls on bytes are asked to answer (to be proved of the landed code). -/
import Derived.Test.YtpidafpaffpnaaaGreatDoorPln
import Derived.Test.YtpidafpaffpnaaaGreatDoorLibW
namespace Go.Proofs.YtpidafpaffpnaaaGreatDoor
open Go.RowKit

/-- What Get leaves: the reader's block, and new ones. -/
def GetPost10 (B : Nat) (w : World) (q : Nat) (ys : List UInt8) (bad : Bool) (e : Ending) (w' : World) : Prop :=
  (Kq.Good ys bad → ∃ v, e = .returned (.tuple #[kv (Kq.raw ys bad).1 v, .bool true]) ∧ w'.ownsRow w.heap.size 9 1 v (Kq.raw ys bad).1.names.length (sc (Kq.raw ys bad).1.names) ∧ Pw.Rd B w' q (Kq.raw ys bad).2.1 false) ∧
  (¬ Kq.Good ys bad → ∃ a c, e = .returned (.tuple #[kv Kq.zero (.slice a 0 c), .bool false])) ∧ w.grownBy w' (some q)

structure SpecB10 : Prop where
  put : ∀ (n : Kq.Kn) (v : Value) (w : World), Ss w v n.names → n.names.length ≤ 1000 → (∀ s ∈ n.names, s.size ≤ 150) → n.data.size ≤ 2000 →
    Calls Tryz.prog 87 #[kv n v] w fun e w' => ∃ u, e = .returned u ∧ Bs w' u (Kq.bytes n) ∧ (∀ k, u.ownBlock = some k → w.heap.size ≤ k) ∧ Below w.heap.size w w'
  get : ∀ (B q : Nat) (ys : List UInt8) (bad : Bool) (w : World), Pw.Rd B w q ys bad → ys.length ≤ 200000 →
    Calls Tryz.prog 140 #[dptr q] w (GetPost10 B w q ys bad)
  same : ∀ (a b : Kq.Kn) (u v : Value) (w : World), Ss w u a.names → Ss w v b.names → a.names.length ≤ 1000 → b.names.length ≤ 1000 →
    Calls Tryz.prog 89 #[kv a u, kv b v] w (BoolP (a = b) w)
end Go.Proofs.YtpidafpaffpnaaaGreatDoor
