/- What stat's calls on bytes are asked to answer (to be proved of the landed code). -/
import Derived.Test.YtlgpjgncimcijabSpecs10
import Derived.Test.YtlgpjgncimcijabPlainB10
import Derived.Test.YtlgpjgncimcijabLibW
namespace Go.Proofs.Ytlgpjgncimcijab
open Go.RowKit


structure SpecB10 : Prop where
  put : ∀ (n : Kq.Kn) (v : Value) (w : World), Ss w v n.names → n.names.length ≤ 1000 → (∀ s ∈ n.names, s.size ≤ 150) → n.data.size ≤ 2000 →
    Calls Try.prog 8 #[kv n v] w fun e w' => ∃ u, e = .returned u ∧ Bs w' u (Kq.bytes n) ∧ (∀ k, u.ownBlock = some k → w.heap.size ≤ k) ∧ Below w.heap.size w w'
  same : ∀ (a b : Kq.Kn) (u v : Value) (w : World), Ss w u a.names → Ss w v b.names → a.names.length ≤ 1000 → b.names.length ≤ 1000 →
    Calls Try.prog 7 #[kv a u, kv b v] w (BoolP (a = b) w)
end Go.Proofs.Ytlgpjgncimcijab
