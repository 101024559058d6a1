/- What the statements' own rq answers. -/
import Derived.Test.YtcpajjjkhikipaaGreatDoorOps
namespace Go.Proofs.YtcpajjjkhikipaaGreatDoor
open Go.RowKit

theorem rq_any (s n : Int) (u : Value) (os : List O) (w : World) (hu : Ol w u os) :
    Calls Tryz.prog 17 #[.agg #[.int .i64 s, .int .i64 n, u]] w fun e w' => e = .returned (.agg #[.int .i64 s, .int .i64 n, u]) ∧ Below w.heap.size w w' := by
  obtain ⟨au, m, cu, rfl, hx⟩ := hu
  clear hx
  go_enter Tryz.func17, Tryz.ntmps17
  go_wp2
  refine bodyPost_ret (v := .agg #[.int .i64 s, .int .i64 n, .slice au m cu]) (by simp [results, Tryz.results17, go_sem]; try rfl) rfl ⟨rfl, ?_⟩
  exact ((Below.refl _ w).alloc (Nat.le_refl _) _).alloc (by simp) _

end Go.Proofs.YtcpajjjkhikipaaGreatDoor
