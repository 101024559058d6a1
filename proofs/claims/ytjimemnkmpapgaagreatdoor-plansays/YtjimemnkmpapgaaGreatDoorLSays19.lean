/- PlanSays' walk. -/
import Derived.Test.YtjimemnkmpapgaaGreatDoorLf19
import Derived.Test.YtjimemnkmpapgaaGreatDoorLSt19
namespace Go.Proofs.YtjimemnkmpapgaaGreatDoor
open Go.RowKit
theorem says_any19 (n : Int) (v : Value) (zs : List Int) (s m : Int) (u : Value) (os : List O) (v3 : Value) (vs : List Pn.V) (fit : Bool) (W : World) (hS : Pa.Std W) (hv : Bi W v zs) (hl : zs.length ≤ maxLen) (hu : Ol W u os) (hlo : os.length ≤ maxLen) (hfo : ∀ o ∈ os, Fit o) (hvs : KV.At W v3 vs) (hcv : ∃ a n m, v3 = .slice a n m ∧ n ≤ m) :
    Calls Tryz.prog 4 #[.int .i64 n, v, .agg #[.int .i64 s, .int .i64 m, u], v3, .bool fit] W fun e w' => e = .returned (.bool true) ∧ Below W.heap.size W w' := by
  cases fit with
  | false => exact says_f19 n v zs s m u os v3 vs W hS hv hl hu hlo hfo hvs hcv
  | true => exact says_t19 n v zs s m u os v3 vs W hS hv hl hu hlo hfo hvs hcv
end Go.Proofs.YtjimemnkmpapgaaGreatDoor
