import Derived.Test.YtboejbjobjhajaaGreatDoorRows
import Derived.Test.YtboejbjobjhajaaGreatDoorBas
import Derived.WalkKit
import Derived.ProofKit
import Derived.OpenShut
import Derived.SliceStrings
import Derived.Deep.Matrix
import Derived.Carry
namespace Go.Proofs.YtboejbjobjhajaaGreatDoor
open Go.ChangeShapes Go.WideShapes Go.ChangeAt Go.RowKit
theorem own : ownKnob Tryz.prog.godebug = none := by kernel_rfl
theorem laidOut : laidOutB Tryz.prog = true := by kernel_rfl
theorem cellsInt : Tryz.prog.cellsOf 3 = 1 := by kernel_rfl
theorem cellsString : Tryz.prog.cellsOf 9 = 1 := by kernel_rfl
end Go.Proofs.YtboejbjobjhajaaGreatDoor
