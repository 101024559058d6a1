/- What the rows' listed variables give the walks. -/
import Derived.Test.YtadgjinlblloiaaDoorCards
import Derived.Test.YtadgjinlblloiaaDoorTie
import Derived.Test.YtadgjinlblloiaaDoorLibN
import Derived.Test.YtadgjinlblloiaaDoorOpen
import Derived.WalkKit
import Derived.ProofKit
import Derived.OpenShut
import Derived.Deep.DeepHandedRow
import Derived.Lib.LaidTab
import Derived.LaidMore
import Derived.Lay
import Derived.SevenTiedAt
import Derived.Stop.Joined
namespace Go.Proofs.YtadgjinlblloiaaDoor.Pa
open Go.RowKit
open Go.ChangeShapes Go.WideShapes Go.ChangeAt

def lay5 : List (String × DataW Unit) := [("unicode/utf8.acceptRanges", Rows.laid_unicode_utf8_acceptRanges), ("unicode/utf8.first", Rows.laid_unicode_utf8_first)]

theorem std_of {W : World} (_h : laidMetH Tryd.prog lay5 W) (hsh : W.ShapedOpen Tryd.prog) : Std W := by
  refine ⟨?_, ?_⟩
  · exact Go.Proofs.cell_of_shapedOpen_int (zero := #[.int .i64 0]) (t := 3) hsh (of_decide_eq_true (by kernel_rfl)) (by kernel_rfl) rfl (by kernel_rfl) (by kernel_rfl) Tryd.underlying3
  · obtain ⟨cs, hh, _⟩ := hsh.1 2 (List.replicate 32 (Value.int .u8 0)).toArray 81 (of_decide_eq_true (by kernel_rfl)) (by kernel_rfl)
    have := (Array.getElem?_eq_some_iff.1 hh).1
    omega

end Go.Proofs.YtadgjinlblloiaaDoor.Pa
