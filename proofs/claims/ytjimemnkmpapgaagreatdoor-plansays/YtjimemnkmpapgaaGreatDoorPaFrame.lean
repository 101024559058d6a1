/- What the rows' listed variables give the walks. -/
import Derived.Test.YtjimemnkmpapgaaGreatDoorCards
import Derived.Test.YtjimemnkmpapgaaGreatDoorTie
import Derived.Test.YtjimemnkmpapgaaGreatDoorLibN
import Derived.Test.YtjimemnkmpapgaaGreatDoorOpen
import Derived.WalkKit
import Derived.ProofKit
import Derived.OpenShut
import Derived.Deep.DeepHandedRow
import Derived.Lib.LaidTab
import Derived.LaidMore
import Derived.Lay
import Derived.SevenTiedAt
import Derived.Stop.Joined
namespace Go.Proofs.YtjimemnkmpapgaaGreatDoor.Pa
open Go.RowKit
open Go.ChangeShapes Go.WideShapes Go.ChangeAt

theorem gTabType : (Tryz.prog.globals[3]?).map (·.type) = some 201 := by kernel_rfl

theorem cellsTab : Tryz.prog.cellsOf 201 = 20 := by kernel_rfl

theorem cellsU64 : Tryz.prog.cellsOf 146 = 1 := by kernel_rfl

theorem underTab : Tryz.prog.underlying 201 = some (.array 20 146) := by kernel_rfl

theorem underU64 : Tryz.prog.underlying 146 = some (.int .u64) := by kernel_rfl

def lay5 : List (String × DataW Unit) := [("math/bits.deBruijn32tab", Rows.laid_math_bits_deBruijn32tab), ("math/bits.deBruijn64tab", Rows.laid_math_bits_deBruijn64tab), ("internal/strconv.uint64pow10", Rows.laid_internal_strconv_uint64pow10), ("unicode/utf8.acceptRanges", Rows.laid_unicode_utf8_acceptRanges), ("unicode/utf8.first", Rows.laid_unicode_utf8_first)]

theorem std_of {W : World} (h : laidMetH Tryz.prog lay5 W) (hsh : W.ShapedOpen Tryz.prog) : Std W := by
  rw [MakeChecks.laidMetH_plain _ _ _ (by kernel_rfl)] at h
  obtain ⟨ps, ⟨g0, t0, cs0, f0, p0, q0, hg0, ht0, hv0, hd0, ⟨g1, t1, cs1, f1, p1, q1, hg1, ht1, hv1, hd1, ⟨g2, t2, cs2, f2, p2, q2, hg2, ht2, hv2, hd2, _, _⟩, _⟩, _⟩, _, _⟩ := h
  obtain rfl := Option.some.inj (gTab.symm.trans hg2)
  obtain rfl := Option.some.inj (gTabType.symm.trans ht2)
  refine ⟨?_, ?_, ?_⟩
  · exact Go.Proofs.cell_of_shapedOpen_int (zero := #[.int .i64 0]) (t := 3) hsh (of_decide_eq_true (by kernel_rfl)) (by kernel_rfl) rfl (by kernel_rfl) (by kernel_rfl) Tryz.underlying3
  · obtain ⟨cs, hh, _⟩ := hsh.1 5 (List.replicate 64 (Value.int .u8 0)).toArray 204 (of_decide_eq_true (by kernel_rfl)) (by kernel_rfl)
    have := (Array.getElem?_eq_some_iff.1 hh).1
    omega
  · have hd : Rows.laid_internal_strconv_uint64pow10 = (Lib.tabData .u64 Lib.pow10Tab : DataW Unit) := by kernel_rfl
    rw [hd] at hd2
    show W.var? Tryz.prog "internal/strconv.uint64pow10" = _
    rw [hv2, ← Lib.cells_of_tab underTab underU64 cellsU64 cellsTab hd2]

end Go.Proofs.YtjimemnkmpapgaaGreatDoor.Pa
