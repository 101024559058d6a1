/- The landed node does what Specs10 asks. -/
import Derived.Test.YtlgpjgncimcijabWAdd10
namespace Go.Proofs.Ytlgpjgncimcijab
open Go.RowKit

theorem specs_any10 : Specs10 where
  new := new_any10
  write := write_any10
  add := add_any10
  remove := fun q n v s w h hf _ => remove_any10 q n v s w h hf
  eph := eph_any10
end Go.Proofs.Ytlgpjgncimcijab
