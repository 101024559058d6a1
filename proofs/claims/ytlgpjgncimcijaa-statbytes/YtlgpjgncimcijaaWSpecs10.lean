/- The landed node does what Specs10 asks. -/
import Derived.Test.YtlgpjgncimcijaaWAdd10
namespace Go.Proofs.Ytlgpjgncimcijaa
open Go.RowKit

theorem specs_any10 : Specs10 where
  new := new_any10
  write := write_any10
  add := add_any10
  remove := fun q n v s w h hf _ => remove_any10 q n v s w h hf
  eph := eph_any10
end Go.Proofs.Ytlgpjgncimcijaa
