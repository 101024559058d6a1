/- The landed stat's Put, Get and Same do what SpecB10 asks. -/
import Derived.Test.YtlgpjgncimcijaaWGet10
import Derived.Test.YtlgpjgncimcijaaWPut10
import Derived.Test.YtlgpjgncimcijaaWSame10
namespace Go.Proofs.Ytlgpjgncimcijaa
open Go.RowKit

theorem specb_any10 : SpecB10 where
  put := put_any10
  get := fun q ys bad w h _ => get_any10 q ys bad w h
  same := same_any10
end Go.Proofs.Ytlgpjgncimcijaa
