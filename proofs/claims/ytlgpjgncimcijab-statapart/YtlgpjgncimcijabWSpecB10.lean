/- The landed stat's Put, Get and Same do what SpecB10 asks. -/
import Derived.Test.YtlgpjgncimcijabWPut10
import Derived.Test.YtlgpjgncimcijabWSame10
namespace Go.Proofs.Ytlgpjgncimcijab
open Go.RowKit

theorem specb_any10 : SpecB10 where
  put := put_any10
  same := same_any10
end Go.Proofs.Ytlgpjgncimcijab
