/- What slices.Delete of rows does at the end of a list. -/
import Derived.Test.YtmbpkbdaakchiabWlF8
import Derived.Test.YtmbpkbdaakchiabHeld2
import Derived.Lib.OwnBridge
namespace Go.Proofs.Ytmbpkbdaakchiab
open Go.RowKit

end Go.Proofs.Ytmbpkbdaakchiab
