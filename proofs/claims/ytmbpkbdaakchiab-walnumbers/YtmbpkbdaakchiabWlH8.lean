/- What the landed log answers to CutTo: its walk. -/
import Derived.Test.YtmbpkbdaakchiabWlG8
namespace Go.Proofs.Ytmbpkbdaakchiab
open Go.RowKit

end Go.Proofs.Ytmbpkbdaakchiab
