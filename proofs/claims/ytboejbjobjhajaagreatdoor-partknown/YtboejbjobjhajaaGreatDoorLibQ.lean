/- What the reference's IsName, Of and Join answer. What the reference's Cut answers at a slash. What the reference's Parts and Good answer. What the reference's Name, Top and Parent answer; and the program's and the reference's, for every text alike. What the reference's Same and Within answer. What the reference's Digits answers. What the reference's Number answers. -/
import Derived.Test.YtboejbjobjhajaaGreatDoorLibN
import Derived.Test.YtboejbjobjhajaaGreatDoorPln
import Derived.BigRegion
import Derived.Laws.BytesArg
import Derived.Deep.RegionWith
namespace Go.Proofs.YtboejbjobjhajaaGreatDoor.Pa
open Go.RowKit

end Go.Proofs.YtboejbjobjhajaaGreatDoor.Pa
namespace Go.Proofs.YtboejbjobjhajaaGreatDoor.Pa
open Go.RowKit

end Go.Proofs.YtboejbjobjhajaaGreatDoor.Pa
namespace Go.Proofs.YtboejbjobjhajaaGreatDoor.Pa
open Go.RowKit

end Go.Proofs.YtboejbjobjhajaaGreatDoor.Pa
namespace Go.Proofs.YtboejbjobjhajaaGreatDoor.Pa
open Go.RowKit

end Go.Proofs.YtboejbjobjhajaaGreatDoor.Pa
namespace Go.Proofs.YtboejbjobjhajaaGreatDoor.Pa
open Go.RowKit

end Go.Proofs.YtboejbjobjhajaaGreatDoor.Pa
namespace Go.Proofs.YtboejbjobjhajaaGreatDoor.Pa
open Go.RowKit

end Go.Proofs.YtboejbjobjhajaaGreatDoor.Pa
namespace Go.Proofs.YtboejbjobjhajaaGreatDoor.Pa
open Go.RowKit

end Go.Proofs.YtboejbjobjhajaaGreatDoor.Pa
