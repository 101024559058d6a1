/- The landed stat's Put, Get and Same do what SpecB10 asks. -/
import Derived.Test.YtpidafpaffpnaaaGreatDoorWGet10
import Derived.Test.YtpidafpaffpnaaaGreatDoorWPut10
import Derived.Test.YtpidafpaffpnaaaGreatDoorWSame10
namespace Go.Proofs.YtpidafpaffpnaaaGreatDoor
open Go.RowKit

theorem specb_any10 : SpecB10 where
  put := put_any10
  get := fun B q ys bad w h _ => get_any10 B q ys bad w h
  same := same_any10
end Go.Proofs.YtpidafpaffpnaaaGreatDoor
