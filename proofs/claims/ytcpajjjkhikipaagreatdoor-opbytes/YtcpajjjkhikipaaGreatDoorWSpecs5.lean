/- What op's calls were asked to answer, the landed ones do. -/
import Derived.Test.YtcpajjjkhikipaaGreatDoorWGet5
namespace Go.Proofs.YtcpajjjkhikipaaGreatDoor

theorem specs_any : Specs := ⟨good_spec, may_spec, writes_spec, put_spec, get_spec, same_spec⟩
end Go.Proofs.YtcpajjjkhikipaaGreatDoor
