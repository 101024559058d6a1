/- What op's calls were asked to answer, the landed ones do. -/
import Derived.Test.YtcpajjjkhikipaaDoorWGet5
namespace Go.Proofs.YtcpajjjkhikipaaDoor

theorem specs_any : Specs := ⟨good_spec, may_spec, writes_spec, put_spec, get_spec, same_spec⟩
end Go.Proofs.YtcpajjjkhikipaaDoor
