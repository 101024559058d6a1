/- The contracts of reply's calls hold of the landed code. -/
import Derived.Test.YtebmcjhhoionbaaWGet6
import Derived.Test.YtebmcjhhoionbaaWSame6
import Derived.Test.YtebmcjhhoionbaaWFail6
namespace Go.Proofs.Ytebmcjhhoionbaa

theorem specs_any6 : Specs6 := ⟨put_spec6, get_spec6, alike_spec, same_spec6, fail_spec⟩
end Go.Proofs.Ytebmcjhhoionbaa
