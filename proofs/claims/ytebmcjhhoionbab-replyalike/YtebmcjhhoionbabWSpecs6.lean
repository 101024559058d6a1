/- The contracts of reply's calls hold of the landed code. -/
import Derived.Test.YtebmcjhhoionbabWGet6
import Derived.Test.YtebmcjhhoionbabWSame6
import Derived.Test.YtebmcjhhoionbabWFail6
namespace Go.Proofs.Ytebmcjhhoionbab

theorem specs_any6 : Specs6 := ⟨put_spec6, get_spec6, alike_spec, same_spec6, fail_spec⟩
end Go.Proofs.Ytebmcjhhoionbab
