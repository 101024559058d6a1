/- The landed tree's Do answers names in blocks of its own. -/
import Derived.Test.YtfcbdjjbchcpjaaGreatDoorRes12
import Derived.Test.YtfcbdjjbchcpjaaGreatDoorWSpecs11
namespace Go.Proofs.YtfcbdjjbchcpjaaGreatDoor
open Go.RowKit
theorem specd_any12 : SpecD12 LTk where
  doo := fun q t F o s z w h hf h6 hS ho => by
    obtain ⟨m, D, P, V, h⟩ := h
    refine (do_any11 o s z h hf h6 hS ho).mono ?_
    rintro e w' ⟨F', u, rfl, h1, h2, h3, h4, h5⟩
    exact ⟨F', u, rfl, h1, h2, h5, h3, h4⟩
theorem OFit.of {o : O} (hk : -9223372036854775808 ≤ o.kind ∧ o.kind ≤ 9223372036854775807) (hp : o.path.size ≤ maxLen) (hd : o.data.size ≤ maxLen) (hv : -9223372036854775808 ≤ o.ver ∧ o.ver ≤ 9223372036854775807) (hf : -9223372036854775808 ≤ o.flags ∧ o.flags ≤ 9223372036854775807) : OFit o := ⟨hk, hp, hd, hv, hf⟩
end Go.Proofs.YtfcbdjjbchcpjaaGreatDoor
