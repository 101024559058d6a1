import Derived.Test.YtboejbjobjhajaaGreatDoorSpecs11
import Derived.Test.YtboejbjobjhajaaGreatDoorPln
import Derived.Test.YtboejbjobjhajaaGreatDoorWnd
namespace Go.Proofs.YtboejbjobjhajaaGreatDoor.Tq
def pA : ByteArray := ⟨#[47, 97]⟩
end Go.Proofs.YtboejbjobjhajaaGreatDoor.Tq
namespace Go.Proofs.YtboejbjobjhajaaGreatDoor
open Go.RowKit
section
variable {LT : Rep11} {W w : World}
end
theorem fit_mk {p : ByteArray} {f : Int} (hp : p.size ≤ maxLen) (hf : -9223372036854775808 ≤ f ∧ f ≤ 9223372036854775807) : OFit (Tq.mk p f) := ⟨by simp [Tq.mk], hp, by simp [Tq.mk, maxLen, ByteArray.size], by simp [Tq.mk], hf⟩
end Go.Proofs.YtboejbjobjhajaaGreatDoor
namespace Go.Proofs.YtboejbjobjhajaaGreatDoor
open Go.RowKit
end Go.Proofs.YtboejbjobjhajaaGreatDoor
