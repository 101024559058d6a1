/-
  DERIVED. GIVEN WITH THE SEED: THE CARDS: each row of YtfcbdjjbchcpjaaDoorRows.lean that lists a variable, with what it lists TIED to the program's text (the seventh form; the later family's looks); each row that meets fmt, with fmt's text TOLD by the authors' own Lean function (tested against real Go, not proved from fmt's source: count such statements apart). THE CARD IS WHAT COUNTS. Prove the row's statement (the work); the ties are given (YtfcbdjjbchcpjaaDoorTie.lean); close each card by the builder's one call (the guide's Derived/Test/ToyasCard.lean, 'card_holds'). Laid BY PROGRAM, IN A SANDBOX (cutbox-door.mjs). By AI agents, Wed Nov 11 2026. No macro, syntax, notation, axiom, sorry.
-/
import Derived.Test.YtfcbdjjbchcpjaaDoorRows
import GoSem.ClaimSeven
namespace Go.Proofs.YtfcbdjjbchcpjaaDoor
namespace Rows

/-- THE TIED CARD OF 'aviarylaw11.TreeNumbers'. -/
def treeNumbersCard : Claim7 := { stood := { row := treeNumbersRow, standIns := [], harness := (true, "20332592649f0808b619f765d272c65a6dde1761c95c5f37608e5533dd1994f5"), looks := false }, kinds := [], alts := [], laidByText := true, laidKinds := [.data, .data, .data, .data, .pinned], laidTests := true, laidLooks := .later }
def TreeNumbersCardSaid : Prop := Claim7.holds Tryd.pinned (.plain (OpenSpec.ofChange treeNumbersSpec)) treeNumbersCard

/-- THE TIED CARD OF 'aviarylaw11.TreeVersions'. -/
def treeVersionsCard : Claim7 := { stood := { row := treeVersionsRow, standIns := [], harness := (true, "20332592649f0808b619f765d272c65a6dde1761c95c5f37608e5533dd1994f5"), looks := false }, kinds := [], alts := [], laidByText := true, laidKinds := [.data, .data, .data, .data, .pinned], laidTests := true, laidLooks := .later }
def TreeVersionsCardSaid : Prop := Claim7.holds Tryd.pinned (.plain (OpenSpec.ofChange treeVersionsSpec)) treeVersionsCard

/-- THE TIED CARD OF 'aviarylaw11.TreeKids'. -/
def treeKidsCard : Claim7 := { stood := { row := treeKidsRow, standIns := [], harness := (true, "20332592649f0808b619f765d272c65a6dde1761c95c5f37608e5533dd1994f5"), looks := false }, kinds := [], alts := [], laidByText := true, laidKinds := [.data, .data, .data, .data, .pinned], laidTests := true, laidLooks := .later }
def TreeKidsCardSaid : Prop := Claim7.holds Tryd.pinned (.plain (OpenSpec.ofChange treeKidsSpec)) treeKidsCard

/-- THE TIED CARD OF 'aviarylaw12.MultiInOrder'. -/
def multiInOrderCard : Claim7 := { stood := { row := multiInOrderRow, standIns := [], harness := (true, "20332592649f0808b619f765d272c65a6dde1761c95c5f37608e5533dd1994f5"), looks := false }, kinds := [], alts := [], laidByText := true, laidKinds := [.data, .data, .data, .data, .pinned], laidTests := true, laidLooks := .later }
def MultiInOrderCardSaid : Prop := Claim7.holds Tryd.pinned (.plain (OpenSpec.ofChange multiInOrderSpec)) multiInOrderCard

/-- THE SECOND FORM's CARD OF 'aviarylaw11.TreeNumbers'. -/
def treeNumbersUptoCard : Claim7 := { stood := { row := treeNumbersUptoRow, standIns := [], harness := (true, "20332592649f0808b619f765d272c65a6dde1761c95c5f37608e5533dd1994f5"), looks := false }, kinds := [], alts := [], laidByText := true, laidKinds := [.data, .data, .data, .data, .pinned], laidTests := true, laidLooks := .later }
def TreeNumbersUptoCardSaid : Prop := Claim7.holds Tryd.pinned (.plain (OpenSpec.upto treeNumbersSpec)) treeNumbersUptoCard

/-- THE SECOND FORM's CARD OF 'aviarylaw11.TreeVersions'. -/
def treeVersionsUptoCard : Claim7 := { stood := { row := treeVersionsUptoRow, standIns := [], harness := (true, "20332592649f0808b619f765d272c65a6dde1761c95c5f37608e5533dd1994f5"), looks := false }, kinds := [], alts := [], laidByText := true, laidKinds := [.data, .data, .data, .data, .pinned], laidTests := true, laidLooks := .later }
def TreeVersionsUptoCardSaid : Prop := Claim7.holds Tryd.pinned (.plain (OpenSpec.upto treeVersionsSpec)) treeVersionsUptoCard

/-- THE SECOND FORM's CARD OF 'aviarylaw11.TreeKids'. -/
def treeKidsUptoCard : Claim7 := { stood := { row := treeKidsUptoRow, standIns := [], harness := (true, "20332592649f0808b619f765d272c65a6dde1761c95c5f37608e5533dd1994f5"), looks := false }, kinds := [], alts := [], laidByText := true, laidKinds := [.data, .data, .data, .data, .pinned], laidTests := true, laidLooks := .later }
def TreeKidsUptoCardSaid : Prop := Claim7.holds Tryd.pinned (.plain (OpenSpec.upto treeKidsSpec)) treeKidsUptoCard

/-- THE SECOND FORM's CARD OF 'aviarylaw12.MultiInOrder'. -/
def multiInOrderUptoCard : Claim7 := { stood := { row := multiInOrderUptoRow, standIns := [], harness := (true, "20332592649f0808b619f765d272c65a6dde1761c95c5f37608e5533dd1994f5"), looks := false }, kinds := [], alts := [], laidByText := true, laidKinds := [.data, .data, .data, .data, .pinned], laidTests := true, laidLooks := .later }
def MultiInOrderUptoCardSaid : Prop := Claim7.holds Tryd.pinned (.plain (OpenSpec.upto multiInOrderSpec)) multiInOrderUptoCard
end Rows
end Go.Proofs.YtfcbdjjbchcpjaaDoor
