/-
  DERIVED. GIVEN WITH THE SEED: THE CARDS: each row of YtadgjinlblloiaaDoorRows.lean that lists a variable, with what it lists TIED to the program's text (the seventh form; the later family's looks); each row that meets fmt, with fmt's text TOLD by the authors' own Lean function (tested against real Go, not proved from fmt's source: count such statements apart). THE CARD IS WHAT COUNTS. Prove the row's statement (the work); the ties are given (YtadgjinlblloiaaDoorTie.lean); close each card by the builder's one call (the guide's Derived/Test/ToyasCard.lean, 'card_holds'). Laid BY PROGRAM, IN A SANDBOX (cutbox-door.mjs). By AI agents, Wed Nov 11 2026. No macro, syntax, notation, axiom, sorry.
-/
import Derived.Test.YtadgjinlblloiaaDoorRows
import GoSem.ClaimSeven
namespace Go.Proofs.YtadgjinlblloiaaDoor
namespace Rows

/-- THE TIED CARD OF 'aviarylaw17.LockKnown'. -/
def lockKnownCard : Claim7 := { stood := { row := lockKnownRow, standIns := [], harness := (true, "308ab0091aea9466ce2e12849ba5039171b8e7121c44a791762a155c04ca8a92"), looks := false }, kinds := [], alts := [], laidByText := true, laidKinds := [.data, .pinned], laidTests := true, laidLooks := .later }
def LockKnownCardSaid : Prop := Claim7.holds Tryd.pinned (.plain (OpenSpec.ofChange lockKnownSpec)) lockKnownCard

/-- THE TIED CARD OF 'aviarylaw17.LockPlays'. -/
def lockPlaysCard : Claim7 := { stood := { row := lockPlaysRow, standIns := [], harness := (true, "308ab0091aea9466ce2e12849ba5039171b8e7121c44a791762a155c04ca8a92"), looks := false }, kinds := [], alts := [], laidByText := true, laidKinds := [.data, .pinned], laidTests := true, laidLooks := .later }
def LockPlaysCardSaid : Prop := Claim7.holds Tryd.pinned (.plain (OpenSpec.ofChange lockPlaysSpec)) lockPlaysCard

/-- THE TIED CARD OF 'aviarylaw17.LockApart'. -/
def lockApartCard : Claim7 := { stood := { row := lockApartRow, standIns := [], harness := (true, "308ab0091aea9466ce2e12849ba5039171b8e7121c44a791762a155c04ca8a92"), looks := false }, kinds := [], alts := [], laidByText := true, laidKinds := [.data, .pinned], laidTests := true, laidLooks := .later }
def LockApartCardSaid : Prop := Claim7.holds Tryd.pinned (.plain (OpenSpec.ofChange lockApartSpec)) lockApartCard

/-- THE TIED CARD OF 'aviarylaw17.LockFrees'. -/
def lockFreesCard : Claim7 := { stood := { row := lockFreesRow, standIns := [], harness := (true, "308ab0091aea9466ce2e12849ba5039171b8e7121c44a791762a155c04ca8a92"), looks := false }, kinds := [], alts := [], laidByText := true, laidKinds := [.data, .pinned], laidTests := true, laidLooks := .later }
def LockFreesCardSaid : Prop := Claim7.holds Tryd.pinned (.plain (OpenSpec.ofChange lockFreesSpec)) lockFreesCard

/-- THE TIED CARD OF 'aviarylaw17.LockFar'. -/
def lockFarCard : Claim7 := { stood := { row := lockFarRow, standIns := [], harness := (true, "308ab0091aea9466ce2e12849ba5039171b8e7121c44a791762a155c04ca8a92"), looks := false }, kinds := [], alts := [], laidByText := true, laidKinds := [.data, .pinned], laidTests := true, laidLooks := .later }
def LockFarCardSaid : Prop := Claim7.holds Tryd.pinned (.plain (OpenSpec.ofChange lockFarSpec)) lockFarCard

/-- THE SECOND FORM's CARD OF 'aviarylaw17.LockKnown'. -/
def lockKnownUptoCard : Claim7 := { stood := { row := lockKnownUptoRow, standIns := [], harness := (true, "308ab0091aea9466ce2e12849ba5039171b8e7121c44a791762a155c04ca8a92"), looks := false }, kinds := [], alts := [], laidByText := true, laidKinds := [.data, .pinned], laidTests := true, laidLooks := .later }
def LockKnownUptoCardSaid : Prop := Claim7.holds Tryd.pinned (.plain (OpenSpec.upto lockKnownSpec)) lockKnownUptoCard

/-- THE SECOND FORM's CARD OF 'aviarylaw17.LockPlays'. -/
def lockPlaysUptoCard : Claim7 := { stood := { row := lockPlaysUptoRow, standIns := [], harness := (true, "308ab0091aea9466ce2e12849ba5039171b8e7121c44a791762a155c04ca8a92"), looks := false }, kinds := [], alts := [], laidByText := true, laidKinds := [.data, .pinned], laidTests := true, laidLooks := .later }
def LockPlaysUptoCardSaid : Prop := Claim7.holds Tryd.pinned (.plain (OpenSpec.upto lockPlaysSpec)) lockPlaysUptoCard

/-- THE SECOND FORM's CARD OF 'aviarylaw17.LockApart'. -/
def lockApartUptoCard : Claim7 := { stood := { row := lockApartUptoRow, standIns := [], harness := (true, "308ab0091aea9466ce2e12849ba5039171b8e7121c44a791762a155c04ca8a92"), looks := false }, kinds := [], alts := [], laidByText := true, laidKinds := [.data, .pinned], laidTests := true, laidLooks := .later }
def LockApartUptoCardSaid : Prop := Claim7.holds Tryd.pinned (.plain (OpenSpec.upto lockApartSpec)) lockApartUptoCard

/-- THE SECOND FORM's CARD OF 'aviarylaw17.LockFrees'. -/
def lockFreesUptoCard : Claim7 := { stood := { row := lockFreesUptoRow, standIns := [], harness := (true, "308ab0091aea9466ce2e12849ba5039171b8e7121c44a791762a155c04ca8a92"), looks := false }, kinds := [], alts := [], laidByText := true, laidKinds := [.data, .pinned], laidTests := true, laidLooks := .later }
def LockFreesUptoCardSaid : Prop := Claim7.holds Tryd.pinned (.plain (OpenSpec.upto lockFreesSpec)) lockFreesUptoCard

/-- THE SECOND FORM's CARD OF 'aviarylaw17.LockFar'. -/
def lockFarUptoCard : Claim7 := { stood := { row := lockFarUptoRow, standIns := [], harness := (true, "308ab0091aea9466ce2e12849ba5039171b8e7121c44a791762a155c04ca8a92"), looks := false }, kinds := [], alts := [], laidByText := true, laidKinds := [.data, .pinned], laidTests := true, laidLooks := .later }
def LockFarUptoCardSaid : Prop := Claim7.holds Tryd.pinned (.plain (OpenSpec.upto lockFarSpec)) lockFarUptoCard
end Rows
end Go.Proofs.YtadgjinlblloiaaDoor
