/-
  DERIVED. GIVEN WITH THE SEED: THE CARDS: each row of YtpidafpaffpnaaaGreatDoorRows.lean that lists a variable, with what it lists TIED to the program's text (the seventh form; the later family's looks); each row that meets fmt, with fmt's text TOLD by the authors' own Lean function (tested against real Go, not proved from fmt's source: count such statements apart). THE CARD IS WHAT COUNTS. Prove the row's statement (the work); the ties are given (YtpidafpaffpnaaaGreatDoorTie.lean); close each card by the builder's one call (the guide's Derived/Test/ToyasCard.lean, 'card_holds'). Laid BY PROGRAM, IN A SANDBOX (cutbox-door.mjs). By AI agents, Wed Nov 11 2026. No macro, syntax, notation, axiom, sorry.
-/
import Derived.Test.YtpidafpaffpnaaaGreatDoorRows
import GoSem.ClaimSeven
namespace Go.Proofs.YtpidafpaffpnaaaGreatDoor
namespace Rows

/-- THE TIED CARD OF 'aviarylaw11.TreePlays'. -/
def treePlaysCard : Claim7 := { stood := { row := treePlaysRow, standIns := [], harness := (true, "fc2a0836efe1d67aab43f64bf3afee6b2878a0be7c0a3df1aa32545d2fbc7095"), looks := false }, kinds := [], alts := [], laidByText := true, laidKinds := [.data, .data, .data, .data, .pinned], laidTests := true, laidLooks := .later }
def TreePlaysCardSaid : Prop := Claim7.holds Tryz.pinned (.plain (OpenSpec.ofChange treePlaysSpec)) treePlaysCard

/-- THE TIED CARD OF 'aviarylaw12.MultiPlays'. -/
def multiPlaysCard : Claim7 := { stood := { row := multiPlaysRow, standIns := [], harness := (true, "fc2a0836efe1d67aab43f64bf3afee6b2878a0be7c0a3df1aa32545d2fbc7095"), looks := false }, kinds := [], alts := [], laidByText := true, laidKinds := [.data, .data, .data, .data, .pinned], laidTests := true, laidLooks := .later }
def MultiPlaysCardSaid : Prop := Claim7.holds Tryz.pinned (.plain (OpenSpec.ofChange multiPlaysSpec)) multiPlaysCard

/-- THE TIED CARD OF 'aviarylaw14.SnapApart'. -/
def snapApartCard : Claim7 := { stood := { row := snapApartRow, standIns := [], harness := (true, "fc2a0836efe1d67aab43f64bf3afee6b2878a0be7c0a3df1aa32545d2fbc7095"), looks := false }, kinds := [], alts := [], laidByText := true, laidKinds := [.data, .data, .data, .data, .pinned], laidTests := true, laidLooks := .later }
def SnapApartCardSaid : Prop := Claim7.holds Tryz.pinned (.plain (OpenSpec.ofChange snapApartSpec)) snapApartCard

/-- THE TIED CARD OF 'aviarylaw14.SnapBack'. -/
def snapBackCard : Claim7 := { stood := { row := snapBackRow, standIns := [], harness := (true, "fc2a0836efe1d67aab43f64bf3afee6b2878a0be7c0a3df1aa32545d2fbc7095"), looks := false }, kinds := [], alts := [], laidByText := true, laidKinds := [.data, .data, .data, .data, .pinned], laidTests := true, laidLooks := .later }
def SnapBackCardSaid : Prop := Claim7.holds Tryz.pinned (.plain (OpenSpec.ofChange snapBackSpec)) snapBackCard

/-- THE TIED CARD OF 'aviarylaw14.SnapKnown'. -/
def snapKnownCard : Claim7 := { stood := { row := snapKnownRow, standIns := [], harness := (true, "fc2a0836efe1d67aab43f64bf3afee6b2878a0be7c0a3df1aa32545d2fbc7095"), looks := false }, kinds := [], alts := [], laidByText := true, laidKinds := [.data, .data, .data, .data, .pinned], laidTests := true, laidLooks := .later }
def SnapKnownCardSaid : Prop := Claim7.holds Tryz.pinned (.plain (OpenSpec.ofChange snapKnownSpec)) snapKnownCard

/-- THE TIED CARD OF 'aviarylaw14.SnapRoom'. -/
def snapRoomCard : Claim7 := { stood := { row := snapRoomRow, standIns := [], harness := (true, "fc2a0836efe1d67aab43f64bf3afee6b2878a0be7c0a3df1aa32545d2fbc7095"), looks := false }, kinds := [], alts := [], laidByText := true, laidKinds := [.data, .data, .data, .data, .pinned], laidTests := true, laidLooks := .later }
def SnapRoomCardSaid : Prop := Claim7.holds Tryz.pinned (.plain (OpenSpec.ofChange snapRoomSpec)) snapRoomCard

/-- THE TIED CARD OF 'aviarylaw14.SnapSays'. -/
def snapSaysCard : Claim7 := { stood := { row := snapSaysRow, standIns := [], harness := (true, "fc2a0836efe1d67aab43f64bf3afee6b2878a0be7c0a3df1aa32545d2fbc7095"), looks := false }, kinds := [], alts := [], laidByText := true, laidKinds := [.data, .data, .data, .data, .pinned], laidTests := true, laidLooks := .later }
def SnapSaysCardSaid : Prop := Claim7.holds Tryz.pinned (.plain (OpenSpec.ofChange snapSaysSpec)) snapSaysCard

/-- THE SECOND FORM's CARD OF 'aviarylaw11.TreePlays'. -/
def treePlaysUptoCard : Claim7 := { stood := { row := treePlaysUptoRow, standIns := [], harness := (true, "fc2a0836efe1d67aab43f64bf3afee6b2878a0be7c0a3df1aa32545d2fbc7095"), looks := false }, kinds := [], alts := [], laidByText := true, laidKinds := [.data, .data, .data, .data, .pinned], laidTests := true, laidLooks := .later }
def TreePlaysUptoCardSaid : Prop := Claim7.holds Tryz.pinned (.plain (OpenSpec.upto treePlaysSpec)) treePlaysUptoCard

/-- THE SECOND FORM's CARD OF 'aviarylaw12.MultiPlays'. -/
def multiPlaysUptoCard : Claim7 := { stood := { row := multiPlaysUptoRow, standIns := [], harness := (true, "fc2a0836efe1d67aab43f64bf3afee6b2878a0be7c0a3df1aa32545d2fbc7095"), looks := false }, kinds := [], alts := [], laidByText := true, laidKinds := [.data, .data, .data, .data, .pinned], laidTests := true, laidLooks := .later }
def MultiPlaysUptoCardSaid : Prop := Claim7.holds Tryz.pinned (.plain (OpenSpec.upto multiPlaysSpec)) multiPlaysUptoCard

/-- THE SECOND FORM's CARD OF 'aviarylaw14.SnapApart'. -/
def snapApartUptoCard : Claim7 := { stood := { row := snapApartUptoRow, standIns := [], harness := (true, "fc2a0836efe1d67aab43f64bf3afee6b2878a0be7c0a3df1aa32545d2fbc7095"), looks := false }, kinds := [], alts := [], laidByText := true, laidKinds := [.data, .data, .data, .data, .pinned], laidTests := true, laidLooks := .later }
def SnapApartUptoCardSaid : Prop := Claim7.holds Tryz.pinned (.plain (OpenSpec.upto snapApartSpec)) snapApartUptoCard

/-- THE SECOND FORM's CARD OF 'aviarylaw14.SnapBack'. -/
def snapBackUptoCard : Claim7 := { stood := { row := snapBackUptoRow, standIns := [], harness := (true, "fc2a0836efe1d67aab43f64bf3afee6b2878a0be7c0a3df1aa32545d2fbc7095"), looks := false }, kinds := [], alts := [], laidByText := true, laidKinds := [.data, .data, .data, .data, .pinned], laidTests := true, laidLooks := .later }
def SnapBackUptoCardSaid : Prop := Claim7.holds Tryz.pinned (.plain (OpenSpec.upto snapBackSpec)) snapBackUptoCard

/-- THE SECOND FORM's CARD OF 'aviarylaw14.SnapKnown'. -/
def snapKnownUptoCard : Claim7 := { stood := { row := snapKnownUptoRow, standIns := [], harness := (true, "fc2a0836efe1d67aab43f64bf3afee6b2878a0be7c0a3df1aa32545d2fbc7095"), looks := false }, kinds := [], alts := [], laidByText := true, laidKinds := [.data, .data, .data, .data, .pinned], laidTests := true, laidLooks := .later }
def SnapKnownUptoCardSaid : Prop := Claim7.holds Tryz.pinned (.plain (OpenSpec.upto snapKnownSpec)) snapKnownUptoCard

/-- THE SECOND FORM's CARD OF 'aviarylaw14.SnapRoom'. -/
def snapRoomUptoCard : Claim7 := { stood := { row := snapRoomUptoRow, standIns := [], harness := (true, "fc2a0836efe1d67aab43f64bf3afee6b2878a0be7c0a3df1aa32545d2fbc7095"), looks := false }, kinds := [], alts := [], laidByText := true, laidKinds := [.data, .data, .data, .data, .pinned], laidTests := true, laidLooks := .later }
def SnapRoomUptoCardSaid : Prop := Claim7.holds Tryz.pinned (.plain (OpenSpec.upto snapRoomSpec)) snapRoomUptoCard

/-- THE SECOND FORM's CARD OF 'aviarylaw14.SnapSays'. -/
def snapSaysUptoCard : Claim7 := { stood := { row := snapSaysUptoRow, standIns := [], harness := (true, "fc2a0836efe1d67aab43f64bf3afee6b2878a0be7c0a3df1aa32545d2fbc7095"), looks := false }, kinds := [], alts := [], laidByText := true, laidKinds := [.data, .data, .data, .data, .pinned], laidTests := true, laidLooks := .later }
def SnapSaysUptoCardSaid : Prop := Claim7.holds Tryz.pinned (.plain (OpenSpec.upto snapSaysSpec)) snapSaysUptoCard
end Rows
end Go.Proofs.YtpidafpaffpnaaaGreatDoor
