/-
  DERIVED. GIVEN WITH THE SEED: THE CARDS: each row of YtjimemnkmpapgaaGreatDoorRows.lean that lists a variable, with what it lists TIED to the program's text (the seventh form; the later family's looks); each row that meets fmt, with fmt's text TOLD by the authors' own Lean function (tested against real Go, not proved from fmt's source: count such statements apart). THE CARD IS WHAT COUNTS. Prove the row's statement (the work); the ties are given (YtjimemnkmpapgaaGreatDoorTie.lean); close each card by the builder's one call (the guide's Derived/Test/ToyasCard.lean, 'card_holds'). Laid BY PROGRAM, IN A SANDBOX (cutbox-door.mjs). By AI agents, Wed Nov 11 2026. No macro, syntax, notation, axiom, sorry.
-/
import Derived.Test.YtjimemnkmpapgaaGreatDoorRows
import GoSem.ClaimSeven
namespace Go.Proofs.YtjimemnkmpapgaaGreatDoor
namespace Rows

/-- THE TIED CARD OF 'aviarylaw19.PlanKnown'. -/
def planKnownCard : Claim7 := { stood := { row := planKnownRow, standIns := [], harness := (true, "1fddae9bc0cd7330eee2c763d9eefa3151fbe3adf17dbc51c16eb622ccdecebb"), looks := false }, kinds := [], alts := [], laidByText := true, laidKinds := [.data, .data, .data, .data, .pinned], laidTests := true, laidLooks := .later }
def PlanKnownCardSaid : Prop := Claim7.holds Tryz.pinned (.plain (OpenSpec.ofChange planKnownSpec)) planKnownCard

/-- THE TIED CARD OF 'aviarylaw19.PlanSays'. -/
def planSaysCard : Claim7 := { stood := { row := planSaysRow, standIns := [], harness := (true, "1fddae9bc0cd7330eee2c763d9eefa3151fbe3adf17dbc51c16eb622ccdecebb"), looks := false }, kinds := [], alts := [], laidByText := true, laidKinds := [.data, .data, .data, .data, .pinned], laidTests := true, laidLooks := .later }
def PlanSaysCardSaid : Prop := Claim7.holds Tryz.pinned (.plain (OpenSpec.ofChange planSaysSpec)) planSaysCard

/-- THE TIED CARD OF 'aviarylaw19.PlanWhole'. -/
def planWholeCard : Claim7 := { stood := { row := planWholeRow, standIns := [], harness := (true, "1fddae9bc0cd7330eee2c763d9eefa3151fbe3adf17dbc51c16eb622ccdecebb"), looks := false }, kinds := [], alts := [], laidByText := true, laidKinds := [.data, .data, .data, .data, .pinned], laidTests := true, laidLooks := .later }
def PlanWholeCardSaid : Prop := Claim7.holds Tryz.pinned (.plain (OpenSpec.ofChange planWholeSpec)) planWholeCard

/-- THE TIED CARD OF 'aviarylaw19.PlanModel'. -/
def planModelCard : Claim7 := { stood := { row := planModelRow, standIns := [], harness := (true, "1fddae9bc0cd7330eee2c763d9eefa3151fbe3adf17dbc51c16eb622ccdecebb"), looks := false }, kinds := [], alts := [], laidByText := true, laidKinds := [.data, .data, .data, .data, .pinned], laidTests := true, laidLooks := .later }
def PlanModelCardSaid : Prop := Claim7.holds Tryz.pinned (.plain (OpenSpec.ofChange planModelSpec)) planModelCard

/-- THE TIED CARD OF 'aviarylaw19.PlanOne'. -/
def planOneCard : Claim7 := { stood := { row := planOneRow, standIns := [], harness := (true, "1fddae9bc0cd7330eee2c763d9eefa3151fbe3adf17dbc51c16eb622ccdecebb"), looks := false }, kinds := [], alts := [], laidByText := true, laidKinds := [.data, .data, .data, .data, .pinned], laidTests := true, laidLooks := .later }
def PlanOneCardSaid : Prop := Claim7.holds Tryz.pinned (.plain (OpenSpec.ofChange planOneSpec)) planOneCard

/-- THE SECOND FORM's CARD OF 'aviarylaw19.PlanKnown'. -/
def planKnownUptoCard : Claim7 := { stood := { row := planKnownUptoRow, standIns := [], harness := (true, "1fddae9bc0cd7330eee2c763d9eefa3151fbe3adf17dbc51c16eb622ccdecebb"), looks := false }, kinds := [], alts := [], laidByText := true, laidKinds := [.data, .data, .data, .data, .pinned], laidTests := true, laidLooks := .later }
def PlanKnownUptoCardSaid : Prop := Claim7.holds Tryz.pinned (.plain (OpenSpec.upto planKnownSpec)) planKnownUptoCard

/-- THE SECOND FORM's CARD OF 'aviarylaw19.PlanSays'. -/
def planSaysUptoCard : Claim7 := { stood := { row := planSaysUptoRow, standIns := [], harness := (true, "1fddae9bc0cd7330eee2c763d9eefa3151fbe3adf17dbc51c16eb622ccdecebb"), looks := false }, kinds := [], alts := [], laidByText := true, laidKinds := [.data, .data, .data, .data, .pinned], laidTests := true, laidLooks := .later }
def PlanSaysUptoCardSaid : Prop := Claim7.holds Tryz.pinned (.plain (OpenSpec.upto planSaysSpec)) planSaysUptoCard

/-- THE SECOND FORM's CARD OF 'aviarylaw19.PlanWhole'. -/
def planWholeUptoCard : Claim7 := { stood := { row := planWholeUptoRow, standIns := [], harness := (true, "1fddae9bc0cd7330eee2c763d9eefa3151fbe3adf17dbc51c16eb622ccdecebb"), looks := false }, kinds := [], alts := [], laidByText := true, laidKinds := [.data, .data, .data, .data, .pinned], laidTests := true, laidLooks := .later }
def PlanWholeUptoCardSaid : Prop := Claim7.holds Tryz.pinned (.plain (OpenSpec.upto planWholeSpec)) planWholeUptoCard

/-- THE SECOND FORM's CARD OF 'aviarylaw19.PlanModel'. -/
def planModelUptoCard : Claim7 := { stood := { row := planModelUptoRow, standIns := [], harness := (true, "1fddae9bc0cd7330eee2c763d9eefa3151fbe3adf17dbc51c16eb622ccdecebb"), looks := false }, kinds := [], alts := [], laidByText := true, laidKinds := [.data, .data, .data, .data, .pinned], laidTests := true, laidLooks := .later }
def PlanModelUptoCardSaid : Prop := Claim7.holds Tryz.pinned (.plain (OpenSpec.upto planModelSpec)) planModelUptoCard

/-- THE SECOND FORM's CARD OF 'aviarylaw19.PlanOne'. -/
def planOneUptoCard : Claim7 := { stood := { row := planOneUptoRow, standIns := [], harness := (true, "1fddae9bc0cd7330eee2c763d9eefa3151fbe3adf17dbc51c16eb622ccdecebb"), looks := false }, kinds := [], alts := [], laidByText := true, laidKinds := [.data, .data, .data, .data, .pinned], laidTests := true, laidLooks := .later }
def PlanOneUptoCardSaid : Prop := Claim7.holds Tryz.pinned (.plain (OpenSpec.upto planOneSpec)) planOneUptoCard
end Rows
end Go.Proofs.YtjimemnkmpapgaaGreatDoor
