/-
  DERIVED. GIVEN WITH THE SEED: THE CARDS: each row of YtfcbdjjbchcpjaaGreatDoorRows.lean that lists a variable, with what it lists TIED to the program's text (the seventh form; the later family's looks); each row that meets fmt, with fmt's text TOLD by the authors' own Lean function (tested against real Go, not proved from fmt's source: count such statements apart). THE CARD IS WHAT COUNTS. Prove the row's statement (the work); the ties are given (YtfcbdjjbchcpjaaGreatDoorTie.lean); close each card by the builder's one call (the guide's Derived/Test/ToyasCard.lean, 'card_holds'). Laid BY PROGRAM, IN A SANDBOX (cutbox-door.mjs). By AI agents, Wed Nov 11 2026. No macro, syntax, notation, axiom, sorry.
-/
import Derived.Test.YtfcbdjjbchcpjaaGreatDoorRows
import GoSem.ClaimSeven
namespace Go.Proofs.YtfcbdjjbchcpjaaGreatDoor
namespace Rows

/-- THE TIED CARD OF 'aviarylaw11.TreeKnown'. -/
def treeKnownCard : Claim7 := { stood := { row := treeKnownRow, standIns := [], harness := (true, "fcd7c4ad778bf4b890d86b9b452f197e0cba438ec46cfce45253045498a291eb"), looks := false }, kinds := [], alts := [], laidByText := true, laidKinds := [.data, .data, .data, .data, .pinned], laidTests := true, laidLooks := .later }
def TreeKnownCardSaid : Prop := Claim7.holds Tryz.pinned (.plain (OpenSpec.ofChange treeKnownSpec)) treeKnownCard

/-- THE TIED CARD OF 'aviarylaw11.TreePlays'. -/
def treePlaysCard : Claim7 := { stood := { row := treePlaysRow, standIns := [], harness := (true, "fcd7c4ad778bf4b890d86b9b452f197e0cba438ec46cfce45253045498a291eb"), looks := false }, kinds := [], alts := [], laidByText := true, laidKinds := [.data, .data, .data, .data, .pinned], laidTests := true, laidLooks := .later }
def TreePlaysCardSaid : Prop := Claim7.holds Tryz.pinned (.plain (OpenSpec.ofChange treePlaysSpec)) treePlaysCard

/-- THE TIED CARD OF 'aviarylaw11.TreeSound'. -/
def treeSoundCard : Claim7 := { stood := { row := treeSoundRow, standIns := [], harness := (true, "fcd7c4ad778bf4b890d86b9b452f197e0cba438ec46cfce45253045498a291eb"), looks := false }, kinds := [], alts := [], laidByText := true, laidKinds := [.data, .data, .data, .data, .pinned], laidTests := true, laidLooks := .later }
def TreeSoundCardSaid : Prop := Claim7.holds Tryz.pinned (.plain (OpenSpec.ofChange treeSoundSpec)) treeSoundCard

/-- THE TIED CARD OF 'aviarylaw11.TreeKeeps'. -/
def treeKeepsCard : Claim7 := { stood := { row := treeKeepsRow, standIns := [], harness := (true, "fcd7c4ad778bf4b890d86b9b452f197e0cba438ec46cfce45253045498a291eb"), looks := false }, kinds := [], alts := [], laidByText := true, laidKinds := [.data, .data, .data, .data, .pinned], laidTests := true, laidLooks := .later }
def TreeKeepsCardSaid : Prop := Claim7.holds Tryz.pinned (.plain (OpenSpec.ofChange treeKeepsSpec)) treeKeepsCard

/-- THE TIED CARD OF 'aviarylaw11.TreeLoads'. -/
def treeLoadsCard : Claim7 := { stood := { row := treeLoadsRow, standIns := [], harness := (true, "fcd7c4ad778bf4b890d86b9b452f197e0cba438ec46cfce45253045498a291eb"), looks := false }, kinds := [], alts := [], laidByText := true, laidKinds := [.data, .data, .data, .data, .pinned], laidTests := true, laidLooks := .later }
def TreeLoadsCardSaid : Prop := Claim7.holds Tryz.pinned (.plain (OpenSpec.ofChange treeLoadsSpec)) treeLoadsCard

/-- THE TIED CARD OF 'aviarylaw11.TreeOwners'. -/
def treeOwnersCard : Claim7 := { stood := { row := treeOwnersRow, standIns := [], harness := (true, "fcd7c4ad778bf4b890d86b9b452f197e0cba438ec46cfce45253045498a291eb"), looks := false }, kinds := [], alts := [], laidByText := true, laidKinds := [.data, .data, .data, .data, .pinned], laidTests := true, laidLooks := .later }
def TreeOwnersCardSaid : Prop := Claim7.holds Tryz.pinned (.plain (OpenSpec.ofChange treeOwnersSpec)) treeOwnersCard

/-- THE TIED CARD OF 'aviarylaw12.MultiKnown'. -/
def multiKnownCard : Claim7 := { stood := { row := multiKnownRow, standIns := [], harness := (true, "fcd7c4ad778bf4b890d86b9b452f197e0cba438ec46cfce45253045498a291eb"), looks := false }, kinds := [], alts := [], laidByText := true, laidKinds := [.data, .data, .data, .data, .pinned], laidTests := true, laidLooks := .later }
def MultiKnownCardSaid : Prop := Claim7.holds Tryz.pinned (.plain (OpenSpec.ofChange multiKnownSpec)) multiKnownCard

/-- THE TIED CARD OF 'aviarylaw12.MultiPlays'. -/
def multiPlaysCard : Claim7 := { stood := { row := multiPlaysRow, standIns := [], harness := (true, "fcd7c4ad778bf4b890d86b9b452f197e0cba438ec46cfce45253045498a291eb"), looks := false }, kinds := [], alts := [], laidByText := true, laidKinds := [.data, .data, .data, .data, .pinned], laidTests := true, laidLooks := .later }
def MultiPlaysCardSaid : Prop := Claim7.holds Tryz.pinned (.plain (OpenSpec.ofChange multiPlaysSpec)) multiPlaysCard

/-- THE TIED CARD OF 'aviarylaw12.MultiNone'. -/
def multiNoneCard : Claim7 := { stood := { row := multiNoneRow, standIns := [], harness := (true, "fcd7c4ad778bf4b890d86b9b452f197e0cba438ec46cfce45253045498a291eb"), looks := false }, kinds := [], alts := [], laidByText := true, laidKinds := [.data, .data, .data, .data, .pinned], laidTests := true, laidLooks := .later }
def MultiNoneCardSaid : Prop := Claim7.holds Tryz.pinned (.plain (OpenSpec.ofChange multiNoneSpec)) multiNoneCard

/-- THE TIED CARD OF 'aviarylaw12.MultiSteps'. -/
def multiStepsCard : Claim7 := { stood := { row := multiStepsRow, standIns := [], harness := (true, "fcd7c4ad778bf4b890d86b9b452f197e0cba438ec46cfce45253045498a291eb"), looks := false }, kinds := [], alts := [], laidByText := true, laidKinds := [.data, .data, .data, .data, .pinned], laidTests := true, laidLooks := .later }
def MultiStepsCardSaid : Prop := Claim7.holds Tryz.pinned (.plain (OpenSpec.ofChange multiStepsSpec)) multiStepsCard

/-- THE TIED CARD OF 'aviarylaw12.MultiPurges'. -/
def multiPurgesCard : Claim7 := { stood := { row := multiPurgesRow, standIns := [], harness := (true, "fcd7c4ad778bf4b890d86b9b452f197e0cba438ec46cfce45253045498a291eb"), looks := false }, kinds := [], alts := [], laidByText := true, laidKinds := [.data, .data, .data, .data, .pinned], laidTests := true, laidLooks := .later }
def MultiPurgesCardSaid : Prop := Claim7.holds Tryz.pinned (.plain (OpenSpec.ofChange multiPurgesSpec)) multiPurgesCard

/-- THE TIED CARD OF 'aviarylaw12.MultiChecks'. -/
def multiChecksCard : Claim7 := { stood := { row := multiChecksRow, standIns := [], harness := (true, "fcd7c4ad778bf4b890d86b9b452f197e0cba438ec46cfce45253045498a291eb"), looks := false }, kinds := [], alts := [], laidByText := true, laidKinds := [.data, .data, .data, .data, .pinned], laidTests := true, laidLooks := .later }
def MultiChecksCardSaid : Prop := Claim7.holds Tryz.pinned (.plain (OpenSpec.ofChange multiChecksSpec)) multiChecksCard

/-- THE SECOND FORM's CARD OF 'aviarylaw11.TreeKnown'. -/
def treeKnownUptoCard : Claim7 := { stood := { row := treeKnownUptoRow, standIns := [], harness := (true, "fcd7c4ad778bf4b890d86b9b452f197e0cba438ec46cfce45253045498a291eb"), looks := false }, kinds := [], alts := [], laidByText := true, laidKinds := [.data, .data, .data, .data, .pinned], laidTests := true, laidLooks := .later }
def TreeKnownUptoCardSaid : Prop := Claim7.holds Tryz.pinned (.plain (OpenSpec.upto treeKnownSpec)) treeKnownUptoCard

/-- THE SECOND FORM's CARD OF 'aviarylaw11.TreePlays'. -/
def treePlaysUptoCard : Claim7 := { stood := { row := treePlaysUptoRow, standIns := [], harness := (true, "fcd7c4ad778bf4b890d86b9b452f197e0cba438ec46cfce45253045498a291eb"), looks := false }, kinds := [], alts := [], laidByText := true, laidKinds := [.data, .data, .data, .data, .pinned], laidTests := true, laidLooks := .later }
def TreePlaysUptoCardSaid : Prop := Claim7.holds Tryz.pinned (.plain (OpenSpec.upto treePlaysSpec)) treePlaysUptoCard

/-- THE SECOND FORM's CARD OF 'aviarylaw11.TreeSound'. -/
def treeSoundUptoCard : Claim7 := { stood := { row := treeSoundUptoRow, standIns := [], harness := (true, "fcd7c4ad778bf4b890d86b9b452f197e0cba438ec46cfce45253045498a291eb"), looks := false }, kinds := [], alts := [], laidByText := true, laidKinds := [.data, .data, .data, .data, .pinned], laidTests := true, laidLooks := .later }
def TreeSoundUptoCardSaid : Prop := Claim7.holds Tryz.pinned (.plain (OpenSpec.upto treeSoundSpec)) treeSoundUptoCard

/-- THE SECOND FORM's CARD OF 'aviarylaw11.TreeKeeps'. -/
def treeKeepsUptoCard : Claim7 := { stood := { row := treeKeepsUptoRow, standIns := [], harness := (true, "fcd7c4ad778bf4b890d86b9b452f197e0cba438ec46cfce45253045498a291eb"), looks := false }, kinds := [], alts := [], laidByText := true, laidKinds := [.data, .data, .data, .data, .pinned], laidTests := true, laidLooks := .later }
def TreeKeepsUptoCardSaid : Prop := Claim7.holds Tryz.pinned (.plain (OpenSpec.upto treeKeepsSpec)) treeKeepsUptoCard

/-- THE SECOND FORM's CARD OF 'aviarylaw11.TreeLoads'. -/
def treeLoadsUptoCard : Claim7 := { stood := { row := treeLoadsUptoRow, standIns := [], harness := (true, "fcd7c4ad778bf4b890d86b9b452f197e0cba438ec46cfce45253045498a291eb"), looks := false }, kinds := [], alts := [], laidByText := true, laidKinds := [.data, .data, .data, .data, .pinned], laidTests := true, laidLooks := .later }
def TreeLoadsUptoCardSaid : Prop := Claim7.holds Tryz.pinned (.plain (OpenSpec.upto treeLoadsSpec)) treeLoadsUptoCard

/-- THE SECOND FORM's CARD OF 'aviarylaw11.TreeOwners'. -/
def treeOwnersUptoCard : Claim7 := { stood := { row := treeOwnersUptoRow, standIns := [], harness := (true, "fcd7c4ad778bf4b890d86b9b452f197e0cba438ec46cfce45253045498a291eb"), looks := false }, kinds := [], alts := [], laidByText := true, laidKinds := [.data, .data, .data, .data, .pinned], laidTests := true, laidLooks := .later }
def TreeOwnersUptoCardSaid : Prop := Claim7.holds Tryz.pinned (.plain (OpenSpec.upto treeOwnersSpec)) treeOwnersUptoCard

/-- THE SECOND FORM's CARD OF 'aviarylaw12.MultiKnown'. -/
def multiKnownUptoCard : Claim7 := { stood := { row := multiKnownUptoRow, standIns := [], harness := (true, "fcd7c4ad778bf4b890d86b9b452f197e0cba438ec46cfce45253045498a291eb"), looks := false }, kinds := [], alts := [], laidByText := true, laidKinds := [.data, .data, .data, .data, .pinned], laidTests := true, laidLooks := .later }
def MultiKnownUptoCardSaid : Prop := Claim7.holds Tryz.pinned (.plain (OpenSpec.upto multiKnownSpec)) multiKnownUptoCard

/-- THE SECOND FORM's CARD OF 'aviarylaw12.MultiPlays'. -/
def multiPlaysUptoCard : Claim7 := { stood := { row := multiPlaysUptoRow, standIns := [], harness := (true, "fcd7c4ad778bf4b890d86b9b452f197e0cba438ec46cfce45253045498a291eb"), looks := false }, kinds := [], alts := [], laidByText := true, laidKinds := [.data, .data, .data, .data, .pinned], laidTests := true, laidLooks := .later }
def MultiPlaysUptoCardSaid : Prop := Claim7.holds Tryz.pinned (.plain (OpenSpec.upto multiPlaysSpec)) multiPlaysUptoCard

/-- THE SECOND FORM's CARD OF 'aviarylaw12.MultiNone'. -/
def multiNoneUptoCard : Claim7 := { stood := { row := multiNoneUptoRow, standIns := [], harness := (true, "fcd7c4ad778bf4b890d86b9b452f197e0cba438ec46cfce45253045498a291eb"), looks := false }, kinds := [], alts := [], laidByText := true, laidKinds := [.data, .data, .data, .data, .pinned], laidTests := true, laidLooks := .later }
def MultiNoneUptoCardSaid : Prop := Claim7.holds Tryz.pinned (.plain (OpenSpec.upto multiNoneSpec)) multiNoneUptoCard

/-- THE SECOND FORM's CARD OF 'aviarylaw12.MultiSteps'. -/
def multiStepsUptoCard : Claim7 := { stood := { row := multiStepsUptoRow, standIns := [], harness := (true, "fcd7c4ad778bf4b890d86b9b452f197e0cba438ec46cfce45253045498a291eb"), looks := false }, kinds := [], alts := [], laidByText := true, laidKinds := [.data, .data, .data, .data, .pinned], laidTests := true, laidLooks := .later }
def MultiStepsUptoCardSaid : Prop := Claim7.holds Tryz.pinned (.plain (OpenSpec.upto multiStepsSpec)) multiStepsUptoCard

/-- THE SECOND FORM's CARD OF 'aviarylaw12.MultiPurges'. -/
def multiPurgesUptoCard : Claim7 := { stood := { row := multiPurgesUptoRow, standIns := [], harness := (true, "fcd7c4ad778bf4b890d86b9b452f197e0cba438ec46cfce45253045498a291eb"), looks := false }, kinds := [], alts := [], laidByText := true, laidKinds := [.data, .data, .data, .data, .pinned], laidTests := true, laidLooks := .later }
def MultiPurgesUptoCardSaid : Prop := Claim7.holds Tryz.pinned (.plain (OpenSpec.upto multiPurgesSpec)) multiPurgesUptoCard

/-- THE SECOND FORM's CARD OF 'aviarylaw12.MultiChecks'. -/
def multiChecksUptoCard : Claim7 := { stood := { row := multiChecksUptoRow, standIns := [], harness := (true, "fcd7c4ad778bf4b890d86b9b452f197e0cba438ec46cfce45253045498a291eb"), looks := false }, kinds := [], alts := [], laidByText := true, laidKinds := [.data, .data, .data, .data, .pinned], laidTests := true, laidLooks := .later }
def MultiChecksUptoCardSaid : Prop := Claim7.holds Tryz.pinned (.plain (OpenSpec.upto multiChecksSpec)) multiChecksUptoCard
end Rows
end Go.Proofs.YtfcbdjjbchcpjaaGreatDoor
