/-
  DERIVED. GIVEN WITH THE SEED: THE CARDS: each row of YtjejpkognjedpaaDoorRows.lean that lists a variable, with what it lists TIED to the program's text (the seventh form; the later family's looks); each row that meets fmt, with fmt's text TOLD by the authors' own Lean function (tested against real Go, not proved from fmt's source: count such statements apart). THE CARD IS WHAT COUNTS. Prove the row's statement (the work); the ties are given (YtjejpkognjedpaaDoorTie.lean); close each card by the builder's one call (the guide's Derived/Test/ToyasCard.lean, 'card_holds'). Laid BY PROGRAM, IN A SANDBOX (cutbox-door.mjs). By AI agents, Wed Nov 11 2026. No macro, syntax, notation, axiom, sorry.
-/
import Derived.Test.YtjejpkognjedpaaDoorRows
import GoSem.ClaimSeven
namespace Go.Proofs.YtjejpkognjedpaaDoor
namespace Rows

/-- THE TIED CARD OF 'aviarylaw13.WatchKnown'. -/
def watchKnownCard : Claim7 := { stood := { row := watchKnownRow, standIns := [], harness := (true, "10502d376f0d09e37526010ca9303498797f088951d4d39352852fe333bb7a79"), looks := false }, kinds := [], alts := [], laidByText := true, laidKinds := [.data, .pinned], laidTests := true, laidLooks := .later }
def WatchKnownCardSaid : Prop := Claim7.holds Tryd.pinned (.plain (OpenSpec.ofChange watchKnownSpec)) watchKnownCard

/-- THE TIED CARD OF 'aviarylaw13.WatchPlays'. -/
def watchPlaysCard : Claim7 := { stood := { row := watchPlaysRow, standIns := [], harness := (true, "10502d376f0d09e37526010ca9303498797f088951d4d39352852fe333bb7a79"), looks := false }, kinds := [], alts := [], laidByText := true, laidKinds := [.data, .pinned], laidTests := true, laidLooks := .later }
def WatchPlaysCardSaid : Prop := Claim7.holds Tryd.pinned (.plain (OpenSpec.ofChange watchPlaysSpec)) watchPlaysCard

/-- THE TIED CARD OF 'aviarylaw13.WatchOnce'. -/
def watchOnceCard : Claim7 := { stood := { row := watchOnceRow, standIns := [], harness := (true, "10502d376f0d09e37526010ca9303498797f088951d4d39352852fe333bb7a79"), looks := false }, kinds := [], alts := [], laidByText := true, laidKinds := [.data, .pinned], laidTests := true, laidLooks := .later }
def WatchOnceCardSaid : Prop := Claim7.holds Tryd.pinned (.plain (OpenSpec.ofChange watchOnceSpec)) watchOnceCard

/-- THE TIED CARD OF 'aviarylaw13.WatchOwn'. -/
def watchOwnCard : Claim7 := { stood := { row := watchOwnRow, standIns := [], harness := (true, "10502d376f0d09e37526010ca9303498797f088951d4d39352852fe333bb7a79"), looks := false }, kinds := [], alts := [], laidByText := true, laidKinds := [.data, .pinned], laidTests := true, laidLooks := .later }
def WatchOwnCardSaid : Prop := Claim7.holds Tryd.pinned (.plain (OpenSpec.ofChange watchOwnSpec)) watchOwnCard

/-- THE TIED CARD OF 'aviarylaw13.WatchKids'. -/
def watchKidsCard : Claim7 := { stood := { row := watchKidsRow, standIns := [], harness := (true, "10502d376f0d09e37526010ca9303498797f088951d4d39352852fe333bb7a79"), looks := false }, kinds := [], alts := [], laidByText := true, laidKinds := [.data, .pinned], laidTests := true, laidLooks := .later }
def WatchKidsCardSaid : Prop := Claim7.holds Tryd.pinned (.plain (OpenSpec.ofChange watchKidsSpec)) watchKidsCard

/-- THE SECOND FORM's CARD OF 'aviarylaw13.WatchKnown'. -/
def watchKnownUptoCard : Claim7 := { stood := { row := watchKnownUptoRow, standIns := [], harness := (true, "10502d376f0d09e37526010ca9303498797f088951d4d39352852fe333bb7a79"), looks := false }, kinds := [], alts := [], laidByText := true, laidKinds := [.data, .pinned], laidTests := true, laidLooks := .later }
def WatchKnownUptoCardSaid : Prop := Claim7.holds Tryd.pinned (.plain (OpenSpec.upto watchKnownSpec)) watchKnownUptoCard

/-- THE SECOND FORM's CARD OF 'aviarylaw13.WatchPlays'. -/
def watchPlaysUptoCard : Claim7 := { stood := { row := watchPlaysUptoRow, standIns := [], harness := (true, "10502d376f0d09e37526010ca9303498797f088951d4d39352852fe333bb7a79"), looks := false }, kinds := [], alts := [], laidByText := true, laidKinds := [.data, .pinned], laidTests := true, laidLooks := .later }
def WatchPlaysUptoCardSaid : Prop := Claim7.holds Tryd.pinned (.plain (OpenSpec.upto watchPlaysSpec)) watchPlaysUptoCard

/-- THE SECOND FORM's CARD OF 'aviarylaw13.WatchOnce'. -/
def watchOnceUptoCard : Claim7 := { stood := { row := watchOnceUptoRow, standIns := [], harness := (true, "10502d376f0d09e37526010ca9303498797f088951d4d39352852fe333bb7a79"), looks := false }, kinds := [], alts := [], laidByText := true, laidKinds := [.data, .pinned], laidTests := true, laidLooks := .later }
def WatchOnceUptoCardSaid : Prop := Claim7.holds Tryd.pinned (.plain (OpenSpec.upto watchOnceSpec)) watchOnceUptoCard

/-- THE SECOND FORM's CARD OF 'aviarylaw13.WatchOwn'. -/
def watchOwnUptoCard : Claim7 := { stood := { row := watchOwnUptoRow, standIns := [], harness := (true, "10502d376f0d09e37526010ca9303498797f088951d4d39352852fe333bb7a79"), looks := false }, kinds := [], alts := [], laidByText := true, laidKinds := [.data, .pinned], laidTests := true, laidLooks := .later }
def WatchOwnUptoCardSaid : Prop := Claim7.holds Tryd.pinned (.plain (OpenSpec.upto watchOwnSpec)) watchOwnUptoCard

/-- THE SECOND FORM's CARD OF 'aviarylaw13.WatchKids'. -/
def watchKidsUptoCard : Claim7 := { stood := { row := watchKidsUptoRow, standIns := [], harness := (true, "10502d376f0d09e37526010ca9303498797f088951d4d39352852fe333bb7a79"), looks := false }, kinds := [], alts := [], laidByText := true, laidKinds := [.data, .pinned], laidTests := true, laidLooks := .later }
def WatchKidsUptoCardSaid : Prop := Claim7.holds Tryd.pinned (.plain (OpenSpec.upto watchKidsSpec)) watchKidsUptoCard
end Rows
end Go.Proofs.YtjejpkognjedpaaDoor
