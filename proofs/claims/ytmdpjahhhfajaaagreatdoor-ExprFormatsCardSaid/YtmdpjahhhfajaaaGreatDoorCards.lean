/-
  DERIVED. GIVEN WITH THE SEED: THE CARDS: each row of YtmdpjahhhfajaaaGreatDoorRows.lean that lists a variable, with what it lists TIED to the program's text (the seventh form; the later family's looks); each row that meets fmt, with fmt's text TOLD by the authors' own Lean function (tested against real Go, not proved from fmt's source: count such statements apart). THE CARD IS WHAT COUNTS. Prove the row's statement (the work); the ties are given (YtmdpjahhhfajaaaGreatDoorTie.lean); close each card by the builder's one call (the guide's Derived/Test/ToyasCard.lean, 'card_holds'). Laid BY PROGRAM, IN A SANDBOX (cutbox-door.mjs). By AI agents, Wed Nov 11 2026. No macro, syntax, notation, axiom, sorry.
-/
import Derived.Test.YtmdpjahhhfajaaaGreatDoorRows
import GoSem.ClaimSeven
namespace Go.Proofs.YtmdpjahhhfajaaaGreatDoor
namespace Rows

/-- THE TIED CARD OF 'warehouselaw8.ExprParses'. -/
def exprParsesCard : Claim7 := { stood := { row := exprParsesRow, standIns := [], harness := (true, "aee2afa879f94208902783779fa18fdc04c4eedae20963e7b4a2970aafd267e0"), looks := true }, kinds := [], alts := [], laidByText := true, laidKinds := [.data, .data, .data, .data, .data, .sentinel, .sentinel, .data, .data, .pinned], laidTests := true, laidLooks := .later }
def ExprParsesCardSaid : Prop := Claim7.holds Tryz.pinned (.plain (OpenSpec.ofChange exprParsesSpec)) exprParsesCard

/-- THE TIED CARD OF 'warehouselaw8.ExprReads'. -/
def exprReadsCard : Claim7 := { stood := { row := exprReadsRow, standIns := [], harness := (true, "aee2afa879f94208902783779fa18fdc04c4eedae20963e7b4a2970aafd267e0"), looks := true }, kinds := [], alts := [], laidByText := true, laidKinds := [.data, .data, .data, .data, .data, .sentinel, .sentinel, .data, .data, .pinned], laidTests := true, laidLooks := .later }
def ExprReadsCardSaid : Prop := Claim7.holds Tryz.pinned (.plain (OpenSpec.ofChange exprReadsSpec)) exprReadsCard

/-- THE TIED CARD OF 'warehouselaw8.ExprParsesAt'. -/
def exprParsesAtCard : Claim7 := { stood := { row := exprParsesAtRow, standIns := [], harness := (true, "aee2afa879f94208902783779fa18fdc04c4eedae20963e7b4a2970aafd267e0"), looks := true }, kinds := [], alts := [], laidByText := true, laidKinds := [.data, .data, .data, .data, .data, .sentinel, .sentinel, .data, .data, .pinned], laidTests := true, laidLooks := .later }
def ExprParsesAtCardSaid : Prop := Claim7.holds Tryz.pinned (.plain (OpenSpec.ofChange exprParsesAtSpec)) exprParsesAtCard

/-- THE TIED CARD OF 'warehouselaw8.ExprFormats'. -/
def exprFormatsCard : Claim7 := { stood := { row := exprFormatsRow, standIns := [], harness := (true, "aee2afa879f94208902783779fa18fdc04c4eedae20963e7b4a2970aafd267e0"), looks := true }, kinds := [], alts := [], laidByText := true, laidKinds := [.data, .data, .data, .data, .data, .sentinel, .sentinel, .data, .data, .pinned], laidTests := true, laidLooks := .later }
def ExprFormatsCardSaid : Prop := Claim7.holds Tryz.pinned (.plain (OpenSpec.ofChange exprFormatsSpec)) exprFormatsCard

/-- THE TIED CARD OF 'warehouselaw8.ExprRoundTrips'. -/
def exprRoundTripsCard : Claim7 := { stood := { row := exprRoundTripsRow, standIns := [], harness := (true, "aee2afa879f94208902783779fa18fdc04c4eedae20963e7b4a2970aafd267e0"), looks := true }, kinds := [], alts := [], laidByText := true, laidKinds := [.data, .data, .data, .data, .data, .sentinel, .sentinel, .data, .data, .pinned], laidTests := true, laidLooks := .later }
def ExprRoundTripsCardSaid : Prop := Claim7.holds Tryz.pinned (.plain (OpenSpec.ofChange exprRoundTripsSpec)) exprRoundTripsCard

/-- THE SECOND FORM's CARD OF 'warehouselaw8.ExprParses'. -/
def exprParsesUptoCard : Claim7 := { stood := { row := exprParsesUptoRow, standIns := [], harness := (true, "aee2afa879f94208902783779fa18fdc04c4eedae20963e7b4a2970aafd267e0"), looks := true }, kinds := [], alts := [], laidByText := true, laidKinds := [.data, .data, .data, .data, .data, .sentinel, .sentinel, .data, .data, .pinned], laidTests := true, laidLooks := .later }
def ExprParsesUptoCardSaid : Prop := Claim7.holds Tryz.pinned (.plain (OpenSpec.upto exprParsesSpec)) exprParsesUptoCard

/-- THE SECOND FORM's CARD OF 'warehouselaw8.ExprReads'. -/
def exprReadsUptoCard : Claim7 := { stood := { row := exprReadsUptoRow, standIns := [], harness := (true, "aee2afa879f94208902783779fa18fdc04c4eedae20963e7b4a2970aafd267e0"), looks := true }, kinds := [], alts := [], laidByText := true, laidKinds := [.data, .data, .data, .data, .data, .sentinel, .sentinel, .data, .data, .pinned], laidTests := true, laidLooks := .later }
def ExprReadsUptoCardSaid : Prop := Claim7.holds Tryz.pinned (.plain (OpenSpec.upto exprReadsSpec)) exprReadsUptoCard

/-- THE SECOND FORM's CARD OF 'warehouselaw8.ExprParsesAt'. -/
def exprParsesAtUptoCard : Claim7 := { stood := { row := exprParsesAtUptoRow, standIns := [], harness := (true, "aee2afa879f94208902783779fa18fdc04c4eedae20963e7b4a2970aafd267e0"), looks := true }, kinds := [], alts := [], laidByText := true, laidKinds := [.data, .data, .data, .data, .data, .sentinel, .sentinel, .data, .data, .pinned], laidTests := true, laidLooks := .later }
def ExprParsesAtUptoCardSaid : Prop := Claim7.holds Tryz.pinned (.plain (OpenSpec.upto exprParsesAtSpec)) exprParsesAtUptoCard

/-- THE SECOND FORM's CARD OF 'warehouselaw8.ExprFormats'. -/
def exprFormatsUptoCard : Claim7 := { stood := { row := exprFormatsUptoRow, standIns := [], harness := (true, "aee2afa879f94208902783779fa18fdc04c4eedae20963e7b4a2970aafd267e0"), looks := true }, kinds := [], alts := [], laidByText := true, laidKinds := [.data, .data, .data, .data, .data, .sentinel, .sentinel, .data, .data, .pinned], laidTests := true, laidLooks := .later }
def ExprFormatsUptoCardSaid : Prop := Claim7.holds Tryz.pinned (.plain (OpenSpec.upto exprFormatsSpec)) exprFormatsUptoCard

/-- THE SECOND FORM's CARD OF 'warehouselaw8.ExprRoundTrips'. -/
def exprRoundTripsUptoCard : Claim7 := { stood := { row := exprRoundTripsUptoRow, standIns := [], harness := (true, "aee2afa879f94208902783779fa18fdc04c4eedae20963e7b4a2970aafd267e0"), looks := true }, kinds := [], alts := [], laidByText := true, laidKinds := [.data, .data, .data, .data, .data, .sentinel, .sentinel, .data, .data, .pinned], laidTests := true, laidLooks := .later }
def ExprRoundTripsUptoCardSaid : Prop := Claim7.holds Tryz.pinned (.plain (OpenSpec.upto exprRoundTripsSpec)) exprRoundTripsUptoCard
end Rows
end Go.Proofs.YtmdpjahhhfajaaaGreatDoor
