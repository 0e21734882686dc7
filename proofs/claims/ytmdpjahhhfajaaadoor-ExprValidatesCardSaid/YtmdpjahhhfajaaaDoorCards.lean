/-
  DERIVED. GIVEN WITH THE SEED: THE CARDS: each row of YtmdpjahhhfajaaaDoorRows.lean that lists a variable, with what it lists TIED to the program's text (the seventh form; the later family's looks); each row that meets fmt, with fmt's text TOLD by the authors' own Lean function (tested against real Go, not proved from fmt's source: count such statements apart). THE CARD IS WHAT COUNTS. Prove the row's statement (the work); the ties are given (YtmdpjahhhfajaaaDoorTie.lean); close each card by the builder's one call (the guide's Derived/Test/ToyasCard.lean, 'card_holds'). Laid BY PROGRAM, IN A SANDBOX (cutbox-door.mjs). By AI agents, Wed Nov 11 2026. No macro, syntax, notation, axiom, sorry.
-/
import Derived.Test.YtmdpjahhhfajaaaDoorRows
import GoSem.ClaimSeven
namespace Go.Proofs.YtmdpjahhhfajaaaDoor
namespace Rows

/-- THE TIED CARD OF 'warehouselaw8.ExprValidates'. -/
def exprValidatesCard : Claim7 := { stood := { row := exprValidatesRow, standIns := [], harness := (true, "758451c4bef42a791f16c83c0f8c5db725982334aca3f2c9ecfdb8e69b0f3b9d"), looks := false }, kinds := [], alts := [], laidByText := true, laidKinds := [.data], laidTests := true, laidLooks := .later }
def ExprValidatesCardSaid : Prop := Claim7.holds Tryd.pinned (.plain (OpenSpec.ofChange exprValidatesSpec)) exprValidatesCard

/-- THE TIED CARD OF 'warehouselaw8.ExprRenames'. -/
def exprRenamesCard : Claim7 := { stood := { row := exprRenamesRow, standIns := [], harness := (true, "758451c4bef42a791f16c83c0f8c5db725982334aca3f2c9ecfdb8e69b0f3b9d"), looks := false }, kinds := [], alts := [], laidByText := true, laidKinds := [.data], laidTests := true, laidLooks := .later }
def ExprRenamesCardSaid : Prop := Claim7.holds Tryd.pinned (.plain (OpenSpec.ofChange exprRenamesSpec)) exprRenamesCard

/-- THE SECOND FORM's CARD OF 'warehouselaw8.ExprValidates'. -/
def exprValidatesUptoCard : Claim7 := { stood := { row := exprValidatesUptoRow, standIns := [], harness := (true, "758451c4bef42a791f16c83c0f8c5db725982334aca3f2c9ecfdb8e69b0f3b9d"), looks := false }, kinds := [], alts := [], laidByText := true, laidKinds := [.data], laidTests := true, laidLooks := .later }
def ExprValidatesUptoCardSaid : Prop := Claim7.holds Tryd.pinned (.plain (OpenSpec.upto exprValidatesSpec)) exprValidatesUptoCard

/-- THE SECOND FORM's CARD OF 'warehouselaw8.ExprRenames'. -/
def exprRenamesUptoCard : Claim7 := { stood := { row := exprRenamesUptoRow, standIns := [], harness := (true, "758451c4bef42a791f16c83c0f8c5db725982334aca3f2c9ecfdb8e69b0f3b9d"), looks := false }, kinds := [], alts := [], laidByText := true, laidKinds := [.data], laidTests := true, laidLooks := .later }
def ExprRenamesUptoCardSaid : Prop := Claim7.holds Tryd.pinned (.plain (OpenSpec.upto exprRenamesSpec)) exprRenamesUptoCard
end Rows
end Go.Proofs.YtmdpjahhhfajaaaDoor
