/-
  DERIVED. GIVEN WITH THE SEED: THE CARDS: each row of YtfeaflbohfclmaaDoorRows.lean that lists a variable, with what it lists TIED to the program's text (the seventh form; the later family's looks); each row that meets fmt, with fmt's text TOLD by the authors' own Lean function (tested against real Go, not proved from fmt's source: count such statements apart). THE CARD IS WHAT COUNTS. Prove the row's statement (the work); the ties are given (YtfeaflbohfclmaaDoorTie.lean); close each card by the builder's one call (the guide's Derived/Test/ToyasCard.lean, 'card_holds'). Laid BY PROGRAM, IN A SANDBOX (cutbox-door.mjs). By AI agents, Wed Nov 11 2026. No macro, syntax, notation, axiom, sorry.
-/
import Derived.Test.YtfeaflbohfclmaaDoorRows
import GoSem.ClaimSeven
namespace Go.Proofs.YtfeaflbohfclmaaDoor
namespace Rows

/-- THE TIED CARD OF 'warehouselaw3.CivilDays'. -/
def civilDaysCard : Claim7 := { stood := { row := civilDaysRow, standIns := [], harness := (true, "b429a08b53d6dd639cc74e673f6da0f357a7cb3bbf4926bcbccf6b62ab96cd95"), looks := false }, kinds := [], alts := [], laidByText := true, laidKinds := [.data], laidTests := true, laidLooks := .later }
def CivilDaysCardSaid : Prop := Claim7.holds Tryd.pinned (.plain (OpenSpec.ofChange civilDaysSpec)) civilDaysCard

/-- THE TIED CARD OF 'warehouselaw3.CivilDates'. -/
def civilDatesCard : Claim7 := { stood := { row := civilDatesRow, standIns := [], harness := (true, "b429a08b53d6dd639cc74e673f6da0f357a7cb3bbf4926bcbccf6b62ab96cd95"), looks := false }, kinds := [], alts := [], laidByText := true, laidKinds := [.data], laidTests := true, laidLooks := .later }
def CivilDatesCardSaid : Prop := Claim7.holds Tryd.pinned (.plain (OpenSpec.ofChange civilDatesSpec)) civilDatesCard

/-- THE TIED CARD OF 'warehouselaw3.CivilWeeks'. -/
def civilWeeksCard : Claim7 := { stood := { row := civilWeeksRow, standIns := [], harness := (true, "b429a08b53d6dd639cc74e673f6da0f357a7cb3bbf4926bcbccf6b62ab96cd95"), looks := false }, kinds := [], alts := [], laidByText := true, laidKinds := [.data], laidTests := true, laidLooks := .later }
def CivilWeeksCardSaid : Prop := Claim7.holds Tryd.pinned (.plain (OpenSpec.ofChange civilWeeksSpec)) civilWeeksCard

/-- THE TIED CARD OF 'warehouselaw3.CivilMonths'. -/
def civilMonthsCard : Claim7 := { stood := { row := civilMonthsRow, standIns := [], harness := (true, "b429a08b53d6dd639cc74e673f6da0f357a7cb3bbf4926bcbccf6b62ab96cd95"), looks := false }, kinds := [], alts := [], laidByText := true, laidKinds := [.data], laidTests := true, laidLooks := .later }
def CivilMonthsCardSaid : Prop := Claim7.holds Tryd.pinned (.plain (OpenSpec.ofChange civilMonthsSpec)) civilMonthsCard

/-- THE TIED CARD OF 'warehouselaw3.CivilMoves'. -/
def civilMovesCard : Claim7 := { stood := { row := civilMovesRow, standIns := [], harness := (true, "b429a08b53d6dd639cc74e673f6da0f357a7cb3bbf4926bcbccf6b62ab96cd95"), looks := false }, kinds := [], alts := [], laidByText := true, laidKinds := [.data], laidTests := true, laidLooks := .later }
def CivilMovesCardSaid : Prop := Claim7.holds Tryd.pinned (.plain (OpenSpec.ofChange civilMovesSpec)) civilMovesCard

/-- THE TIED CARD OF 'warehouselaw3.CivilParses'. -/
def civilParsesCard : Claim7 := { stood := { row := civilParsesRow, standIns := [], harness := (true, "b429a08b53d6dd639cc74e673f6da0f357a7cb3bbf4926bcbccf6b62ab96cd95"), looks := false }, kinds := [], alts := [], laidByText := true, laidKinds := [.data], laidTests := true, laidLooks := .later }
def CivilParsesCardSaid : Prop := Claim7.holds Tryd.pinned (.plain (OpenSpec.ofChange civilParsesSpec)) civilParsesCard

/-- THE TIED CARD OF 'warehouselaw3.CivilFormats'. -/
def civilFormatsCard : Claim7 := { stood := { row := civilFormatsRow, standIns := [], harness := (true, "b429a08b53d6dd639cc74e673f6da0f357a7cb3bbf4926bcbccf6b62ab96cd95"), looks := false }, kinds := [], alts := [], laidByText := true, laidKinds := [.data], laidTests := true, laidLooks := .later }
def CivilFormatsCardSaid : Prop := Claim7.holds Tryd.pinned (.plain (OpenSpec.ofChange civilFormatsSpec)) civilFormatsCard

/-- THE SECOND FORM's CARD OF 'warehouselaw3.CivilDays'. -/
def civilDaysUptoCard : Claim7 := { stood := { row := civilDaysUptoRow, standIns := [], harness := (true, "b429a08b53d6dd639cc74e673f6da0f357a7cb3bbf4926bcbccf6b62ab96cd95"), looks := false }, kinds := [], alts := [], laidByText := true, laidKinds := [.data], laidTests := true, laidLooks := .later }
def CivilDaysUptoCardSaid : Prop := Claim7.holds Tryd.pinned (.plain (OpenSpec.upto civilDaysSpec)) civilDaysUptoCard

/-- THE SECOND FORM's CARD OF 'warehouselaw3.CivilDates'. -/
def civilDatesUptoCard : Claim7 := { stood := { row := civilDatesUptoRow, standIns := [], harness := (true, "b429a08b53d6dd639cc74e673f6da0f357a7cb3bbf4926bcbccf6b62ab96cd95"), looks := false }, kinds := [], alts := [], laidByText := true, laidKinds := [.data], laidTests := true, laidLooks := .later }
def CivilDatesUptoCardSaid : Prop := Claim7.holds Tryd.pinned (.plain (OpenSpec.upto civilDatesSpec)) civilDatesUptoCard

/-- THE SECOND FORM's CARD OF 'warehouselaw3.CivilWeeks'. -/
def civilWeeksUptoCard : Claim7 := { stood := { row := civilWeeksUptoRow, standIns := [], harness := (true, "b429a08b53d6dd639cc74e673f6da0f357a7cb3bbf4926bcbccf6b62ab96cd95"), looks := false }, kinds := [], alts := [], laidByText := true, laidKinds := [.data], laidTests := true, laidLooks := .later }
def CivilWeeksUptoCardSaid : Prop := Claim7.holds Tryd.pinned (.plain (OpenSpec.upto civilWeeksSpec)) civilWeeksUptoCard

/-- THE SECOND FORM's CARD OF 'warehouselaw3.CivilMonths'. -/
def civilMonthsUptoCard : Claim7 := { stood := { row := civilMonthsUptoRow, standIns := [], harness := (true, "b429a08b53d6dd639cc74e673f6da0f357a7cb3bbf4926bcbccf6b62ab96cd95"), looks := false }, kinds := [], alts := [], laidByText := true, laidKinds := [.data], laidTests := true, laidLooks := .later }
def CivilMonthsUptoCardSaid : Prop := Claim7.holds Tryd.pinned (.plain (OpenSpec.upto civilMonthsSpec)) civilMonthsUptoCard

/-- THE SECOND FORM's CARD OF 'warehouselaw3.CivilMoves'. -/
def civilMovesUptoCard : Claim7 := { stood := { row := civilMovesUptoRow, standIns := [], harness := (true, "b429a08b53d6dd639cc74e673f6da0f357a7cb3bbf4926bcbccf6b62ab96cd95"), looks := false }, kinds := [], alts := [], laidByText := true, laidKinds := [.data], laidTests := true, laidLooks := .later }
def CivilMovesUptoCardSaid : Prop := Claim7.holds Tryd.pinned (.plain (OpenSpec.upto civilMovesSpec)) civilMovesUptoCard

/-- THE SECOND FORM's CARD OF 'warehouselaw3.CivilParses'. -/
def civilParsesUptoCard : Claim7 := { stood := { row := civilParsesUptoRow, standIns := [], harness := (true, "b429a08b53d6dd639cc74e673f6da0f357a7cb3bbf4926bcbccf6b62ab96cd95"), looks := false }, kinds := [], alts := [], laidByText := true, laidKinds := [.data], laidTests := true, laidLooks := .later }
def CivilParsesUptoCardSaid : Prop := Claim7.holds Tryd.pinned (.plain (OpenSpec.upto civilParsesSpec)) civilParsesUptoCard

/-- THE SECOND FORM's CARD OF 'warehouselaw3.CivilFormats'. -/
def civilFormatsUptoCard : Claim7 := { stood := { row := civilFormatsUptoRow, standIns := [], harness := (true, "b429a08b53d6dd639cc74e673f6da0f357a7cb3bbf4926bcbccf6b62ab96cd95"), looks := false }, kinds := [], alts := [], laidByText := true, laidKinds := [.data], laidTests := true, laidLooks := .later }
def CivilFormatsUptoCardSaid : Prop := Claim7.holds Tryd.pinned (.plain (OpenSpec.upto civilFormatsSpec)) civilFormatsUptoCard
end Rows
end Go.Proofs.YtfeaflbohfclmaaDoor
