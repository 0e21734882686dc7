/-
  DERIVED. GIVEN WITH THE SEED: THE CARDS: each row of YtloccocengegnaaDoorRows.lean that lists a variable, with what it lists TIED to the program's text (the seventh form; the later family's looks); each row that meets fmt, with fmt's text TOLD by the authors' own Lean function (tested against real Go, not proved from fmt's source: count such statements apart). THE CARD IS WHAT COUNTS. Prove the row's statement (the work); the ties are given (YtloccocengegnaaDoorTie.lean); close each card by the builder's one call (the guide's Derived/Test/ToyasCard.lean, 'card_holds'). Laid BY PROGRAM, IN A SANDBOX (cutbox-door.mjs). By AI agents, Wed Nov 11 2026. No macro, syntax, notation, axiom, sorry.
-/
import Derived.Test.YtloccocengegnaaDoorRows
import GoSem.ClaimSeven
namespace Go.Proofs.YtloccocengegnaaDoor
namespace Rows

/-- THE TIED CARD OF 'warehouselaw7.TokenReserves'. -/
def tokenReservesCard : Claim7 := { stood := { row := tokenReservesRow, standIns := [], harness := (true, "333005c1fc44afc288df9932eb49aec167d781fb979b8fc23ab80a9b8e47f92d"), looks := true }, kinds := [], alts := [], laidByText := true, laidKinds := [.data, .data, .data, .data, .data, .sentinel, .sentinel, .pinned], laidTests := true, laidLooks := .later }
def TokenReservesCardSaid : Prop := Claim7.holds Tryd.pinned (.plain (OpenSpec.ofChange tokenReservesSpec)) tokenReservesCard

/-- THE TIED CARD OF 'warehouselaw7.TokenValidates'. -/
def tokenValidatesCard : Claim7 := { stood := { row := tokenValidatesRow, standIns := [], harness := (true, "333005c1fc44afc288df9932eb49aec167d781fb979b8fc23ab80a9b8e47f92d"), looks := true }, kinds := [], alts := [], laidByText := true, laidKinds := [.data, .data, .data, .data, .data, .sentinel, .sentinel, .pinned], laidTests := true, laidLooks := .later }
def TokenValidatesCardSaid : Prop := Claim7.holds Tryd.pinned (.plain (OpenSpec.ofChange tokenValidatesSpec)) tokenValidatesCard

/-- THE TIED CARD OF 'warehouselaw7.TokenRoundTrips'. -/
def tokenRoundTripsCard : Claim7 := { stood := { row := tokenRoundTripsRow, standIns := [], harness := (true, "333005c1fc44afc288df9932eb49aec167d781fb979b8fc23ab80a9b8e47f92d"), looks := true }, kinds := [], alts := [], laidByText := true, laidKinds := [.data, .data, .data, .data, .data, .sentinel, .sentinel, .pinned], laidTests := true, laidLooks := .later }
def TokenRoundTripsCardSaid : Prop := Claim7.holds Tryd.pinned (.plain (OpenSpec.ofChange tokenRoundTripsSpec)) tokenRoundTripsCard

/-- THE SECOND FORM's CARD OF 'warehouselaw7.TokenReserves'. -/
def tokenReservesUptoCard : Claim7 := { stood := { row := tokenReservesUptoRow, standIns := [], harness := (true, "333005c1fc44afc288df9932eb49aec167d781fb979b8fc23ab80a9b8e47f92d"), looks := true }, kinds := [], alts := [], laidByText := true, laidKinds := [.data, .data, .data, .data, .data, .sentinel, .sentinel, .pinned], laidTests := true, laidLooks := .later }
def TokenReservesUptoCardSaid : Prop := Claim7.holds Tryd.pinned (.plain (OpenSpec.upto tokenReservesSpec)) tokenReservesUptoCard

/-- THE SECOND FORM's CARD OF 'warehouselaw7.TokenValidates'. -/
def tokenValidatesUptoCard : Claim7 := { stood := { row := tokenValidatesUptoRow, standIns := [], harness := (true, "333005c1fc44afc288df9932eb49aec167d781fb979b8fc23ab80a9b8e47f92d"), looks := true }, kinds := [], alts := [], laidByText := true, laidKinds := [.data, .data, .data, .data, .data, .sentinel, .sentinel, .pinned], laidTests := true, laidLooks := .later }
def TokenValidatesUptoCardSaid : Prop := Claim7.holds Tryd.pinned (.plain (OpenSpec.upto tokenValidatesSpec)) tokenValidatesUptoCard

/-- THE SECOND FORM's CARD OF 'warehouselaw7.TokenRoundTrips'. -/
def tokenRoundTripsUptoCard : Claim7 := { stood := { row := tokenRoundTripsUptoRow, standIns := [], harness := (true, "333005c1fc44afc288df9932eb49aec167d781fb979b8fc23ab80a9b8e47f92d"), looks := true }, kinds := [], alts := [], laidByText := true, laidKinds := [.data, .data, .data, .data, .data, .sentinel, .sentinel, .pinned], laidTests := true, laidLooks := .later }
def TokenRoundTripsUptoCardSaid : Prop := Claim7.holds Tryd.pinned (.plain (OpenSpec.upto tokenRoundTripsSpec)) tokenRoundTripsUptoCard
end Rows
end Go.Proofs.YtloccocengegnaaDoor
