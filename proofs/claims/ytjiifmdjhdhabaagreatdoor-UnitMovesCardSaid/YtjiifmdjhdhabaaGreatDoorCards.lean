/-
  DERIVED. GIVEN WITH THE SEED: THE CARDS: each row of YtjiifmdjhdhabaaGreatDoorRows.lean that lists a variable, with what it lists TIED to the program's text (the seventh form; the later family's looks); each row that meets fmt, with fmt's text TOLD by the authors' own Lean function (tested against real Go, not proved from fmt's source: count such statements apart). THE CARD IS WHAT COUNTS. Prove the row's statement (the work); the ties are given (YtjiifmdjhdhabaaGreatDoorTie.lean); close each card by the builder's one call (the guide's Derived/Test/ToyasCard.lean, 'card_holds'). Laid BY PROGRAM, IN A SANDBOX (cutbox-door.mjs). By AI agents, Wed Nov 11 2026. No macro, syntax, notation, axiom, sorry.
-/
import Derived.Test.YtjiifmdjhdhabaaGreatDoorRows
import GoSem.ClaimSeven
namespace Go.Proofs.YtjiifmdjhdhabaaGreatDoor
namespace Rows

/-- THE TIED CARD OF 'quarterdaylaw16.UnitDoes'. -/
def unitDoesCard : Claim7 := { stood := { row := unitDoesRow, standIns := [], harness := (true, "27bb306f7c1c9e5da5a853b6fb5d780daaa13127f1b06ec82e1dcef4eb1a2260"), looks := false }, kinds := [], alts := [], laidByText := true, laidKinds := [.data, .widerDeep, .widerDeep, .widerDeep, .widerDeep, .widerDeep], laidTests := true, laidLooks := .later }
def UnitDoesCardSaid : Prop := Claim7.holds Tryz.pinned (.plain (OpenSpec.ofChange unitDoesSpec)) unitDoesCard

/-- THE TIED CARD OF 'quarterdaylaw16.UnitMoves'. -/
def unitMovesCard : Claim7 := { stood := { row := unitMovesRow, standIns := [], harness := (true, "27bb306f7c1c9e5da5a853b6fb5d780daaa13127f1b06ec82e1dcef4eb1a2260"), looks := false }, kinds := [], alts := [], laidByText := true, laidKinds := [.data, .widerDeep, .widerDeep, .widerDeep, .widerDeep, .widerDeep], laidTests := true, laidLooks := .later }
def UnitMovesCardSaid : Prop := Claim7.holds Tryz.pinned (.plain (OpenSpec.ofChange unitMovesSpec)) unitMovesCard

/-- THE TIED CARD OF 'quarterdaylaw19.CompWeeks'. -/
def compWeeksCard : Claim7 := { stood := { row := compWeeksRow, standIns := [], harness := (true, "27bb306f7c1c9e5da5a853b6fb5d780daaa13127f1b06ec82e1dcef4eb1a2260"), looks := false }, kinds := [], alts := [], laidByText := true, laidKinds := [.data, .widerDeep, .widerDeep, .widerDeep, .widerDeep, .widerDeep], laidTests := true, laidLooks := .later }
def CompWeeksCardSaid : Prop := Claim7.holds Tryz.pinned (.plain (OpenSpec.ofChange compWeeksSpec)) compWeeksCard

/-- THE SECOND FORM's CARD OF 'quarterdaylaw16.UnitDoes'. -/
def unitDoesUptoCard : Claim7 := { stood := { row := unitDoesUptoRow, standIns := [], harness := (true, "27bb306f7c1c9e5da5a853b6fb5d780daaa13127f1b06ec82e1dcef4eb1a2260"), looks := false }, kinds := [], alts := [], laidByText := true, laidKinds := [.data, .widerDeep, .widerDeep, .widerDeep, .widerDeep, .widerDeep], laidTests := true, laidLooks := .later }
def UnitDoesUptoCardSaid : Prop := Claim7.holds Tryz.pinned (.plain (OpenSpec.upto unitDoesSpec)) unitDoesUptoCard

/-- THE SECOND FORM's CARD OF 'quarterdaylaw16.UnitMoves'. -/
def unitMovesUptoCard : Claim7 := { stood := { row := unitMovesUptoRow, standIns := [], harness := (true, "27bb306f7c1c9e5da5a853b6fb5d780daaa13127f1b06ec82e1dcef4eb1a2260"), looks := false }, kinds := [], alts := [], laidByText := true, laidKinds := [.data, .widerDeep, .widerDeep, .widerDeep, .widerDeep, .widerDeep], laidTests := true, laidLooks := .later }
def UnitMovesUptoCardSaid : Prop := Claim7.holds Tryz.pinned (.plain (OpenSpec.upto unitMovesSpec)) unitMovesUptoCard

/-- THE SECOND FORM's CARD OF 'quarterdaylaw19.CompWeeks'. -/
def compWeeksUptoCard : Claim7 := { stood := { row := compWeeksUptoRow, standIns := [], harness := (true, "27bb306f7c1c9e5da5a853b6fb5d780daaa13127f1b06ec82e1dcef4eb1a2260"), looks := false }, kinds := [], alts := [], laidByText := true, laidKinds := [.data, .widerDeep, .widerDeep, .widerDeep, .widerDeep, .widerDeep], laidTests := true, laidLooks := .later }
def CompWeeksUptoCardSaid : Prop := Claim7.holds Tryz.pinned (.plain (OpenSpec.upto compWeeksSpec)) compWeeksUptoCard
end Rows
end Go.Proofs.YtjiifmdjhdhabaaGreatDoor
