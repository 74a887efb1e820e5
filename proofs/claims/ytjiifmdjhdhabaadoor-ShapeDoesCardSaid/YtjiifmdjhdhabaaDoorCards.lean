/-
  DERIVED. GIVEN WITH THE SEED: THE CARDS: each row of YtjiifmdjhdhabaaDoorRows.lean that lists a variable, with what it lists TIED to the program's text (the seventh form; the later family's looks); each row that meets fmt, with fmt's text TOLD by the authors' own Lean function (tested against real Go, not proved from fmt's source: count such statements apart). THE CARD IS WHAT COUNTS. Prove the row's statement (the work); the ties are given (YtjiifmdjhdhabaaDoorTie.lean); close each card by the builder's one call (the guide's Derived/Test/ToyasCard.lean, 'card_holds'). Laid BY PROGRAM, IN A SANDBOX (cutbox-door.mjs). By AI agents, Wed Nov 11 2026. No macro, syntax, notation, axiom, sorry.
-/
import Derived.Test.YtjiifmdjhdhabaaDoorRows
import GoSem.ClaimSeven
namespace Go.Proofs.YtjiifmdjhdhabaaDoor
namespace Rows

/-- THE TIED CARD OF 'quarterdaylaw15.ShapeDoes'. -/
def shapeDoesCard : Claim7 := { stood := { row := shapeDoesRow, standIns := [], harness := (true, "557caf26aa8d4c87a1c0924b26cec62630fccf91e214a3bcb5722e9bce13f561"), looks := false }, kinds := [], alts := [], laidByText := true, laidKinds := [.data, .widerDeep, .widerDeep, .widerDeep, .widerDeep, .widerDeep], laidTests := true, laidLooks := .later }
def ShapeDoesCardSaid : Prop := Claim7.holds Tryd.pinned (.plain (OpenSpec.ofChange shapeDoesSpec)) shapeDoesCard

/-- THE SECOND FORM's CARD OF 'quarterdaylaw15.ShapeDoes'. -/
def shapeDoesUptoCard : Claim7 := { stood := { row := shapeDoesUptoRow, standIns := [], harness := (true, "557caf26aa8d4c87a1c0924b26cec62630fccf91e214a3bcb5722e9bce13f561"), looks := false }, kinds := [], alts := [], laidByText := true, laidKinds := [.data, .widerDeep, .widerDeep, .widerDeep, .widerDeep, .widerDeep], laidTests := true, laidLooks := .later }
def ShapeDoesUptoCardSaid : Prop := Claim7.holds Tryd.pinned (.plain (OpenSpec.upto shapeDoesSpec)) shapeDoesUptoCard
end Rows
end Go.Proofs.YtjiifmdjhdhabaaDoor
