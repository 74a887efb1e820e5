/-
  DERIVED. GIVEN WITH THE SEED: THE CARDS: each row of YtabhbcedldjjjaaGreatDoorRows.lean that lists a variable, with what it lists TIED to the program's text (the seventh form; the later family's looks); each row that meets fmt, with fmt's text TOLD by the authors' own Lean function (tested against real Go, not proved from fmt's source: count such statements apart). THE CARD IS WHAT COUNTS. Prove the row's statement (the work); the ties are given (YtabhbcedldjjjaaGreatDoorTie.lean); close each card by the builder's one call (the guide's Derived/Test/ToyasCard.lean, 'card_holds'). Laid BY PROGRAM, IN A SANDBOX (cutbox-door.mjs). By AI agents, Wed Nov 11 2026. No macro, syntax, notation, axiom, sorry.
-/
import Derived.Test.YtabhbcedldjjjaaGreatDoorRows
import GoSem.ClaimSeven
namespace Go.Proofs.YtabhbcedldjjjaaGreatDoor
namespace Rows

/-- THE TIED CARD OF 'quarterdaylaw10.LayoutDoes'. -/
def layoutDoesCard : Claim7 := { stood := { row := layoutDoesRow, standIns := [], harness := (true, "756894fb0716d247ca376d888b2a7c58416b0778c07443df710872d7f803e458"), looks := true }, kinds := [], alts := [], laidByText := true, laidKinds := [.data, .data, .data, .sentinel, .sentinel], laidTests := true, laidLooks := .later }
def LayoutDoesCardSaid : Prop := Claim7.holds Tryz.pinned (.plain (OpenSpec.ofChange layoutDoesSpec)) layoutDoesCard

/-- THE SECOND FORM's CARD OF 'quarterdaylaw10.LayoutDoes'. -/
def layoutDoesUptoCard : Claim7 := { stood := { row := layoutDoesUptoRow, standIns := [], harness := (true, "756894fb0716d247ca376d888b2a7c58416b0778c07443df710872d7f803e458"), looks := true }, kinds := [], alts := [], laidByText := true, laidKinds := [.data, .data, .data, .sentinel, .sentinel], laidTests := true, laidLooks := .later }
def LayoutDoesUptoCardSaid : Prop := Claim7.holds Tryz.pinned (.plain (OpenSpec.upto layoutDoesSpec)) layoutDoesUptoCard
end Rows
end Go.Proofs.YtabhbcedldjjjaaGreatDoor
