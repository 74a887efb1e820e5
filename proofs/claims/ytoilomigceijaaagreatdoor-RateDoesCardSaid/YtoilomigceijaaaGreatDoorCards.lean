/-
  DERIVED. GIVEN WITH THE SEED: THE CARDS: each row of YtoilomigceijaaaGreatDoorRows.lean that lists a variable, with what it lists TIED to the program's text (the seventh form; the later family's looks); each row that meets fmt, with fmt's text TOLD by the authors' own Lean function (tested against real Go, not proved from fmt's source: count such statements apart). THE CARD IS WHAT COUNTS. Prove the row's statement (the work); the ties are given (YtoilomigceijaaaGreatDoorTie.lean); close each card by the builder's one call (the guide's Derived/Test/ToyasCard.lean, 'card_holds'). Laid BY PROGRAM, IN A SANDBOX (cutbox-door.mjs). By AI agents, Wed Nov 11 2026. No macro, syntax, notation, axiom, sorry.
-/
import Derived.Test.YtoilomigceijaaaGreatDoorRows
import GoSem.ClaimSeven
namespace Go.Proofs.YtoilomigceijaaaGreatDoor
namespace Rows

/-- THE TIED CARD OF 'quarterdaylaw21.RateDoes'. -/
def rateDoesCard : Claim7 := { stood := { row := rateDoesRow, standIns := [], harness := (true, "bfa766ac36bca26e518163ee1362442682f385e69060b1ed490575a51eb00461"), looks := false }, kinds := [], alts := [], laidByText := true, laidKinds := [.data, .widerDeep, .widerDeep, .widerDeep, .widerDeep, .widerDeep], laidTests := true, laidLooks := .later }
def RateDoesCardSaid : Prop := Claim7.holds Tryz.pinned (.plain (OpenSpec.ofChange rateDoesSpec)) rateDoesCard

/-- THE SECOND FORM's CARD OF 'quarterdaylaw21.RateDoes'. -/
def rateDoesUptoCard : Claim7 := { stood := { row := rateDoesUptoRow, standIns := [], harness := (true, "bfa766ac36bca26e518163ee1362442682f385e69060b1ed490575a51eb00461"), looks := false }, kinds := [], alts := [], laidByText := true, laidKinds := [.data, .widerDeep, .widerDeep, .widerDeep, .widerDeep, .widerDeep], laidTests := true, laidLooks := .later }
def RateDoesUptoCardSaid : Prop := Claim7.holds Tryz.pinned (.plain (OpenSpec.upto rateDoesSpec)) rateDoesUptoCard
end Rows
end Go.Proofs.YtoilomigceijaaaGreatDoor
