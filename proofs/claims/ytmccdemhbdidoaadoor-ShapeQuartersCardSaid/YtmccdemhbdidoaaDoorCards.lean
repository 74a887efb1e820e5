/-
  DERIVED. GIVEN WITH THE SEED: THE CARDS: each row of YtmccdemhbdidoaaDoorRows.lean that lists a variable, with what it lists TIED to the program's text (the seventh form; the later family's looks); each row that meets fmt, with fmt's text TOLD by the authors' own Lean function (tested against real Go, not proved from fmt's source: count such statements apart). THE CARD IS WHAT COUNTS. Prove the row's statement (the work); the ties are given (YtmccdemhbdidoaaDoorTie.lean); close each card by the builder's one call (the guide's Derived/Test/ToyasCard.lean, 'card_holds'). Laid BY PROGRAM, IN A SANDBOX (cutbox-door.mjs). By AI agents, Wed Nov 11 2026. No macro, syntax, notation, axiom, sorry.
-/
import Derived.Test.YtmccdemhbdidoaaDoorRows
import GoSem.ClaimSeven
namespace Go.Proofs.YtmccdemhbdidoaaDoor
namespace Rows

/-- THE TIED CARD OF 'quarterdaylaw15.ShapeHalves'. -/
def shapeHalvesCard : Claim7 := { stood := { row := shapeHalvesRow, standIns := [], harness := (true, "f0057340c1e642157f81beb01b3c210dddd75703e815d8a378aa9ba745447a23"), looks := false }, kinds := [], alts := [], laidByText := true, laidKinds := [.widerDeep, .widerDeep, .widerDeep, .widerDeep, .widerDeep], laidTests := true, laidLooks := .later }
def ShapeHalvesCardSaid : Prop := Claim7.holds Tryd.pinned (.plain (OpenSpec.ofChange shapeHalvesSpec)) shapeHalvesCard

/-- THE TIED CARD OF 'quarterdaylaw15.ShapeQuarters'. -/
def shapeQuartersCard : Claim7 := { stood := { row := shapeQuartersRow, standIns := [], harness := (true, "f0057340c1e642157f81beb01b3c210dddd75703e815d8a378aa9ba745447a23"), looks := false }, kinds := [], alts := [], laidByText := true, laidKinds := [.widerDeep, .widerDeep, .widerDeep, .widerDeep, .widerDeep], laidTests := true, laidLooks := .later }
def ShapeQuartersCardSaid : Prop := Claim7.holds Tryd.pinned (.plain (OpenSpec.ofChange shapeQuartersSpec)) shapeQuartersCard

/-- THE SECOND FORM's CARD OF 'quarterdaylaw15.ShapeHalves'. -/
def shapeHalvesUptoCard : Claim7 := { stood := { row := shapeHalvesUptoRow, standIns := [], harness := (true, "f0057340c1e642157f81beb01b3c210dddd75703e815d8a378aa9ba745447a23"), looks := false }, kinds := [], alts := [], laidByText := true, laidKinds := [.widerDeep, .widerDeep, .widerDeep, .widerDeep, .widerDeep], laidTests := true, laidLooks := .later }
def ShapeHalvesUptoCardSaid : Prop := Claim7.holds Tryd.pinned (.plain (OpenSpec.upto shapeHalvesSpec)) shapeHalvesUptoCard

/-- THE SECOND FORM's CARD OF 'quarterdaylaw15.ShapeQuarters'. -/
def shapeQuartersUptoCard : Claim7 := { stood := { row := shapeQuartersUptoRow, standIns := [], harness := (true, "f0057340c1e642157f81beb01b3c210dddd75703e815d8a378aa9ba745447a23"), looks := false }, kinds := [], alts := [], laidByText := true, laidKinds := [.widerDeep, .widerDeep, .widerDeep, .widerDeep, .widerDeep], laidTests := true, laidLooks := .later }
def ShapeQuartersUptoCardSaid : Prop := Claim7.holds Tryd.pinned (.plain (OpenSpec.upto shapeQuartersSpec)) shapeQuartersUptoCard
end Rows
end Go.Proofs.YtmccdemhbdidoaaDoor
