/-
  DERIVED. GIVEN WITH THE SEED: THE CARDS: each row of YtaiodjgpojfekaaDoorRows.lean that lists a variable, with what it lists TIED to the program's text (the seventh form; the later family's looks); each row that meets fmt, with fmt's text TOLD by the authors' own Lean function (tested against real Go, not proved from fmt's source: count such statements apart). THE CARD IS WHAT COUNTS. Prove the row's statement (the work); the ties are given (YtaiodjgpojfekaaDoorTie.lean); close each card by the builder's one call (the guide's Derived/Test/ToyasCard.lean, 'card_holds'). Laid BY PROGRAM, IN A SANDBOX (cutbox-door.mjs). By AI agents, Wed Nov 11 2026. No macro, syntax, notation, axiom, sorry.
-/
import Derived.Test.YtaiodjgpojfekaaDoorRows
import GoSem.ClaimSeven
namespace Go.Proofs.YtaiodjgpojfekaaDoor
namespace Rows

/-- THE TIED CARD OF 'quarterdaylaw17.FindAll'. -/
def findAllCard : Claim7 := { stood := { row := findAllRow, standIns := [], harness := (true, "2a653c9d22a7f25196e08d9312de3b97fda75a57ee132741df1753d4f50856a9"), looks := false }, kinds := [], alts := [], laidByText := true, laidKinds := [.data, .widerDeep, .widerDeep, .widerDeep, .widerDeep, .widerDeep], laidTests := true, laidLooks := .later }
def FindAllCardSaid : Prop := Claim7.holds Tryd.pinned (.plain (OpenSpec.ofChange findAllSpec)) findAllCard

/-- THE TIED CARD OF 'quarterdaylaw17.FindMeets'. -/
def findMeetsCard : Claim7 := { stood := { row := findMeetsRow, standIns := [], harness := (true, "2a653c9d22a7f25196e08d9312de3b97fda75a57ee132741df1753d4f50856a9"), looks := false }, kinds := [], alts := [], laidByText := true, laidKinds := [.data, .widerDeep, .widerDeep, .widerDeep, .widerDeep, .widerDeep], laidTests := true, laidLooks := .later }
def FindMeetsCardSaid : Prop := Claim7.holds Tryd.pinned (.plain (OpenSpec.ofChange findMeetsSpec)) findMeetsCard

/-- THE TIED CARD OF 'quarterdaylaw15.ShapeDoes'. -/
def shapeDoesCard : Claim7 := { stood := { row := shapeDoesRow, standIns := [], harness := (true, "2a653c9d22a7f25196e08d9312de3b97fda75a57ee132741df1753d4f50856a9"), looks := false }, kinds := [], alts := [], laidByText := true, laidKinds := [.data, .widerDeep, .widerDeep, .widerDeep, .widerDeep, .widerDeep], laidTests := true, laidLooks := .later }
def ShapeDoesCardSaid : Prop := Claim7.holds Tryd.pinned (.plain (OpenSpec.ofChange shapeDoesSpec)) shapeDoesCard

/-- THE SECOND FORM's CARD OF 'quarterdaylaw17.FindAll'. -/
def findAllUptoCard : Claim7 := { stood := { row := findAllUptoRow, standIns := [], harness := (true, "2a653c9d22a7f25196e08d9312de3b97fda75a57ee132741df1753d4f50856a9"), looks := false }, kinds := [], alts := [], laidByText := true, laidKinds := [.data, .widerDeep, .widerDeep, .widerDeep, .widerDeep, .widerDeep], laidTests := true, laidLooks := .later }
def FindAllUptoCardSaid : Prop := Claim7.holds Tryd.pinned (.plain (OpenSpec.upto findAllSpec)) findAllUptoCard

/-- THE SECOND FORM's CARD OF 'quarterdaylaw17.FindMeets'. -/
def findMeetsUptoCard : Claim7 := { stood := { row := findMeetsUptoRow, standIns := [], harness := (true, "2a653c9d22a7f25196e08d9312de3b97fda75a57ee132741df1753d4f50856a9"), looks := false }, kinds := [], alts := [], laidByText := true, laidKinds := [.data, .widerDeep, .widerDeep, .widerDeep, .widerDeep, .widerDeep], laidTests := true, laidLooks := .later }
def FindMeetsUptoCardSaid : Prop := Claim7.holds Tryd.pinned (.plain (OpenSpec.upto findMeetsSpec)) findMeetsUptoCard

/-- THE SECOND FORM's CARD OF 'quarterdaylaw15.ShapeDoes'. -/
def shapeDoesUptoCard : Claim7 := { stood := { row := shapeDoesUptoRow, standIns := [], harness := (true, "2a653c9d22a7f25196e08d9312de3b97fda75a57ee132741df1753d4f50856a9"), looks := false }, kinds := [], alts := [], laidByText := true, laidKinds := [.data, .widerDeep, .widerDeep, .widerDeep, .widerDeep, .widerDeep], laidTests := true, laidLooks := .later }
def ShapeDoesUptoCardSaid : Prop := Claim7.holds Tryd.pinned (.plain (OpenSpec.upto shapeDoesSpec)) shapeDoesUptoCard
end Rows
end Go.Proofs.YtaiodjgpojfekaaDoor
