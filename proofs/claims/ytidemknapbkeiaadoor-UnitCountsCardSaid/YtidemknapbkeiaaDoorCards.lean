/-
  DERIVED. GIVEN WITH THE SEED: THE CARDS: each row of YtidemknapbkeiaaDoorRows.lean that lists a variable, with what it lists TIED to the program's text (the seventh form; the later family's looks); each row that meets fmt, with fmt's text TOLD by the authors' own Lean function (tested against real Go, not proved from fmt's source: count such statements apart). THE CARD IS WHAT COUNTS. Prove the row's statement (the work); the ties are given (YtidemknapbkeiaaDoorTie.lean); close each card by the builder's one call (the guide's Derived/Test/ToyasCard.lean, 'card_holds'). Laid BY PROGRAM, IN A SANDBOX (cutbox-door.mjs). By AI agents, Wed Nov 11 2026. No macro, syntax, notation, axiom, sorry.
-/
import Derived.Test.YtidemknapbkeiaaDoorRows
import GoSem.ClaimSeven
namespace Go.Proofs.YtidemknapbkeiaaDoor
namespace Rows

/-- THE TIED CARD OF 'quarterdaylaw15.ShapeDoes'. -/
def shapeDoesCard : Claim7 := { stood := { row := shapeDoesRow, standIns := [], harness := (true, "7e436d86ff71819bd7ee9f6621670d895a0848e90adf9c02395f8826936ed43f"), looks := false }, kinds := [], alts := [], laidByText := true, laidKinds := [.data, .widerDeep, .widerDeep, .widerDeep, .widerDeep, .widerDeep], laidTests := true, laidLooks := .later }
def ShapeDoesCardSaid : Prop := Claim7.holds Tryd.pinned (.plain (OpenSpec.ofChange shapeDoesSpec)) shapeDoesCard

/-- THE TIED CARD OF 'quarterdaylaw15.ShapeQuarters'. -/
def shapeQuartersCard : Claim7 := { stood := { row := shapeQuartersRow, standIns := [], harness := (true, "7e436d86ff71819bd7ee9f6621670d895a0848e90adf9c02395f8826936ed43f"), looks := false }, kinds := [], alts := [], laidByText := true, laidKinds := [.widerDeep, .widerDeep, .widerDeep, .widerDeep, .widerDeep], laidTests := true, laidLooks := .later }
def ShapeQuartersCardSaid : Prop := Claim7.holds Tryd.pinned (.plain (OpenSpec.ofChange shapeQuartersSpec)) shapeQuartersCard

/-- THE TIED CARD OF 'quarterdaylaw15.ShapeWeeks'. -/
def shapeWeeksCard : Claim7 := { stood := { row := shapeWeeksRow, standIns := [], harness := (true, "7e436d86ff71819bd7ee9f6621670d895a0848e90adf9c02395f8826936ed43f"), looks := false }, kinds := [], alts := [], laidByText := true, laidKinds := [.data, .widerDeep, .widerDeep, .widerDeep, .widerDeep, .widerDeep], laidTests := true, laidLooks := .later }
def ShapeWeeksCardSaid : Prop := Claim7.holds Tryd.pinned (.plain (OpenSpec.ofChange shapeWeeksSpec)) shapeWeeksCard

/-- THE TIED CARD OF 'quarterdaylaw15.ShapeEnds'. -/
def shapeEndsCard : Claim7 := { stood := { row := shapeEndsRow, standIns := [], harness := (true, "7e436d86ff71819bd7ee9f6621670d895a0848e90adf9c02395f8826936ed43f"), looks := false }, kinds := [], alts := [], laidByText := true, laidKinds := [.data, .widerDeep, .widerDeep, .widerDeep, .widerDeep, .widerDeep], laidTests := true, laidLooks := .later }
def ShapeEndsCardSaid : Prop := Claim7.holds Tryd.pinned (.plain (OpenSpec.ofChange shapeEndsSpec)) shapeEndsCard

/-- THE TIED CARD OF 'quarterdaylaw15.ShapeBroad'. -/
def shapeBroadCard : Claim7 := { stood := { row := shapeBroadRow, standIns := [], harness := (true, "7e436d86ff71819bd7ee9f6621670d895a0848e90adf9c02395f8826936ed43f"), looks := false }, kinds := [], alts := [], laidByText := true, laidKinds := [.data, .widerDeep, .widerDeep, .widerDeep, .widerDeep, .widerDeep], laidTests := true, laidLooks := .later }
def ShapeBroadCardSaid : Prop := Claim7.holds Tryd.pinned (.plain (OpenSpec.ofChange shapeBroadSpec)) shapeBroadCard

/-- THE TIED CARD OF 'quarterdaylaw15.ShapeMonths'. -/
def shapeMonthsCard : Claim7 := { stood := { row := shapeMonthsRow, standIns := [], harness := (true, "7e436d86ff71819bd7ee9f6621670d895a0848e90adf9c02395f8826936ed43f"), looks := false }, kinds := [], alts := [], laidByText := true, laidKinds := [.data, .widerDeep, .widerDeep, .widerDeep, .widerDeep, .widerDeep], laidTests := true, laidLooks := .later }
def ShapeMonthsCardSaid : Prop := Claim7.holds Tryd.pinned (.plain (OpenSpec.ofChange shapeMonthsSpec)) shapeMonthsCard

/-- THE TIED CARD OF 'quarterdaylaw15.ShapeAdded'. -/
def shapeAddedCard : Claim7 := { stood := { row := shapeAddedRow, standIns := [], harness := (true, "7e436d86ff71819bd7ee9f6621670d895a0848e90adf9c02395f8826936ed43f"), looks := false }, kinds := [], alts := [], laidByText := true, laidKinds := [.data, .widerDeep, .widerDeep, .widerDeep, .widerDeep, .widerDeep], laidTests := true, laidLooks := .later }
def ShapeAddedCardSaid : Prop := Claim7.holds Tryd.pinned (.plain (OpenSpec.ofChange shapeAddedSpec)) shapeAddedCard

/-- THE TIED CARD OF 'quarterdaylaw15.ShapeHalves'. -/
def shapeHalvesCard : Claim7 := { stood := { row := shapeHalvesRow, standIns := [], harness := (true, "7e436d86ff71819bd7ee9f6621670d895a0848e90adf9c02395f8826936ed43f"), looks := false }, kinds := [], alts := [], laidByText := true, laidKinds := [.widerDeep, .widerDeep, .widerDeep, .widerDeep, .widerDeep], laidTests := true, laidLooks := .later }
def ShapeHalvesCardSaid : Prop := Claim7.holds Tryd.pinned (.plain (OpenSpec.ofChange shapeHalvesSpec)) shapeHalvesCard

/-- THE TIED CARD OF 'quarterdaylaw16.UnitCover'. -/
def unitCoverCard : Claim7 := { stood := { row := unitCoverRow, standIns := [], harness := (true, "7e436d86ff71819bd7ee9f6621670d895a0848e90adf9c02395f8826936ed43f"), looks := false }, kinds := [], alts := [], laidByText := true, laidKinds := [.data, .widerDeep, .widerDeep, .widerDeep, .widerDeep, .widerDeep], laidTests := true, laidLooks := .later }
def UnitCoverCardSaid : Prop := Claim7.holds Tryd.pinned (.plain (OpenSpec.ofChange unitCoverSpec)) unitCoverCard

/-- THE TIED CARD OF 'quarterdaylaw16.UnitInside'. -/
def unitInsideCard : Claim7 := { stood := { row := unitInsideRow, standIns := [], harness := (true, "7e436d86ff71819bd7ee9f6621670d895a0848e90adf9c02395f8826936ed43f"), looks := false }, kinds := [], alts := [], laidByText := true, laidKinds := [.data, .widerDeep, .widerDeep, .widerDeep, .widerDeep, .widerDeep], laidTests := true, laidLooks := .later }
def UnitInsideCardSaid : Prop := Claim7.holds Tryd.pinned (.plain (OpenSpec.ofChange unitInsideSpec)) unitInsideCard

/-- THE TIED CARD OF 'quarterdaylaw16.UnitWeeks'. -/
def unitWeeksCard : Claim7 := { stood := { row := unitWeeksRow, standIns := [], harness := (true, "7e436d86ff71819bd7ee9f6621670d895a0848e90adf9c02395f8826936ed43f"), looks := false }, kinds := [], alts := [], laidByText := true, laidKinds := [.data, .widerDeep, .widerDeep, .widerDeep, .widerDeep, .widerDeep], laidTests := true, laidLooks := .later }
def UnitWeeksCardSaid : Prop := Claim7.holds Tryd.pinned (.plain (OpenSpec.ofChange unitWeeksSpec)) unitWeeksCard

/-- THE TIED CARD OF 'quarterdaylaw16.UnitDown'. -/
def unitDownCard : Claim7 := { stood := { row := unitDownRow, standIns := [], harness := (true, "7e436d86ff71819bd7ee9f6621670d895a0848e90adf9c02395f8826936ed43f"), looks := false }, kinds := [], alts := [], laidByText := true, laidKinds := [.data, .widerDeep, .widerDeep, .widerDeep, .widerDeep, .widerDeep], laidTests := true, laidLooks := .later }
def UnitDownCardSaid : Prop := Claim7.holds Tryd.pinned (.plain (OpenSpec.ofChange unitDownSpec)) unitDownCard

/-- THE TIED CARD OF 'quarterdaylaw16.UnitCounts'. -/
def unitCountsCard : Claim7 := { stood := { row := unitCountsRow, standIns := [], harness := (true, "7e436d86ff71819bd7ee9f6621670d895a0848e90adf9c02395f8826936ed43f"), looks := false }, kinds := [], alts := [], laidByText := true, laidKinds := [.data, .widerDeep, .widerDeep, .widerDeep, .widerDeep, .widerDeep], laidTests := true, laidLooks := .later }
def UnitCountsCardSaid : Prop := Claim7.holds Tryd.pinned (.plain (OpenSpec.ofChange unitCountsSpec)) unitCountsCard

/-- THE TIED CARD OF 'quarterdaylaw16.UnitUp'. -/
def unitUpCard : Claim7 := { stood := { row := unitUpRow, standIns := [], harness := (true, "7e436d86ff71819bd7ee9f6621670d895a0848e90adf9c02395f8826936ed43f"), looks := false }, kinds := [], alts := [], laidByText := true, laidKinds := [.data, .widerDeep, .widerDeep, .widerDeep, .widerDeep, .widerDeep], laidTests := true, laidLooks := .later }
def UnitUpCardSaid : Prop := Claim7.holds Tryd.pinned (.plain (OpenSpec.ofChange unitUpSpec)) unitUpCard

/-- THE SECOND FORM's CARD OF 'quarterdaylaw15.ShapeDoes'. -/
def shapeDoesUptoCard : Claim7 := { stood := { row := shapeDoesUptoRow, standIns := [], harness := (true, "7e436d86ff71819bd7ee9f6621670d895a0848e90adf9c02395f8826936ed43f"), looks := false }, kinds := [], alts := [], laidByText := true, laidKinds := [.data, .widerDeep, .widerDeep, .widerDeep, .widerDeep, .widerDeep], laidTests := true, laidLooks := .later }
def ShapeDoesUptoCardSaid : Prop := Claim7.holds Tryd.pinned (.plain (OpenSpec.upto shapeDoesSpec)) shapeDoesUptoCard

/-- THE SECOND FORM's CARD OF 'quarterdaylaw15.ShapeQuarters'. -/
def shapeQuartersUptoCard : Claim7 := { stood := { row := shapeQuartersUptoRow, standIns := [], harness := (true, "7e436d86ff71819bd7ee9f6621670d895a0848e90adf9c02395f8826936ed43f"), looks := false }, kinds := [], alts := [], laidByText := true, laidKinds := [.widerDeep, .widerDeep, .widerDeep, .widerDeep, .widerDeep], laidTests := true, laidLooks := .later }
def ShapeQuartersUptoCardSaid : Prop := Claim7.holds Tryd.pinned (.plain (OpenSpec.upto shapeQuartersSpec)) shapeQuartersUptoCard

/-- THE SECOND FORM's CARD OF 'quarterdaylaw15.ShapeWeeks'. -/
def shapeWeeksUptoCard : Claim7 := { stood := { row := shapeWeeksUptoRow, standIns := [], harness := (true, "7e436d86ff71819bd7ee9f6621670d895a0848e90adf9c02395f8826936ed43f"), looks := false }, kinds := [], alts := [], laidByText := true, laidKinds := [.data, .widerDeep, .widerDeep, .widerDeep, .widerDeep, .widerDeep], laidTests := true, laidLooks := .later }
def ShapeWeeksUptoCardSaid : Prop := Claim7.holds Tryd.pinned (.plain (OpenSpec.upto shapeWeeksSpec)) shapeWeeksUptoCard

/-- THE SECOND FORM's CARD OF 'quarterdaylaw15.ShapeEnds'. -/
def shapeEndsUptoCard : Claim7 := { stood := { row := shapeEndsUptoRow, standIns := [], harness := (true, "7e436d86ff71819bd7ee9f6621670d895a0848e90adf9c02395f8826936ed43f"), looks := false }, kinds := [], alts := [], laidByText := true, laidKinds := [.data, .widerDeep, .widerDeep, .widerDeep, .widerDeep, .widerDeep], laidTests := true, laidLooks := .later }
def ShapeEndsUptoCardSaid : Prop := Claim7.holds Tryd.pinned (.plain (OpenSpec.upto shapeEndsSpec)) shapeEndsUptoCard

/-- THE SECOND FORM's CARD OF 'quarterdaylaw15.ShapeBroad'. -/
def shapeBroadUptoCard : Claim7 := { stood := { row := shapeBroadUptoRow, standIns := [], harness := (true, "7e436d86ff71819bd7ee9f6621670d895a0848e90adf9c02395f8826936ed43f"), looks := false }, kinds := [], alts := [], laidByText := true, laidKinds := [.data, .widerDeep, .widerDeep, .widerDeep, .widerDeep, .widerDeep], laidTests := true, laidLooks := .later }
def ShapeBroadUptoCardSaid : Prop := Claim7.holds Tryd.pinned (.plain (OpenSpec.upto shapeBroadSpec)) shapeBroadUptoCard

/-- THE SECOND FORM's CARD OF 'quarterdaylaw15.ShapeMonths'. -/
def shapeMonthsUptoCard : Claim7 := { stood := { row := shapeMonthsUptoRow, standIns := [], harness := (true, "7e436d86ff71819bd7ee9f6621670d895a0848e90adf9c02395f8826936ed43f"), looks := false }, kinds := [], alts := [], laidByText := true, laidKinds := [.data, .widerDeep, .widerDeep, .widerDeep, .widerDeep, .widerDeep], laidTests := true, laidLooks := .later }
def ShapeMonthsUptoCardSaid : Prop := Claim7.holds Tryd.pinned (.plain (OpenSpec.upto shapeMonthsSpec)) shapeMonthsUptoCard

/-- THE SECOND FORM's CARD OF 'quarterdaylaw15.ShapeAdded'. -/
def shapeAddedUptoCard : Claim7 := { stood := { row := shapeAddedUptoRow, standIns := [], harness := (true, "7e436d86ff71819bd7ee9f6621670d895a0848e90adf9c02395f8826936ed43f"), looks := false }, kinds := [], alts := [], laidByText := true, laidKinds := [.data, .widerDeep, .widerDeep, .widerDeep, .widerDeep, .widerDeep], laidTests := true, laidLooks := .later }
def ShapeAddedUptoCardSaid : Prop := Claim7.holds Tryd.pinned (.plain (OpenSpec.upto shapeAddedSpec)) shapeAddedUptoCard

/-- THE SECOND FORM's CARD OF 'quarterdaylaw15.ShapeHalves'. -/
def shapeHalvesUptoCard : Claim7 := { stood := { row := shapeHalvesUptoRow, standIns := [], harness := (true, "7e436d86ff71819bd7ee9f6621670d895a0848e90adf9c02395f8826936ed43f"), looks := false }, kinds := [], alts := [], laidByText := true, laidKinds := [.widerDeep, .widerDeep, .widerDeep, .widerDeep, .widerDeep], laidTests := true, laidLooks := .later }
def ShapeHalvesUptoCardSaid : Prop := Claim7.holds Tryd.pinned (.plain (OpenSpec.upto shapeHalvesSpec)) shapeHalvesUptoCard

/-- THE SECOND FORM's CARD OF 'quarterdaylaw16.UnitCover'. -/
def unitCoverUptoCard : Claim7 := { stood := { row := unitCoverUptoRow, standIns := [], harness := (true, "7e436d86ff71819bd7ee9f6621670d895a0848e90adf9c02395f8826936ed43f"), looks := false }, kinds := [], alts := [], laidByText := true, laidKinds := [.data, .widerDeep, .widerDeep, .widerDeep, .widerDeep, .widerDeep], laidTests := true, laidLooks := .later }
def UnitCoverUptoCardSaid : Prop := Claim7.holds Tryd.pinned (.plain (OpenSpec.upto unitCoverSpec)) unitCoverUptoCard

/-- THE SECOND FORM's CARD OF 'quarterdaylaw16.UnitInside'. -/
def unitInsideUptoCard : Claim7 := { stood := { row := unitInsideUptoRow, standIns := [], harness := (true, "7e436d86ff71819bd7ee9f6621670d895a0848e90adf9c02395f8826936ed43f"), looks := false }, kinds := [], alts := [], laidByText := true, laidKinds := [.data, .widerDeep, .widerDeep, .widerDeep, .widerDeep, .widerDeep], laidTests := true, laidLooks := .later }
def UnitInsideUptoCardSaid : Prop := Claim7.holds Tryd.pinned (.plain (OpenSpec.upto unitInsideSpec)) unitInsideUptoCard

/-- THE SECOND FORM's CARD OF 'quarterdaylaw16.UnitWeeks'. -/
def unitWeeksUptoCard : Claim7 := { stood := { row := unitWeeksUptoRow, standIns := [], harness := (true, "7e436d86ff71819bd7ee9f6621670d895a0848e90adf9c02395f8826936ed43f"), looks := false }, kinds := [], alts := [], laidByText := true, laidKinds := [.data, .widerDeep, .widerDeep, .widerDeep, .widerDeep, .widerDeep], laidTests := true, laidLooks := .later }
def UnitWeeksUptoCardSaid : Prop := Claim7.holds Tryd.pinned (.plain (OpenSpec.upto unitWeeksSpec)) unitWeeksUptoCard

/-- THE SECOND FORM's CARD OF 'quarterdaylaw16.UnitDown'. -/
def unitDownUptoCard : Claim7 := { stood := { row := unitDownUptoRow, standIns := [], harness := (true, "7e436d86ff71819bd7ee9f6621670d895a0848e90adf9c02395f8826936ed43f"), looks := false }, kinds := [], alts := [], laidByText := true, laidKinds := [.data, .widerDeep, .widerDeep, .widerDeep, .widerDeep, .widerDeep], laidTests := true, laidLooks := .later }
def UnitDownUptoCardSaid : Prop := Claim7.holds Tryd.pinned (.plain (OpenSpec.upto unitDownSpec)) unitDownUptoCard

/-- THE SECOND FORM's CARD OF 'quarterdaylaw16.UnitCounts'. -/
def unitCountsUptoCard : Claim7 := { stood := { row := unitCountsUptoRow, standIns := [], harness := (true, "7e436d86ff71819bd7ee9f6621670d895a0848e90adf9c02395f8826936ed43f"), looks := false }, kinds := [], alts := [], laidByText := true, laidKinds := [.data, .widerDeep, .widerDeep, .widerDeep, .widerDeep, .widerDeep], laidTests := true, laidLooks := .later }
def UnitCountsUptoCardSaid : Prop := Claim7.holds Tryd.pinned (.plain (OpenSpec.upto unitCountsSpec)) unitCountsUptoCard

/-- THE SECOND FORM's CARD OF 'quarterdaylaw16.UnitUp'. -/
def unitUpUptoCard : Claim7 := { stood := { row := unitUpUptoRow, standIns := [], harness := (true, "7e436d86ff71819bd7ee9f6621670d895a0848e90adf9c02395f8826936ed43f"), looks := false }, kinds := [], alts := [], laidByText := true, laidKinds := [.data, .widerDeep, .widerDeep, .widerDeep, .widerDeep, .widerDeep], laidTests := true, laidLooks := .later }
def UnitUpUptoCardSaid : Prop := Claim7.holds Tryd.pinned (.plain (OpenSpec.upto unitUpSpec)) unitUpUptoCard
end Rows
end Go.Proofs.YtidemknapbkeiaaDoor
