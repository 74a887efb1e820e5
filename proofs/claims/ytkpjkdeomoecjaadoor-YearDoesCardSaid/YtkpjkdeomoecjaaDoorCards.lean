/-
  DERIVED. GIVEN WITH THE SEED: THE CARDS: each row of YtkpjkdeomoecjaaDoorRows.lean that lists a variable, with what it lists TIED to the program's text (the seventh form; the later family's looks); each row that meets fmt, with fmt's text TOLD by the authors' own Lean function (tested against real Go, not proved from fmt's source: count such statements apart). THE CARD IS WHAT COUNTS. Prove the row's statement (the work); the ties are given (YtkpjkdeomoecjaaDoorTie.lean); close each card by the builder's one call (the guide's Derived/Test/ToyasCard.lean, 'card_holds'). Laid BY PROGRAM, IN A SANDBOX (cutbox-door.mjs). By AI agents, Wed Nov 11 2026. No macro, syntax, notation, axiom, sorry.
-/
import Derived.Test.YtkpjkdeomoecjaaDoorRows
import GoSem.ClaimSeven
namespace Go.Proofs.YtkpjkdeomoecjaaDoor
namespace Rows

/-- THE TIED CARD OF 'quarterdaylaw13.AnchorDoes'. -/
def anchorDoesCard : Claim7 := { stood := { row := anchorDoesRow, standIns := [], harness := (true, "2508f865d50494aab8a0939bec65de36e20e76031e1540074f8fccee134e2030"), looks := false }, kinds := [], alts := [], laidByText := true, laidKinds := [.data, .widerDeep, .widerDeep, .widerDeep, .widerDeep, .widerDeep], laidTests := true, laidLooks := .later }
def AnchorDoesCardSaid : Prop := Claim7.holds Tryd.pinned (.plain (OpenSpec.ofChange anchorDoesSpec)) anchorDoesCard

/-- THE TIED CARD OF 'quarterdaylaw13.AnchorNext'. -/
def anchorNextCard : Claim7 := { stood := { row := anchorNextRow, standIns := [], harness := (true, "2508f865d50494aab8a0939bec65de36e20e76031e1540074f8fccee134e2030"), looks := false }, kinds := [], alts := [], laidByText := true, laidKinds := [.data, .widerDeep, .widerDeep, .widerDeep, .widerDeep, .widerDeep], laidTests := true, laidLooks := .later }
def AnchorNextCardSaid : Prop := Claim7.holds Tryd.pinned (.plain (OpenSpec.ofChange anchorNextSpec)) anchorNextCard

/-- THE TIED CARD OF 'quarterdaylaw13.AnchorWeeks'. -/
def anchorWeeksCard : Claim7 := { stood := { row := anchorWeeksRow, standIns := [], harness := (true, "2508f865d50494aab8a0939bec65de36e20e76031e1540074f8fccee134e2030"), looks := false }, kinds := [], alts := [], laidByText := true, laidKinds := [.data, .widerDeep, .widerDeep, .widerDeep, .widerDeep, .widerDeep], laidTests := true, laidLooks := .later }
def AnchorWeeksCardSaid : Prop := Claim7.holds Tryd.pinned (.plain (OpenSpec.ofChange anchorWeeksSpec)) anchorWeeksCard

/-- THE TIED CARD OF 'quarterdaylaw13.AnchorWords'. -/
def anchorWordsCard : Claim7 := { stood := { row := anchorWordsRow, standIns := [], harness := (true, "2508f865d50494aab8a0939bec65de36e20e76031e1540074f8fccee134e2030"), looks := false }, kinds := [], alts := [], laidByText := true, laidKinds := [.data, .widerDeep, .widerDeep, .widerDeep, .widerDeep, .widerDeep], laidTests := true, laidLooks := .later }
def AnchorWordsCardSaid : Prop := Claim7.holds Tryd.pinned (.plain (OpenSpec.ofChange anchorWordsSpec)) anchorWordsCard

/-- THE TIED CARD OF 'quarterdaylaw13.AnchorIso'. -/
def anchorIsoCard : Claim7 := { stood := { row := anchorIsoRow, standIns := [], harness := (true, "2508f865d50494aab8a0939bec65de36e20e76031e1540074f8fccee134e2030"), looks := false }, kinds := [], alts := [], laidByText := true, laidKinds := [.data, .widerDeep, .widerDeep, .widerDeep, .widerDeep, .widerDeep], laidTests := true, laidLooks := .later }
def AnchorIsoCardSaid : Prop := Claim7.holds Tryd.pinned (.plain (OpenSpec.ofChange anchorIsoSpec)) anchorIsoCard

/-- THE TIED CARD OF 'quarterdaylaw13.AnchorMonths'. -/
def anchorMonthsCard : Claim7 := { stood := { row := anchorMonthsRow, standIns := [], harness := (true, "2508f865d50494aab8a0939bec65de36e20e76031e1540074f8fccee134e2030"), looks := false }, kinds := [], alts := [], laidByText := true, laidKinds := [.data, .widerDeep, .widerDeep, .widerDeep, .widerDeep, .widerDeep], laidTests := true, laidLooks := .later }
def AnchorMonthsCardSaid : Prop := Claim7.holds Tryd.pinned (.plain (OpenSpec.ofChange anchorMonthsSpec)) anchorMonthsCard

/-- THE TIED CARD OF 'quarterdaylaw14.YearDoes'. -/
def yearDoesCard : Claim7 := { stood := { row := yearDoesRow, standIns := [], harness := (true, "2508f865d50494aab8a0939bec65de36e20e76031e1540074f8fccee134e2030"), looks := false }, kinds := [], alts := [], laidByText := true, laidKinds := [.data, .widerDeep, .widerDeep, .widerDeep, .widerDeep, .widerDeep], laidTests := true, laidLooks := .later }
def YearDoesCardSaid : Prop := Claim7.holds Tryd.pinned (.plain (OpenSpec.ofChange yearDoesSpec)) yearDoesCard

/-- THE TIED CARD OF 'quarterdaylaw14.YearIn'. -/
def yearInCard : Claim7 := { stood := { row := yearInRow, standIns := [], harness := (true, "2508f865d50494aab8a0939bec65de36e20e76031e1540074f8fccee134e2030"), looks := false }, kinds := [], alts := [], laidByText := true, laidKinds := [.data, .widerDeep, .widerDeep, .widerDeep, .widerDeep, .widerDeep], laidTests := true, laidLooks := .later }
def YearInCardSaid : Prop := Claim7.holds Tryd.pinned (.plain (OpenSpec.ofChange yearInSpec)) yearInCard

/-- THE TIED CARD OF 'quarterdaylaw14.YearNext'. -/
def yearNextCard : Claim7 := { stood := { row := yearNextRow, standIns := [], harness := (true, "2508f865d50494aab8a0939bec65de36e20e76031e1540074f8fccee134e2030"), looks := false }, kinds := [], alts := [], laidByText := true, laidKinds := [.data, .widerDeep, .widerDeep, .widerDeep, .widerDeep, .widerDeep], laidTests := true, laidLooks := .later }
def YearNextCardSaid : Prop := Claim7.holds Tryd.pinned (.plain (OpenSpec.ofChange yearNextSpec)) yearNextCard

/-- THE TIED CARD OF 'quarterdaylaw14.YearEdges'. -/
def yearEdgesCard : Claim7 := { stood := { row := yearEdgesRow, standIns := [], harness := (true, "2508f865d50494aab8a0939bec65de36e20e76031e1540074f8fccee134e2030"), looks := false }, kinds := [], alts := [], laidByText := true, laidKinds := [.data, .widerDeep, .widerDeep, .widerDeep, .widerDeep, .widerDeep], laidTests := true, laidLooks := .later }
def YearEdgesCardSaid : Prop := Claim7.holds Tryd.pinned (.plain (OpenSpec.ofChange yearEdgesSpec)) yearEdgesCard

/-- THE TIED CARD OF 'quarterdaylaw14.YearServed'. -/
def yearServedCard : Claim7 := { stood := { row := yearServedRow, standIns := [], harness := (true, "2508f865d50494aab8a0939bec65de36e20e76031e1540074f8fccee134e2030"), looks := false }, kinds := [], alts := [], laidByText := true, laidKinds := [.data, .widerDeep, .widerDeep, .widerDeep, .widerDeep, .widerDeep], laidTests := true, laidLooks := .later }
def YearServedCardSaid : Prop := Claim7.holds Tryd.pinned (.plain (OpenSpec.ofChange yearServedSpec)) yearServedCard

/-- THE TIED CARD OF 'quarterdaylaw14.YearSpans'. -/
def yearSpansCard : Claim7 := { stood := { row := yearSpansRow, standIns := [], harness := (true, "2508f865d50494aab8a0939bec65de36e20e76031e1540074f8fccee134e2030"), looks := false }, kinds := [], alts := [], laidByText := true, laidKinds := [.data, .widerDeep, .widerDeep, .widerDeep, .widerDeep, .widerDeep], laidTests := true, laidLooks := .later }
def YearSpansCardSaid : Prop := Claim7.holds Tryd.pinned (.plain (OpenSpec.ofChange yearSpansSpec)) yearSpansCard

/-- THE SECOND FORM's CARD OF 'quarterdaylaw13.AnchorDoes'. -/
def anchorDoesUptoCard : Claim7 := { stood := { row := anchorDoesUptoRow, standIns := [], harness := (true, "2508f865d50494aab8a0939bec65de36e20e76031e1540074f8fccee134e2030"), looks := false }, kinds := [], alts := [], laidByText := true, laidKinds := [.data, .widerDeep, .widerDeep, .widerDeep, .widerDeep, .widerDeep], laidTests := true, laidLooks := .later }
def AnchorDoesUptoCardSaid : Prop := Claim7.holds Tryd.pinned (.plain (OpenSpec.upto anchorDoesSpec)) anchorDoesUptoCard

/-- THE SECOND FORM's CARD OF 'quarterdaylaw13.AnchorNext'. -/
def anchorNextUptoCard : Claim7 := { stood := { row := anchorNextUptoRow, standIns := [], harness := (true, "2508f865d50494aab8a0939bec65de36e20e76031e1540074f8fccee134e2030"), looks := false }, kinds := [], alts := [], laidByText := true, laidKinds := [.data, .widerDeep, .widerDeep, .widerDeep, .widerDeep, .widerDeep], laidTests := true, laidLooks := .later }
def AnchorNextUptoCardSaid : Prop := Claim7.holds Tryd.pinned (.plain (OpenSpec.upto anchorNextSpec)) anchorNextUptoCard

/-- THE SECOND FORM's CARD OF 'quarterdaylaw13.AnchorWeeks'. -/
def anchorWeeksUptoCard : Claim7 := { stood := { row := anchorWeeksUptoRow, standIns := [], harness := (true, "2508f865d50494aab8a0939bec65de36e20e76031e1540074f8fccee134e2030"), looks := false }, kinds := [], alts := [], laidByText := true, laidKinds := [.data, .widerDeep, .widerDeep, .widerDeep, .widerDeep, .widerDeep], laidTests := true, laidLooks := .later }
def AnchorWeeksUptoCardSaid : Prop := Claim7.holds Tryd.pinned (.plain (OpenSpec.upto anchorWeeksSpec)) anchorWeeksUptoCard

/-- THE SECOND FORM's CARD OF 'quarterdaylaw13.AnchorWords'. -/
def anchorWordsUptoCard : Claim7 := { stood := { row := anchorWordsUptoRow, standIns := [], harness := (true, "2508f865d50494aab8a0939bec65de36e20e76031e1540074f8fccee134e2030"), looks := false }, kinds := [], alts := [], laidByText := true, laidKinds := [.data, .widerDeep, .widerDeep, .widerDeep, .widerDeep, .widerDeep], laidTests := true, laidLooks := .later }
def AnchorWordsUptoCardSaid : Prop := Claim7.holds Tryd.pinned (.plain (OpenSpec.upto anchorWordsSpec)) anchorWordsUptoCard

/-- THE SECOND FORM's CARD OF 'quarterdaylaw13.AnchorIso'. -/
def anchorIsoUptoCard : Claim7 := { stood := { row := anchorIsoUptoRow, standIns := [], harness := (true, "2508f865d50494aab8a0939bec65de36e20e76031e1540074f8fccee134e2030"), looks := false }, kinds := [], alts := [], laidByText := true, laidKinds := [.data, .widerDeep, .widerDeep, .widerDeep, .widerDeep, .widerDeep], laidTests := true, laidLooks := .later }
def AnchorIsoUptoCardSaid : Prop := Claim7.holds Tryd.pinned (.plain (OpenSpec.upto anchorIsoSpec)) anchorIsoUptoCard

/-- THE SECOND FORM's CARD OF 'quarterdaylaw13.AnchorMonths'. -/
def anchorMonthsUptoCard : Claim7 := { stood := { row := anchorMonthsUptoRow, standIns := [], harness := (true, "2508f865d50494aab8a0939bec65de36e20e76031e1540074f8fccee134e2030"), looks := false }, kinds := [], alts := [], laidByText := true, laidKinds := [.data, .widerDeep, .widerDeep, .widerDeep, .widerDeep, .widerDeep], laidTests := true, laidLooks := .later }
def AnchorMonthsUptoCardSaid : Prop := Claim7.holds Tryd.pinned (.plain (OpenSpec.upto anchorMonthsSpec)) anchorMonthsUptoCard

/-- THE SECOND FORM's CARD OF 'quarterdaylaw14.YearDoes'. -/
def yearDoesUptoCard : Claim7 := { stood := { row := yearDoesUptoRow, standIns := [], harness := (true, "2508f865d50494aab8a0939bec65de36e20e76031e1540074f8fccee134e2030"), looks := false }, kinds := [], alts := [], laidByText := true, laidKinds := [.data, .widerDeep, .widerDeep, .widerDeep, .widerDeep, .widerDeep], laidTests := true, laidLooks := .later }
def YearDoesUptoCardSaid : Prop := Claim7.holds Tryd.pinned (.plain (OpenSpec.upto yearDoesSpec)) yearDoesUptoCard

/-- THE SECOND FORM's CARD OF 'quarterdaylaw14.YearIn'. -/
def yearInUptoCard : Claim7 := { stood := { row := yearInUptoRow, standIns := [], harness := (true, "2508f865d50494aab8a0939bec65de36e20e76031e1540074f8fccee134e2030"), looks := false }, kinds := [], alts := [], laidByText := true, laidKinds := [.data, .widerDeep, .widerDeep, .widerDeep, .widerDeep, .widerDeep], laidTests := true, laidLooks := .later }
def YearInUptoCardSaid : Prop := Claim7.holds Tryd.pinned (.plain (OpenSpec.upto yearInSpec)) yearInUptoCard

/-- THE SECOND FORM's CARD OF 'quarterdaylaw14.YearNext'. -/
def yearNextUptoCard : Claim7 := { stood := { row := yearNextUptoRow, standIns := [], harness := (true, "2508f865d50494aab8a0939bec65de36e20e76031e1540074f8fccee134e2030"), looks := false }, kinds := [], alts := [], laidByText := true, laidKinds := [.data, .widerDeep, .widerDeep, .widerDeep, .widerDeep, .widerDeep], laidTests := true, laidLooks := .later }
def YearNextUptoCardSaid : Prop := Claim7.holds Tryd.pinned (.plain (OpenSpec.upto yearNextSpec)) yearNextUptoCard

/-- THE SECOND FORM's CARD OF 'quarterdaylaw14.YearEdges'. -/
def yearEdgesUptoCard : Claim7 := { stood := { row := yearEdgesUptoRow, standIns := [], harness := (true, "2508f865d50494aab8a0939bec65de36e20e76031e1540074f8fccee134e2030"), looks := false }, kinds := [], alts := [], laidByText := true, laidKinds := [.data, .widerDeep, .widerDeep, .widerDeep, .widerDeep, .widerDeep], laidTests := true, laidLooks := .later }
def YearEdgesUptoCardSaid : Prop := Claim7.holds Tryd.pinned (.plain (OpenSpec.upto yearEdgesSpec)) yearEdgesUptoCard

/-- THE SECOND FORM's CARD OF 'quarterdaylaw14.YearServed'. -/
def yearServedUptoCard : Claim7 := { stood := { row := yearServedUptoRow, standIns := [], harness := (true, "2508f865d50494aab8a0939bec65de36e20e76031e1540074f8fccee134e2030"), looks := false }, kinds := [], alts := [], laidByText := true, laidKinds := [.data, .widerDeep, .widerDeep, .widerDeep, .widerDeep, .widerDeep], laidTests := true, laidLooks := .later }
def YearServedUptoCardSaid : Prop := Claim7.holds Tryd.pinned (.plain (OpenSpec.upto yearServedSpec)) yearServedUptoCard

/-- THE SECOND FORM's CARD OF 'quarterdaylaw14.YearSpans'. -/
def yearSpansUptoCard : Claim7 := { stood := { row := yearSpansUptoRow, standIns := [], harness := (true, "2508f865d50494aab8a0939bec65de36e20e76031e1540074f8fccee134e2030"), looks := false }, kinds := [], alts := [], laidByText := true, laidKinds := [.data, .widerDeep, .widerDeep, .widerDeep, .widerDeep, .widerDeep], laidTests := true, laidLooks := .later }
def YearSpansUptoCardSaid : Prop := Claim7.holds Tryd.pinned (.plain (OpenSpec.upto yearSpansSpec)) yearSpansUptoCard
end Rows
end Go.Proofs.YtkpjkdeomoecjaaDoor
