/-
  DERIVED. GIVEN WITH THE SEED: THE CARDS: each row of YtodpmdmfdnbehaaDoorRows.lean that lists a variable, with what it lists TIED to the program's text (the seventh form; the later family's looks); each row that meets fmt, with fmt's text TOLD by the authors' own Lean function (tested against real Go, not proved from fmt's source: count such statements apart). THE CARD IS WHAT COUNTS. Prove the row's statement (the work); the ties are given (YtodpmdmfdnbehaaDoorTie.lean); close each card by the builder's one call (the guide's Derived/Test/ToyasCard.lean, 'card_holds'). Laid BY PROGRAM, IN A SANDBOX (cutbox-door.mjs). By AI agents, Wed Nov 11 2026. No macro, syntax, notation, axiom, sorry.
-/
import Derived.Test.YtodpmdmfdnbehaaDoorRows
import GoSem.ClaimSeven
namespace Go.Proofs.YtodpmdmfdnbehaaDoor
namespace Rows

/-- THE TIED CARD OF 'quarterdaylaw06.WeekDoes'. -/
def weekDoesCard : Claim7 := { stood := { row := weekDoesRow, standIns := [], harness := (true, "7d90c7e5b147beb39dee076824002d7eab09006535314e64f3fe126a605f0f74"), looks := false }, kinds := [], alts := [], laidByText := true, laidKinds := [.data], laidTests := true, laidLooks := .later }
def WeekDoesCardSaid : Prop := Claim7.holds Tryd.pinned (.plain (OpenSpec.ofChange weekDoesSpec)) weekDoesCard

/-- THE TIED CARD OF 'quarterdaylaw06.WeekEnds'. -/
def weekEndsCard : Claim7 := { stood := { row := weekEndsRow, standIns := [], harness := (true, "7d90c7e5b147beb39dee076824002d7eab09006535314e64f3fe126a605f0f74"), looks := false }, kinds := [], alts := [], laidByText := true, laidKinds := [.data], laidTests := true, laidLooks := .later }
def WeekEndsCardSaid : Prop := Claim7.holds Tryd.pinned (.plain (OpenSpec.ofChange weekEndsSpec)) weekEndsCard

/-- THE TIED CARD OF 'quarterdaylaw06.WeekBack'. -/
def weekBackCard : Claim7 := { stood := { row := weekBackRow, standIns := [], harness := (true, "7d90c7e5b147beb39dee076824002d7eab09006535314e64f3fe126a605f0f74"), looks := false }, kinds := [], alts := [], laidByText := true, laidKinds := [.data], laidTests := true, laidLooks := .later }
def WeekBackCardSaid : Prop := Claim7.holds Tryd.pinned (.plain (OpenSpec.ofChange weekBackSpec)) weekBackCard

/-- THE TIED CARD OF 'quarterdaylaw06.WeekNext'. -/
def weekNextCard : Claim7 := { stood := { row := weekNextRow, standIns := [], harness := (true, "7d90c7e5b147beb39dee076824002d7eab09006535314e64f3fe126a605f0f74"), looks := false }, kinds := [], alts := [], laidByText := true, laidKinds := [.data], laidTests := true, laidLooks := .later }
def WeekNextCardSaid : Prop := Claim7.holds Tryd.pinned (.plain (OpenSpec.ofChange weekNextSpec)) weekNextCard

/-- THE TIED CARD OF 'quarterdaylaw06.WeekFirst'. -/
def weekFirstCard : Claim7 := { stood := { row := weekFirstRow, standIns := [], harness := (true, "7d90c7e5b147beb39dee076824002d7eab09006535314e64f3fe126a605f0f74"), looks := false }, kinds := [], alts := [], laidByText := true, laidKinds := [.data], laidTests := true, laidLooks := .later }
def WeekFirstCardSaid : Prop := Claim7.holds Tryd.pinned (.plain (OpenSpec.ofChange weekFirstSpec)) weekFirstCard

/-- THE TIED CARD OF 'quarterdaylaw06.WeekLast'. -/
def weekLastCard : Claim7 := { stood := { row := weekLastRow, standIns := [], harness := (true, "7d90c7e5b147beb39dee076824002d7eab09006535314e64f3fe126a605f0f74"), looks := false }, kinds := [], alts := [], laidByText := true, laidKinds := [.data], laidTests := true, laidLooks := .later }
def WeekLastCardSaid : Prop := Claim7.holds Tryd.pinned (.plain (OpenSpec.ofChange weekLastSpec)) weekLastCard

/-- THE TIED CARD OF 'quarterdaylaw06.WeekYears'. -/
def weekYearsCard : Claim7 := { stood := { row := weekYearsRow, standIns := [], harness := (true, "7d90c7e5b147beb39dee076824002d7eab09006535314e64f3fe126a605f0f74"), looks := false }, kinds := [], alts := [], laidByText := true, laidKinds := [.data], laidTests := true, laidLooks := .later }
def WeekYearsCardSaid : Prop := Claim7.holds Tryd.pinned (.plain (OpenSpec.ofChange weekYearsSpec)) weekYearsCard

/-- THE TIED CARD OF 'quarterdaylaw07.StampDoes'. -/
def stampDoesCard : Claim7 := { stood := { row := stampDoesRow, standIns := [], harness := (true, "7d90c7e5b147beb39dee076824002d7eab09006535314e64f3fe126a605f0f74"), looks := false }, kinds := [], alts := [], laidByText := true, laidKinds := [.data, .data, .data, .data], laidTests := true, laidLooks := .later }
def StampDoesCardSaid : Prop := Claim7.holds Tryd.pinned (.plain (OpenSpec.ofChange stampDoesSpec)) stampDoesCard

/-- THE TIED CARD OF 'quarterdaylaw07.StampBack'. -/
def stampBackCard : Claim7 := { stood := { row := stampBackRow, standIns := [], harness := (true, "7d90c7e5b147beb39dee076824002d7eab09006535314e64f3fe126a605f0f74"), looks := false }, kinds := [], alts := [], laidByText := true, laidKinds := [.data, .data, .data, .data], laidTests := true, laidLooks := .later }
def StampBackCardSaid : Prop := Claim7.holds Tryd.pinned (.plain (OpenSpec.ofChange stampBackSpec)) stampBackCard

/-- THE TIED CARD OF 'quarterdaylaw07.StampOrder'. -/
def stampOrderCard : Claim7 := { stood := { row := stampOrderRow, standIns := [], harness := (true, "7d90c7e5b147beb39dee076824002d7eab09006535314e64f3fe126a605f0f74"), looks := false }, kinds := [], alts := [], laidByText := true, laidKinds := [.data, .data, .data, .data], laidTests := true, laidLooks := .later }
def StampOrderCardSaid : Prop := Claim7.holds Tryd.pinned (.plain (OpenSpec.ofChange stampOrderSpec)) stampOrderCard

/-- THE TIED CARD OF 'quarterdaylaw07.StampParts'. -/
def stampPartsCard : Claim7 := { stood := { row := stampPartsRow, standIns := [], harness := (true, "7d90c7e5b147beb39dee076824002d7eab09006535314e64f3fe126a605f0f74"), looks := false }, kinds := [], alts := [], laidByText := true, laidKinds := [.data, .data, .data, .data], laidTests := true, laidLooks := .later }
def StampPartsCardSaid : Prop := Claim7.holds Tryd.pinned (.plain (OpenSpec.ofChange stampPartsSpec)) stampPartsCard

/-- THE TIED CARD OF 'quarterdaylaw07.StampForm'. -/
def stampFormCard : Claim7 := { stood := { row := stampFormRow, standIns := [], harness := (true, "7d90c7e5b147beb39dee076824002d7eab09006535314e64f3fe126a605f0f74"), looks := false }, kinds := [], alts := [], laidByText := true, laidKinds := [.data, .data, .data, .data], laidTests := true, laidLooks := .later }
def StampFormCardSaid : Prop := Claim7.holds Tryd.pinned (.plain (OpenSpec.ofChange stampFormSpec)) stampFormCard

/-- THE SECOND FORM's CARD OF 'quarterdaylaw06.WeekDoes'. -/
def weekDoesUptoCard : Claim7 := { stood := { row := weekDoesUptoRow, standIns := [], harness := (true, "7d90c7e5b147beb39dee076824002d7eab09006535314e64f3fe126a605f0f74"), looks := false }, kinds := [], alts := [], laidByText := true, laidKinds := [.data], laidTests := true, laidLooks := .later }
def WeekDoesUptoCardSaid : Prop := Claim7.holds Tryd.pinned (.plain (OpenSpec.upto weekDoesSpec)) weekDoesUptoCard

/-- THE SECOND FORM's CARD OF 'quarterdaylaw06.WeekEnds'. -/
def weekEndsUptoCard : Claim7 := { stood := { row := weekEndsUptoRow, standIns := [], harness := (true, "7d90c7e5b147beb39dee076824002d7eab09006535314e64f3fe126a605f0f74"), looks := false }, kinds := [], alts := [], laidByText := true, laidKinds := [.data], laidTests := true, laidLooks := .later }
def WeekEndsUptoCardSaid : Prop := Claim7.holds Tryd.pinned (.plain (OpenSpec.upto weekEndsSpec)) weekEndsUptoCard

/-- THE SECOND FORM's CARD OF 'quarterdaylaw06.WeekBack'. -/
def weekBackUptoCard : Claim7 := { stood := { row := weekBackUptoRow, standIns := [], harness := (true, "7d90c7e5b147beb39dee076824002d7eab09006535314e64f3fe126a605f0f74"), looks := false }, kinds := [], alts := [], laidByText := true, laidKinds := [.data], laidTests := true, laidLooks := .later }
def WeekBackUptoCardSaid : Prop := Claim7.holds Tryd.pinned (.plain (OpenSpec.upto weekBackSpec)) weekBackUptoCard

/-- THE SECOND FORM's CARD OF 'quarterdaylaw06.WeekNext'. -/
def weekNextUptoCard : Claim7 := { stood := { row := weekNextUptoRow, standIns := [], harness := (true, "7d90c7e5b147beb39dee076824002d7eab09006535314e64f3fe126a605f0f74"), looks := false }, kinds := [], alts := [], laidByText := true, laidKinds := [.data], laidTests := true, laidLooks := .later }
def WeekNextUptoCardSaid : Prop := Claim7.holds Tryd.pinned (.plain (OpenSpec.upto weekNextSpec)) weekNextUptoCard

/-- THE SECOND FORM's CARD OF 'quarterdaylaw06.WeekFirst'. -/
def weekFirstUptoCard : Claim7 := { stood := { row := weekFirstUptoRow, standIns := [], harness := (true, "7d90c7e5b147beb39dee076824002d7eab09006535314e64f3fe126a605f0f74"), looks := false }, kinds := [], alts := [], laidByText := true, laidKinds := [.data], laidTests := true, laidLooks := .later }
def WeekFirstUptoCardSaid : Prop := Claim7.holds Tryd.pinned (.plain (OpenSpec.upto weekFirstSpec)) weekFirstUptoCard

/-- THE SECOND FORM's CARD OF 'quarterdaylaw06.WeekLast'. -/
def weekLastUptoCard : Claim7 := { stood := { row := weekLastUptoRow, standIns := [], harness := (true, "7d90c7e5b147beb39dee076824002d7eab09006535314e64f3fe126a605f0f74"), looks := false }, kinds := [], alts := [], laidByText := true, laidKinds := [.data], laidTests := true, laidLooks := .later }
def WeekLastUptoCardSaid : Prop := Claim7.holds Tryd.pinned (.plain (OpenSpec.upto weekLastSpec)) weekLastUptoCard

/-- THE SECOND FORM's CARD OF 'quarterdaylaw06.WeekYears'. -/
def weekYearsUptoCard : Claim7 := { stood := { row := weekYearsUptoRow, standIns := [], harness := (true, "7d90c7e5b147beb39dee076824002d7eab09006535314e64f3fe126a605f0f74"), looks := false }, kinds := [], alts := [], laidByText := true, laidKinds := [.data], laidTests := true, laidLooks := .later }
def WeekYearsUptoCardSaid : Prop := Claim7.holds Tryd.pinned (.plain (OpenSpec.upto weekYearsSpec)) weekYearsUptoCard

/-- THE SECOND FORM's CARD OF 'quarterdaylaw07.StampDoes'. -/
def stampDoesUptoCard : Claim7 := { stood := { row := stampDoesUptoRow, standIns := [], harness := (true, "7d90c7e5b147beb39dee076824002d7eab09006535314e64f3fe126a605f0f74"), looks := false }, kinds := [], alts := [], laidByText := true, laidKinds := [.data, .data, .data, .data], laidTests := true, laidLooks := .later }
def StampDoesUptoCardSaid : Prop := Claim7.holds Tryd.pinned (.plain (OpenSpec.upto stampDoesSpec)) stampDoesUptoCard

/-- THE SECOND FORM's CARD OF 'quarterdaylaw07.StampBack'. -/
def stampBackUptoCard : Claim7 := { stood := { row := stampBackUptoRow, standIns := [], harness := (true, "7d90c7e5b147beb39dee076824002d7eab09006535314e64f3fe126a605f0f74"), looks := false }, kinds := [], alts := [], laidByText := true, laidKinds := [.data, .data, .data, .data], laidTests := true, laidLooks := .later }
def StampBackUptoCardSaid : Prop := Claim7.holds Tryd.pinned (.plain (OpenSpec.upto stampBackSpec)) stampBackUptoCard

/-- THE SECOND FORM's CARD OF 'quarterdaylaw07.StampOrder'. -/
def stampOrderUptoCard : Claim7 := { stood := { row := stampOrderUptoRow, standIns := [], harness := (true, "7d90c7e5b147beb39dee076824002d7eab09006535314e64f3fe126a605f0f74"), looks := false }, kinds := [], alts := [], laidByText := true, laidKinds := [.data, .data, .data, .data], laidTests := true, laidLooks := .later }
def StampOrderUptoCardSaid : Prop := Claim7.holds Tryd.pinned (.plain (OpenSpec.upto stampOrderSpec)) stampOrderUptoCard

/-- THE SECOND FORM's CARD OF 'quarterdaylaw07.StampParts'. -/
def stampPartsUptoCard : Claim7 := { stood := { row := stampPartsUptoRow, standIns := [], harness := (true, "7d90c7e5b147beb39dee076824002d7eab09006535314e64f3fe126a605f0f74"), looks := false }, kinds := [], alts := [], laidByText := true, laidKinds := [.data, .data, .data, .data], laidTests := true, laidLooks := .later }
def StampPartsUptoCardSaid : Prop := Claim7.holds Tryd.pinned (.plain (OpenSpec.upto stampPartsSpec)) stampPartsUptoCard

/-- THE SECOND FORM's CARD OF 'quarterdaylaw07.StampForm'. -/
def stampFormUptoCard : Claim7 := { stood := { row := stampFormUptoRow, standIns := [], harness := (true, "7d90c7e5b147beb39dee076824002d7eab09006535314e64f3fe126a605f0f74"), looks := false }, kinds := [], alts := [], laidByText := true, laidKinds := [.data, .data, .data, .data], laidTests := true, laidLooks := .later }
def StampFormUptoCardSaid : Prop := Claim7.holds Tryd.pinned (.plain (OpenSpec.upto stampFormSpec)) stampFormUptoCard
end Rows
end Go.Proofs.YtodpmdmfdnbehaaDoor
