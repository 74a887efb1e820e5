/-
  DERIVED. GIVEN WITH THE SEED: THE CARDS: each row of YtmagdlcikcgelaaDoorRows.lean that lists a variable, with what it lists TIED to the program's text (the seventh form; the later family's looks); each row that meets fmt, with fmt's text TOLD by the authors' own Lean function (tested against real Go, not proved from fmt's source: count such statements apart). THE CARD IS WHAT COUNTS. Prove the row's statement (the work); the ties are given (YtmagdlcikcgelaaDoorTie.lean); close each card by the builder's one call (the guide's Derived/Test/ToyasCard.lean, 'card_holds'). Laid BY PROGRAM, IN A SANDBOX (cutbox-door.mjs). By AI agents, Wed Nov 11 2026. No macro, syntax, notation, axiom, sorry.
-/
import Derived.Test.YtmagdlcikcgelaaDoorRows
import GoSem.ClaimSeven
namespace Go.Proofs.YtmagdlcikcgelaaDoor
namespace Rows

/-- THE TIED CARD OF 'quarterdaylaw17.FindBack'. -/
def findBackCard : Claim7 := { stood := { row := findBackRow, standIns := [], harness := (true, "7c4ab1762f305e53b1e2bf364ab1f1065be0f073d86c41ed6ffef13141488df2"), looks := false }, kinds := [], alts := [], laidByText := true, laidKinds := [.data, .widerDeep, .widerDeep, .widerDeep, .widerDeep, .widerDeep], laidTests := true, laidLooks := .later }
def FindBackCardSaid : Prop := Claim7.holds Tryd.pinned (.plain (OpenSpec.ofChange findBackSpec)) findBackCard

/-- THE TIED CARD OF 'quarterdaylaw17.FindNext'. -/
def findNextCard : Claim7 := { stood := { row := findNextRow, standIns := [], harness := (true, "7c4ab1762f305e53b1e2bf364ab1f1065be0f073d86c41ed6ffef13141488df2"), looks := false }, kinds := [], alts := [], laidByText := true, laidKinds := [.data, .widerDeep, .widerDeep, .widerDeep, .widerDeep, .widerDeep], laidTests := true, laidLooks := .later }
def FindNextCardSaid : Prop := Claim7.holds Tryd.pinned (.plain (OpenSpec.ofChange findNextSpec)) findNextCard

/-- THE TIED CARD OF 'quarterdaylaw17.FindLevels'. -/
def findLevelsCard : Claim7 := { stood := { row := findLevelsRow, standIns := [], harness := (true, "7c4ab1762f305e53b1e2bf364ab1f1065be0f073d86c41ed6ffef13141488df2"), looks := false }, kinds := [], alts := [], laidByText := true, laidKinds := [.data, .widerDeep, .widerDeep, .widerDeep, .widerDeep, .widerDeep], laidTests := true, laidLooks := .later }
def FindLevelsCardSaid : Prop := Claim7.holds Tryd.pinned (.plain (OpenSpec.ofChange findLevelsSpec)) findLevelsCard

/-- THE TIED CARD OF 'quarterdaylaw17.FindAll'. -/
def findAllCard : Claim7 := { stood := { row := findAllRow, standIns := [], harness := (true, "7c4ab1762f305e53b1e2bf364ab1f1065be0f073d86c41ed6ffef13141488df2"), looks := false }, kinds := [], alts := [], laidByText := true, laidKinds := [.data, .widerDeep, .widerDeep, .widerDeep, .widerDeep, .widerDeep], laidTests := true, laidLooks := .later }
def FindAllCardSaid : Prop := Claim7.holds Tryd.pinned (.plain (OpenSpec.ofChange findAllSpec)) findAllCard

/-- THE TIED CARD OF 'quarterdaylaw17.FindMeets'. -/
def findMeetsCard : Claim7 := { stood := { row := findMeetsRow, standIns := [], harness := (true, "7c4ab1762f305e53b1e2bf364ab1f1065be0f073d86c41ed6ffef13141488df2"), looks := false }, kinds := [], alts := [], laidByText := true, laidKinds := [.data, .widerDeep, .widerDeep, .widerDeep, .widerDeep, .widerDeep], laidTests := true, laidLooks := .later }
def FindMeetsCardSaid : Prop := Claim7.holds Tryd.pinned (.plain (OpenSpec.ofChange findMeetsSpec)) findMeetsCard

/-- THE TIED CARD OF 'quarterdaylaw19.CompSame'. -/
def compSameCard : Claim7 := { stood := { row := compSameRow, standIns := [], harness := (true, "7c4ab1762f305e53b1e2bf364ab1f1065be0f073d86c41ed6ffef13141488df2"), looks := false }, kinds := [], alts := [], laidByText := true, laidKinds := [.data, .widerDeep, .widerDeep, .widerDeep, .widerDeep, .widerDeep], laidTests := true, laidLooks := .later }
def CompSameCardSaid : Prop := Claim7.holds Tryd.pinned (.plain (OpenSpec.ofChange compSameSpec)) compSameCard

/-- THE TIED CARD OF 'quarterdaylaw19.CompMonths'. -/
def compMonthsCard : Claim7 := { stood := { row := compMonthsRow, standIns := [], harness := (true, "7c4ab1762f305e53b1e2bf364ab1f1065be0f073d86c41ed6ffef13141488df2"), looks := false }, kinds := [], alts := [], laidByText := true, laidKinds := [.data, .widerDeep, .widerDeep, .widerDeep, .widerDeep, .widerDeep], laidTests := true, laidLooks := .later }
def CompMonthsCardSaid : Prop := Claim7.holds Tryd.pinned (.plain (OpenSpec.ofChange compMonthsSpec)) compMonthsCard

/-- THE TIED CARD OF 'quarterdaylaw19.CompKeeps'. -/
def compKeepsCard : Claim7 := { stood := { row := compKeepsRow, standIns := [], harness := (true, "7c4ab1762f305e53b1e2bf364ab1f1065be0f073d86c41ed6ffef13141488df2"), looks := false }, kinds := [], alts := [], laidByText := true, laidKinds := [.data, .widerDeep, .widerDeep, .widerDeep, .widerDeep, .widerDeep], laidTests := true, laidLooks := .later }
def CompKeepsCardSaid : Prop := Claim7.holds Tryd.pinned (.plain (OpenSpec.ofChange compKeepsSpec)) compKeepsCard

/-- THE TIED CARD OF 'quarterdaylaw19.CompRises'. -/
def compRisesCard : Claim7 := { stood := { row := compRisesRow, standIns := [], harness := (true, "7c4ab1762f305e53b1e2bf364ab1f1065be0f073d86c41ed6ffef13141488df2"), looks := false }, kinds := [], alts := [], laidByText := true, laidKinds := [.data, .widerDeep, .widerDeep, .widerDeep, .widerDeep, .widerDeep], laidTests := true, laidLooks := .later }
def CompRisesCardSaid : Prop := Claim7.holds Tryd.pinned (.plain (OpenSpec.ofChange compRisesSpec)) compRisesCard

/-- THE TIED CARD OF 'quarterdaylaw19.CompBack'. -/
def compBackCard : Claim7 := { stood := { row := compBackRow, standIns := [], harness := (true, "7c4ab1762f305e53b1e2bf364ab1f1065be0f073d86c41ed6ffef13141488df2"), looks := false }, kinds := [], alts := [], laidByText := true, laidKinds := [.data, .widerDeep, .widerDeep, .widerDeep, .widerDeep, .widerDeep], laidTests := true, laidLooks := .later }
def CompBackCardSaid : Prop := Claim7.holds Tryd.pinned (.plain (OpenSpec.ofChange compBackSpec)) compBackCard

/-- THE TIED CARD OF 'quarterdaylaw19.CompEnds'. -/
def compEndsCard : Claim7 := { stood := { row := compEndsRow, standIns := [], harness := (true, "7c4ab1762f305e53b1e2bf364ab1f1065be0f073d86c41ed6ffef13141488df2"), looks := false }, kinds := [], alts := [], laidByText := true, laidKinds := [.data, .widerDeep, .widerDeep, .widerDeep, .widerDeep, .widerDeep], laidTests := true, laidLooks := .later }
def CompEndsCardSaid : Prop := Claim7.holds Tryd.pinned (.plain (OpenSpec.ofChange compEndsSpec)) compEndsCard

/-- THE SECOND FORM's CARD OF 'quarterdaylaw17.FindBack'. -/
def findBackUptoCard : Claim7 := { stood := { row := findBackUptoRow, standIns := [], harness := (true, "7c4ab1762f305e53b1e2bf364ab1f1065be0f073d86c41ed6ffef13141488df2"), looks := false }, kinds := [], alts := [], laidByText := true, laidKinds := [.data, .widerDeep, .widerDeep, .widerDeep, .widerDeep, .widerDeep], laidTests := true, laidLooks := .later }
def FindBackUptoCardSaid : Prop := Claim7.holds Tryd.pinned (.plain (OpenSpec.upto findBackSpec)) findBackUptoCard

/-- THE SECOND FORM's CARD OF 'quarterdaylaw17.FindNext'. -/
def findNextUptoCard : Claim7 := { stood := { row := findNextUptoRow, standIns := [], harness := (true, "7c4ab1762f305e53b1e2bf364ab1f1065be0f073d86c41ed6ffef13141488df2"), looks := false }, kinds := [], alts := [], laidByText := true, laidKinds := [.data, .widerDeep, .widerDeep, .widerDeep, .widerDeep, .widerDeep], laidTests := true, laidLooks := .later }
def FindNextUptoCardSaid : Prop := Claim7.holds Tryd.pinned (.plain (OpenSpec.upto findNextSpec)) findNextUptoCard

/-- THE SECOND FORM's CARD OF 'quarterdaylaw17.FindLevels'. -/
def findLevelsUptoCard : Claim7 := { stood := { row := findLevelsUptoRow, standIns := [], harness := (true, "7c4ab1762f305e53b1e2bf364ab1f1065be0f073d86c41ed6ffef13141488df2"), looks := false }, kinds := [], alts := [], laidByText := true, laidKinds := [.data, .widerDeep, .widerDeep, .widerDeep, .widerDeep, .widerDeep], laidTests := true, laidLooks := .later }
def FindLevelsUptoCardSaid : Prop := Claim7.holds Tryd.pinned (.plain (OpenSpec.upto findLevelsSpec)) findLevelsUptoCard

/-- THE SECOND FORM's CARD OF 'quarterdaylaw17.FindAll'. -/
def findAllUptoCard : Claim7 := { stood := { row := findAllUptoRow, standIns := [], harness := (true, "7c4ab1762f305e53b1e2bf364ab1f1065be0f073d86c41ed6ffef13141488df2"), looks := false }, kinds := [], alts := [], laidByText := true, laidKinds := [.data, .widerDeep, .widerDeep, .widerDeep, .widerDeep, .widerDeep], laidTests := true, laidLooks := .later }
def FindAllUptoCardSaid : Prop := Claim7.holds Tryd.pinned (.plain (OpenSpec.upto findAllSpec)) findAllUptoCard

/-- THE SECOND FORM's CARD OF 'quarterdaylaw17.FindMeets'. -/
def findMeetsUptoCard : Claim7 := { stood := { row := findMeetsUptoRow, standIns := [], harness := (true, "7c4ab1762f305e53b1e2bf364ab1f1065be0f073d86c41ed6ffef13141488df2"), looks := false }, kinds := [], alts := [], laidByText := true, laidKinds := [.data, .widerDeep, .widerDeep, .widerDeep, .widerDeep, .widerDeep], laidTests := true, laidLooks := .later }
def FindMeetsUptoCardSaid : Prop := Claim7.holds Tryd.pinned (.plain (OpenSpec.upto findMeetsSpec)) findMeetsUptoCard

/-- THE SECOND FORM's CARD OF 'quarterdaylaw19.CompSame'. -/
def compSameUptoCard : Claim7 := { stood := { row := compSameUptoRow, standIns := [], harness := (true, "7c4ab1762f305e53b1e2bf364ab1f1065be0f073d86c41ed6ffef13141488df2"), looks := false }, kinds := [], alts := [], laidByText := true, laidKinds := [.data, .widerDeep, .widerDeep, .widerDeep, .widerDeep, .widerDeep], laidTests := true, laidLooks := .later }
def CompSameUptoCardSaid : Prop := Claim7.holds Tryd.pinned (.plain (OpenSpec.upto compSameSpec)) compSameUptoCard

/-- THE SECOND FORM's CARD OF 'quarterdaylaw19.CompMonths'. -/
def compMonthsUptoCard : Claim7 := { stood := { row := compMonthsUptoRow, standIns := [], harness := (true, "7c4ab1762f305e53b1e2bf364ab1f1065be0f073d86c41ed6ffef13141488df2"), looks := false }, kinds := [], alts := [], laidByText := true, laidKinds := [.data, .widerDeep, .widerDeep, .widerDeep, .widerDeep, .widerDeep], laidTests := true, laidLooks := .later }
def CompMonthsUptoCardSaid : Prop := Claim7.holds Tryd.pinned (.plain (OpenSpec.upto compMonthsSpec)) compMonthsUptoCard

/-- THE SECOND FORM's CARD OF 'quarterdaylaw19.CompKeeps'. -/
def compKeepsUptoCard : Claim7 := { stood := { row := compKeepsUptoRow, standIns := [], harness := (true, "7c4ab1762f305e53b1e2bf364ab1f1065be0f073d86c41ed6ffef13141488df2"), looks := false }, kinds := [], alts := [], laidByText := true, laidKinds := [.data, .widerDeep, .widerDeep, .widerDeep, .widerDeep, .widerDeep], laidTests := true, laidLooks := .later }
def CompKeepsUptoCardSaid : Prop := Claim7.holds Tryd.pinned (.plain (OpenSpec.upto compKeepsSpec)) compKeepsUptoCard

/-- THE SECOND FORM's CARD OF 'quarterdaylaw19.CompRises'. -/
def compRisesUptoCard : Claim7 := { stood := { row := compRisesUptoRow, standIns := [], harness := (true, "7c4ab1762f305e53b1e2bf364ab1f1065be0f073d86c41ed6ffef13141488df2"), looks := false }, kinds := [], alts := [], laidByText := true, laidKinds := [.data, .widerDeep, .widerDeep, .widerDeep, .widerDeep, .widerDeep], laidTests := true, laidLooks := .later }
def CompRisesUptoCardSaid : Prop := Claim7.holds Tryd.pinned (.plain (OpenSpec.upto compRisesSpec)) compRisesUptoCard

/-- THE SECOND FORM's CARD OF 'quarterdaylaw19.CompBack'. -/
def compBackUptoCard : Claim7 := { stood := { row := compBackUptoRow, standIns := [], harness := (true, "7c4ab1762f305e53b1e2bf364ab1f1065be0f073d86c41ed6ffef13141488df2"), looks := false }, kinds := [], alts := [], laidByText := true, laidKinds := [.data, .widerDeep, .widerDeep, .widerDeep, .widerDeep, .widerDeep], laidTests := true, laidLooks := .later }
def CompBackUptoCardSaid : Prop := Claim7.holds Tryd.pinned (.plain (OpenSpec.upto compBackSpec)) compBackUptoCard

/-- THE SECOND FORM's CARD OF 'quarterdaylaw19.CompEnds'. -/
def compEndsUptoCard : Claim7 := { stood := { row := compEndsUptoRow, standIns := [], harness := (true, "7c4ab1762f305e53b1e2bf364ab1f1065be0f073d86c41ed6ffef13141488df2"), looks := false }, kinds := [], alts := [], laidByText := true, laidKinds := [.data, .widerDeep, .widerDeep, .widerDeep, .widerDeep, .widerDeep], laidTests := true, laidLooks := .later }
def CompEndsUptoCardSaid : Prop := Claim7.holds Tryd.pinned (.plain (OpenSpec.upto compEndsSpec)) compEndsUptoCard
end Rows
end Go.Proofs.YtmagdlcikcgelaaDoor
