/-
  DERIVED. GIVEN WITH THE SEED: THE CARDS: each row of YtkfogmaogfgcgaaGreatDoorRows.lean that lists a variable, with what it lists TIED to the program's text (the seventh form; the later family's looks); each row that meets fmt, with fmt's text TOLD by the authors' own Lean function (tested against real Go, not proved from fmt's source: count such statements apart). THE CARD IS WHAT COUNTS. Prove the row's statement (the work); the ties are given (YtkfogmaogfgcgaaGreatDoorTie.lean); close each card by the builder's one call (the guide's Derived/Test/ToyasCard.lean, 'card_holds'). Laid BY PROGRAM, IN A SANDBOX (cutbox-door.mjs). By AI agents, Wed Nov 11 2026. No macro, syntax, notation, axiom, sorry.
-/
import Derived.Test.YtkfogmaogfgcgaaGreatDoorRows
import GoSem.ClaimSeven
namespace Go.Proofs.YtkfogmaogfgcgaaGreatDoor
namespace Rows

/-- THE TIED CARD OF 'quarterdaylaw17.FindDoes'. -/
def findDoesCard : Claim7 := { stood := { row := findDoesRow, standIns := [], harness := (true, "93b06aeb59214c4a38dcfcdffbbfbbce65d0c3cf80a4247c0274f3842aec3270"), looks := false }, kinds := [], alts := [], laidByText := true, laidKinds := [.data, .widerDeep, .widerDeep, .widerDeep, .widerDeep, .widerDeep], laidTests := true, laidLooks := .later }
def FindDoesCardSaid : Prop := Claim7.holds Tryz.pinned (.plain (OpenSpec.ofChange findDoesSpec)) findDoesCard

/-- THE TIED CARD OF 'quarterdaylaw17.FindLists'. -/
def findListsCard : Claim7 := { stood := { row := findListsRow, standIns := [], harness := (true, "93b06aeb59214c4a38dcfcdffbbfbbce65d0c3cf80a4247c0274f3842aec3270"), looks := false }, kinds := [], alts := [], laidByText := true, laidKinds := [.data, .widerDeep, .widerDeep, .widerDeep, .widerDeep, .widerDeep], laidTests := true, laidLooks := .later }
def FindListsCardSaid : Prop := Claim7.holds Tryz.pinned (.plain (OpenSpec.ofChange findListsSpec)) findListsCard

/-- THE TIED CARD OF 'quarterdaylaw19.CompDoes'. -/
def compDoesCard : Claim7 := { stood := { row := compDoesRow, standIns := [], harness := (true, "93b06aeb59214c4a38dcfcdffbbfbbce65d0c3cf80a4247c0274f3842aec3270"), looks := false }, kinds := [], alts := [], laidByText := true, laidKinds := [.data, .widerDeep, .widerDeep, .widerDeep, .widerDeep, .widerDeep], laidTests := true, laidLooks := .later }
def CompDoesCardSaid : Prop := Claim7.holds Tryz.pinned (.plain (OpenSpec.ofChange compDoesSpec)) compDoesCard

/-- THE TIED CARD OF 'quarterdaylaw20.TwinDoes'. -/
def twinDoesCard : Claim7 := { stood := { row := twinDoesRow, standIns := [], harness := (true, "93b06aeb59214c4a38dcfcdffbbfbbce65d0c3cf80a4247c0274f3842aec3270"), looks := false }, kinds := [], alts := [], laidByText := true, laidKinds := [.data, .widerDeep, .widerDeep, .widerDeep, .widerDeep, .widerDeep], laidTests := true, laidLooks := .later }
def TwinDoesCardSaid : Prop := Claim7.holds Tryz.pinned (.plain (OpenSpec.ofChange twinDoesSpec)) twinDoesCard

/-- THE TIED CARD OF 'quarterdaylaw21.RateDoes'. -/
def rateDoesCard : Claim7 := { stood := { row := rateDoesRow, standIns := [], harness := (true, "93b06aeb59214c4a38dcfcdffbbfbbce65d0c3cf80a4247c0274f3842aec3270"), looks := false }, kinds := [], alts := [], laidByText := true, laidKinds := [.data, .widerDeep, .widerDeep, .widerDeep, .widerDeep, .widerDeep], laidTests := true, laidLooks := .later }
def RateDoesCardSaid : Prop := Claim7.holds Tryz.pinned (.plain (OpenSpec.ofChange rateDoesSpec)) rateDoesCard

/-- THE SECOND FORM's CARD OF 'quarterdaylaw17.FindDoes'. -/
def findDoesUptoCard : Claim7 := { stood := { row := findDoesUptoRow, standIns := [], harness := (true, "93b06aeb59214c4a38dcfcdffbbfbbce65d0c3cf80a4247c0274f3842aec3270"), looks := false }, kinds := [], alts := [], laidByText := true, laidKinds := [.data, .widerDeep, .widerDeep, .widerDeep, .widerDeep, .widerDeep], laidTests := true, laidLooks := .later }
def FindDoesUptoCardSaid : Prop := Claim7.holds Tryz.pinned (.plain (OpenSpec.upto findDoesSpec)) findDoesUptoCard

/-- THE SECOND FORM's CARD OF 'quarterdaylaw17.FindLists'. -/
def findListsUptoCard : Claim7 := { stood := { row := findListsUptoRow, standIns := [], harness := (true, "93b06aeb59214c4a38dcfcdffbbfbbce65d0c3cf80a4247c0274f3842aec3270"), looks := false }, kinds := [], alts := [], laidByText := true, laidKinds := [.data, .widerDeep, .widerDeep, .widerDeep, .widerDeep, .widerDeep], laidTests := true, laidLooks := .later }
def FindListsUptoCardSaid : Prop := Claim7.holds Tryz.pinned (.plain (OpenSpec.upto findListsSpec)) findListsUptoCard

/-- THE SECOND FORM's CARD OF 'quarterdaylaw19.CompDoes'. -/
def compDoesUptoCard : Claim7 := { stood := { row := compDoesUptoRow, standIns := [], harness := (true, "93b06aeb59214c4a38dcfcdffbbfbbce65d0c3cf80a4247c0274f3842aec3270"), looks := false }, kinds := [], alts := [], laidByText := true, laidKinds := [.data, .widerDeep, .widerDeep, .widerDeep, .widerDeep, .widerDeep], laidTests := true, laidLooks := .later }
def CompDoesUptoCardSaid : Prop := Claim7.holds Tryz.pinned (.plain (OpenSpec.upto compDoesSpec)) compDoesUptoCard

/-- THE SECOND FORM's CARD OF 'quarterdaylaw20.TwinDoes'. -/
def twinDoesUptoCard : Claim7 := { stood := { row := twinDoesUptoRow, standIns := [], harness := (true, "93b06aeb59214c4a38dcfcdffbbfbbce65d0c3cf80a4247c0274f3842aec3270"), looks := false }, kinds := [], alts := [], laidByText := true, laidKinds := [.data, .widerDeep, .widerDeep, .widerDeep, .widerDeep, .widerDeep], laidTests := true, laidLooks := .later }
def TwinDoesUptoCardSaid : Prop := Claim7.holds Tryz.pinned (.plain (OpenSpec.upto twinDoesSpec)) twinDoesUptoCard

/-- THE SECOND FORM's CARD OF 'quarterdaylaw21.RateDoes'. -/
def rateDoesUptoCard : Claim7 := { stood := { row := rateDoesUptoRow, standIns := [], harness := (true, "93b06aeb59214c4a38dcfcdffbbfbbce65d0c3cf80a4247c0274f3842aec3270"), looks := false }, kinds := [], alts := [], laidByText := true, laidKinds := [.data, .widerDeep, .widerDeep, .widerDeep, .widerDeep, .widerDeep], laidTests := true, laidLooks := .later }
def RateDoesUptoCardSaid : Prop := Claim7.holds Tryz.pinned (.plain (OpenSpec.upto rateDoesSpec)) rateDoesUptoCard
end Rows
end Go.Proofs.YtkfogmaogfgcgaaGreatDoor
