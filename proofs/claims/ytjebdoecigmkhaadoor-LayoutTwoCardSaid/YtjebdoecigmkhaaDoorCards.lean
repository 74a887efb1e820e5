/-
  DERIVED. GIVEN WITH THE SEED: THE CARDS: each row of YtjebdoecigmkhaaDoorRows.lean that lists a variable, with what it lists TIED to the program's text (the seventh form; the later family's looks); each row that meets fmt, with fmt's text TOLD by the authors' own Lean function (tested against real Go, not proved from fmt's source: count such statements apart). THE CARD IS WHAT COUNTS. Prove the row's statement (the work); the ties are given (YtjebdoecigmkhaaDoorTie.lean); close each card by the builder's one call (the guide's Derived/Test/ToyasCard.lean, 'card_holds'). Laid BY PROGRAM, IN A SANDBOX (cutbox-door.mjs). By AI agents, Wed Nov 11 2026. No macro, syntax, notation, axiom, sorry.
-/
import Derived.Test.YtjebdoecigmkhaaDoorRows
import GoSem.ClaimSeven
namespace Go.Proofs.YtjebdoecigmkhaaDoor
namespace Rows

/-- THE TIED CARD OF 'quarterdaylaw09.TreeTokens'. -/
def treeTokensCard : Claim7 := { stood := { row := treeTokensRow, standIns := [], harness := (true, "54968fde4ec52fed2af0d4a221dba7c3b22f328b0c3837a0bd8b7074238da23a"), looks := true }, kinds := [], alts := [], laidByText := true, laidKinds := [.data, .data, .data, .sentinel, .sentinel], laidTests := true, laidLooks := .later }
def TreeTokensCardSaid : Prop := Claim7.holds Tryd.pinned (.plain (OpenSpec.ofChange treeTokensSpec)) treeTokensCard

/-- THE TIED CARD OF 'quarterdaylaw09.TreeRight'. -/
def treeRightCard : Claim7 := { stood := { row := treeRightRow, standIns := [], harness := (true, "54968fde4ec52fed2af0d4a221dba7c3b22f328b0c3837a0bd8b7074238da23a"), looks := true }, kinds := [], alts := [], laidByText := true, laidKinds := [.data, .data, .data, .sentinel, .sentinel], laidTests := true, laidLooks := .later }
def TreeRightCardSaid : Prop := Claim7.holds Tryd.pinned (.plain (OpenSpec.ofChange treeRightSpec)) treeRightCard

/-- THE TIED CARD OF 'quarterdaylaw09.TreeTwo'. -/
def treeTwoCard : Claim7 := { stood := { row := treeTwoRow, standIns := [], harness := (true, "54968fde4ec52fed2af0d4a221dba7c3b22f328b0c3837a0bd8b7074238da23a"), looks := true }, kinds := [], alts := [], laidByText := true, laidKinds := [.data, .data, .data, .sentinel, .sentinel], laidTests := true, laidLooks := .later }
def TreeTwoCardSaid : Prop := Claim7.holds Tryd.pinned (.plain (OpenSpec.ofChange treeTwoSpec)) treeTwoCard

/-- THE TIED CARD OF 'quarterdaylaw09.TreeBlock'. -/
def treeBlockCard : Claim7 := { stood := { row := treeBlockRow, standIns := [], harness := (true, "54968fde4ec52fed2af0d4a221dba7c3b22f328b0c3837a0bd8b7074238da23a"), looks := true }, kinds := [], alts := [], laidByText := true, laidKinds := [.data, .data, .data, .sentinel, .sentinel], laidTests := true, laidLooks := .later }
def TreeBlockCardSaid : Prop := Claim7.holds Tryd.pinned (.plain (OpenSpec.ofChange treeBlockSpec)) treeBlockCard

/-- THE TIED CARD OF 'quarterdaylaw09.TreeOpen'. -/
def treeOpenCard : Claim7 := { stood := { row := treeOpenRow, standIns := [], harness := (true, "54968fde4ec52fed2af0d4a221dba7c3b22f328b0c3837a0bd8b7074238da23a"), looks := true }, kinds := [], alts := [], laidByText := true, laidKinds := [.data, .data, .data, .sentinel, .sentinel], laidTests := true, laidLooks := .later }
def TreeOpenCardSaid : Prop := Claim7.holds Tryd.pinned (.plain (OpenSpec.ofChange treeOpenSpec)) treeOpenCard

/-- THE TIED CARD OF 'quarterdaylaw09.TreeTells'. -/
def treeTellsCard : Claim7 := { stood := { row := treeTellsRow, standIns := [], harness := (true, "54968fde4ec52fed2af0d4a221dba7c3b22f328b0c3837a0bd8b7074238da23a"), looks := true }, kinds := [], alts := [], laidByText := true, laidKinds := [.data, .data, .data, .sentinel, .sentinel], laidTests := true, laidLooks := .later }
def TreeTellsCardSaid : Prop := Claim7.holds Tryd.pinned (.plain (OpenSpec.ofChange treeTellsSpec)) treeTellsCard

/-- THE TIED CARD OF 'quarterdaylaw09.TreeDoes'. -/
def treeDoesCard : Claim7 := { stood := { row := treeDoesRow, standIns := [], harness := (true, "54968fde4ec52fed2af0d4a221dba7c3b22f328b0c3837a0bd8b7074238da23a"), looks := true }, kinds := [], alts := [], laidByText := true, laidKinds := [.data, .data, .data, .sentinel, .sentinel], laidTests := true, laidLooks := .later }
def TreeDoesCardSaid : Prop := Claim7.holds Tryd.pinned (.plain (OpenSpec.ofChange treeDoesSpec)) treeDoesCard

/-- THE TIED CARD OF 'quarterdaylaw10.LayoutLines'. -/
def layoutLinesCard : Claim7 := { stood := { row := layoutLinesRow, standIns := [], harness := (true, "54968fde4ec52fed2af0d4a221dba7c3b22f328b0c3837a0bd8b7074238da23a"), looks := true }, kinds := [], alts := [], laidByText := true, laidKinds := [.data, .data, .data, .sentinel, .sentinel], laidTests := true, laidLooks := .later }
def LayoutLinesCardSaid : Prop := Claim7.holds Tryd.pinned (.plain (OpenSpec.ofChange layoutLinesSpec)) layoutLinesCard

/-- THE TIED CARD OF 'quarterdaylaw10.LayoutCanon'. -/
def layoutCanonCard : Claim7 := { stood := { row := layoutCanonRow, standIns := [], harness := (true, "54968fde4ec52fed2af0d4a221dba7c3b22f328b0c3837a0bd8b7074238da23a"), looks := true }, kinds := [], alts := [], laidByText := true, laidKinds := [.data, .data, .data, .sentinel, .sentinel], laidTests := true, laidLooks := .later }
def LayoutCanonCardSaid : Prop := Claim7.holds Tryd.pinned (.plain (OpenSpec.ofChange layoutCanonSpec)) layoutCanonCard

/-- THE TIED CARD OF 'quarterdaylaw10.LayoutTokens'. -/
def layoutTokensCard : Claim7 := { stood := { row := layoutTokensRow, standIns := [], harness := (true, "54968fde4ec52fed2af0d4a221dba7c3b22f328b0c3837a0bd8b7074238da23a"), looks := true }, kinds := [], alts := [], laidByText := true, laidKinds := [.data, .data, .data, .sentinel, .sentinel], laidTests := true, laidLooks := .later }
def LayoutTokensCardSaid : Prop := Claim7.holds Tryd.pinned (.plain (OpenSpec.ofChange layoutTokensSpec)) layoutTokensCard

/-- THE TIED CARD OF 'quarterdaylaw10.LayoutBack'. -/
def layoutBackCard : Claim7 := { stood := { row := layoutBackRow, standIns := [], harness := (true, "54968fde4ec52fed2af0d4a221dba7c3b22f328b0c3837a0bd8b7074238da23a"), looks := true }, kinds := [], alts := [], laidByText := true, laidKinds := [.data, .data, .data, .sentinel, .sentinel], laidTests := true, laidLooks := .later }
def LayoutBackCardSaid : Prop := Claim7.holds Tryd.pinned (.plain (OpenSpec.ofChange layoutBackSpec)) layoutBackCard

/-- THE TIED CARD OF 'quarterdaylaw10.LayoutTwo'. -/
def layoutTwoCard : Claim7 := { stood := { row := layoutTwoRow, standIns := [], harness := (true, "54968fde4ec52fed2af0d4a221dba7c3b22f328b0c3837a0bd8b7074238da23a"), looks := true }, kinds := [], alts := [], laidByText := true, laidKinds := [.data, .data, .data, .sentinel, .sentinel], laidTests := true, laidLooks := .later }
def LayoutTwoCardSaid : Prop := Claim7.holds Tryd.pinned (.plain (OpenSpec.ofChange layoutTwoSpec)) layoutTwoCard

/-- THE SECOND FORM's CARD OF 'quarterdaylaw09.TreeTokens'. -/
def treeTokensUptoCard : Claim7 := { stood := { row := treeTokensUptoRow, standIns := [], harness := (true, "54968fde4ec52fed2af0d4a221dba7c3b22f328b0c3837a0bd8b7074238da23a"), looks := true }, kinds := [], alts := [], laidByText := true, laidKinds := [.data, .data, .data, .sentinel, .sentinel], laidTests := true, laidLooks := .later }
def TreeTokensUptoCardSaid : Prop := Claim7.holds Tryd.pinned (.plain (OpenSpec.upto treeTokensSpec)) treeTokensUptoCard

/-- THE SECOND FORM's CARD OF 'quarterdaylaw09.TreeRight'. -/
def treeRightUptoCard : Claim7 := { stood := { row := treeRightUptoRow, standIns := [], harness := (true, "54968fde4ec52fed2af0d4a221dba7c3b22f328b0c3837a0bd8b7074238da23a"), looks := true }, kinds := [], alts := [], laidByText := true, laidKinds := [.data, .data, .data, .sentinel, .sentinel], laidTests := true, laidLooks := .later }
def TreeRightUptoCardSaid : Prop := Claim7.holds Tryd.pinned (.plain (OpenSpec.upto treeRightSpec)) treeRightUptoCard

/-- THE SECOND FORM's CARD OF 'quarterdaylaw09.TreeTwo'. -/
def treeTwoUptoCard : Claim7 := { stood := { row := treeTwoUptoRow, standIns := [], harness := (true, "54968fde4ec52fed2af0d4a221dba7c3b22f328b0c3837a0bd8b7074238da23a"), looks := true }, kinds := [], alts := [], laidByText := true, laidKinds := [.data, .data, .data, .sentinel, .sentinel], laidTests := true, laidLooks := .later }
def TreeTwoUptoCardSaid : Prop := Claim7.holds Tryd.pinned (.plain (OpenSpec.upto treeTwoSpec)) treeTwoUptoCard

/-- THE SECOND FORM's CARD OF 'quarterdaylaw09.TreeBlock'. -/
def treeBlockUptoCard : Claim7 := { stood := { row := treeBlockUptoRow, standIns := [], harness := (true, "54968fde4ec52fed2af0d4a221dba7c3b22f328b0c3837a0bd8b7074238da23a"), looks := true }, kinds := [], alts := [], laidByText := true, laidKinds := [.data, .data, .data, .sentinel, .sentinel], laidTests := true, laidLooks := .later }
def TreeBlockUptoCardSaid : Prop := Claim7.holds Tryd.pinned (.plain (OpenSpec.upto treeBlockSpec)) treeBlockUptoCard

/-- THE SECOND FORM's CARD OF 'quarterdaylaw09.TreeOpen'. -/
def treeOpenUptoCard : Claim7 := { stood := { row := treeOpenUptoRow, standIns := [], harness := (true, "54968fde4ec52fed2af0d4a221dba7c3b22f328b0c3837a0bd8b7074238da23a"), looks := true }, kinds := [], alts := [], laidByText := true, laidKinds := [.data, .data, .data, .sentinel, .sentinel], laidTests := true, laidLooks := .later }
def TreeOpenUptoCardSaid : Prop := Claim7.holds Tryd.pinned (.plain (OpenSpec.upto treeOpenSpec)) treeOpenUptoCard

/-- THE SECOND FORM's CARD OF 'quarterdaylaw09.TreeTells'. -/
def treeTellsUptoCard : Claim7 := { stood := { row := treeTellsUptoRow, standIns := [], harness := (true, "54968fde4ec52fed2af0d4a221dba7c3b22f328b0c3837a0bd8b7074238da23a"), looks := true }, kinds := [], alts := [], laidByText := true, laidKinds := [.data, .data, .data, .sentinel, .sentinel], laidTests := true, laidLooks := .later }
def TreeTellsUptoCardSaid : Prop := Claim7.holds Tryd.pinned (.plain (OpenSpec.upto treeTellsSpec)) treeTellsUptoCard

/-- THE SECOND FORM's CARD OF 'quarterdaylaw09.TreeDoes'. -/
def treeDoesUptoCard : Claim7 := { stood := { row := treeDoesUptoRow, standIns := [], harness := (true, "54968fde4ec52fed2af0d4a221dba7c3b22f328b0c3837a0bd8b7074238da23a"), looks := true }, kinds := [], alts := [], laidByText := true, laidKinds := [.data, .data, .data, .sentinel, .sentinel], laidTests := true, laidLooks := .later }
def TreeDoesUptoCardSaid : Prop := Claim7.holds Tryd.pinned (.plain (OpenSpec.upto treeDoesSpec)) treeDoesUptoCard

/-- THE SECOND FORM's CARD OF 'quarterdaylaw10.LayoutLines'. -/
def layoutLinesUptoCard : Claim7 := { stood := { row := layoutLinesUptoRow, standIns := [], harness := (true, "54968fde4ec52fed2af0d4a221dba7c3b22f328b0c3837a0bd8b7074238da23a"), looks := true }, kinds := [], alts := [], laidByText := true, laidKinds := [.data, .data, .data, .sentinel, .sentinel], laidTests := true, laidLooks := .later }
def LayoutLinesUptoCardSaid : Prop := Claim7.holds Tryd.pinned (.plain (OpenSpec.upto layoutLinesSpec)) layoutLinesUptoCard

/-- THE SECOND FORM's CARD OF 'quarterdaylaw10.LayoutCanon'. -/
def layoutCanonUptoCard : Claim7 := { stood := { row := layoutCanonUptoRow, standIns := [], harness := (true, "54968fde4ec52fed2af0d4a221dba7c3b22f328b0c3837a0bd8b7074238da23a"), looks := true }, kinds := [], alts := [], laidByText := true, laidKinds := [.data, .data, .data, .sentinel, .sentinel], laidTests := true, laidLooks := .later }
def LayoutCanonUptoCardSaid : Prop := Claim7.holds Tryd.pinned (.plain (OpenSpec.upto layoutCanonSpec)) layoutCanonUptoCard

/-- THE SECOND FORM's CARD OF 'quarterdaylaw10.LayoutTokens'. -/
def layoutTokensUptoCard : Claim7 := { stood := { row := layoutTokensUptoRow, standIns := [], harness := (true, "54968fde4ec52fed2af0d4a221dba7c3b22f328b0c3837a0bd8b7074238da23a"), looks := true }, kinds := [], alts := [], laidByText := true, laidKinds := [.data, .data, .data, .sentinel, .sentinel], laidTests := true, laidLooks := .later }
def LayoutTokensUptoCardSaid : Prop := Claim7.holds Tryd.pinned (.plain (OpenSpec.upto layoutTokensSpec)) layoutTokensUptoCard

/-- THE SECOND FORM's CARD OF 'quarterdaylaw10.LayoutBack'. -/
def layoutBackUptoCard : Claim7 := { stood := { row := layoutBackUptoRow, standIns := [], harness := (true, "54968fde4ec52fed2af0d4a221dba7c3b22f328b0c3837a0bd8b7074238da23a"), looks := true }, kinds := [], alts := [], laidByText := true, laidKinds := [.data, .data, .data, .sentinel, .sentinel], laidTests := true, laidLooks := .later }
def LayoutBackUptoCardSaid : Prop := Claim7.holds Tryd.pinned (.plain (OpenSpec.upto layoutBackSpec)) layoutBackUptoCard

/-- THE SECOND FORM's CARD OF 'quarterdaylaw10.LayoutTwo'. -/
def layoutTwoUptoCard : Claim7 := { stood := { row := layoutTwoUptoRow, standIns := [], harness := (true, "54968fde4ec52fed2af0d4a221dba7c3b22f328b0c3837a0bd8b7074238da23a"), looks := true }, kinds := [], alts := [], laidByText := true, laidKinds := [.data, .data, .data, .sentinel, .sentinel], laidTests := true, laidLooks := .later }
def LayoutTwoUptoCardSaid : Prop := Claim7.holds Tryd.pinned (.plain (OpenSpec.upto layoutTwoSpec)) layoutTwoUptoCard
end Rows
end Go.Proofs.YtjebdoecigmkhaaDoor
