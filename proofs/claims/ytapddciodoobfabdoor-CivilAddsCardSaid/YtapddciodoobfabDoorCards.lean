/-
  DERIVED. GIVEN WITH THE SEED: THE CARDS: each row of YtapddciodoobfabDoorRows.lean that lists a variable, with what it lists TIED to the program's text (the seventh form; the later family's looks); each row that meets fmt, with fmt's text TOLD by the authors' own Lean function (tested against real Go, not proved from fmt's source: count such statements apart). THE CARD IS WHAT COUNTS. Prove the row's statement (the work); the ties are given (YtapddciodoobfabDoorTie.lean); close each card by the builder's one call (the guide's Derived/Test/ToyasCard.lean, 'card_holds'). Laid BY PROGRAM, IN A SANDBOX (cutbox-door.mjs). By AI agents, Wed Nov 11 2026. No macro, syntax, notation, axiom, sorry.
-/
import Derived.Test.YtapddciodoobfabDoorRows
import GoSem.ClaimSeven
namespace Go.Proofs.YtapddciodoobfabDoor
namespace Rows

/-- THE TIED CARD OF 'quarterdaylaw05.CivilOrder'. -/
def civilOrderCard : Claim7 := { stood := { row := civilOrderRow, standIns := [], harness := (true, "9d8b2fc7d3e37245d47ca9e59826bc762007754597448cff7960c80746b6bfe4"), looks := false }, kinds := [], alts := [], laidByText := true, laidKinds := [.data], laidTests := true, laidLooks := .later }
def CivilOrderCardSaid : Prop := Claim7.holds Tryd.pinned (.plain (OpenSpec.ofChange civilOrderSpec)) civilOrderCard

/-- THE TIED CARD OF 'quarterdaylaw05.CivilAdds'. -/
def civilAddsCard : Claim7 := { stood := { row := civilAddsRow, standIns := [], harness := (true, "9d8b2fc7d3e37245d47ca9e59826bc762007754597448cff7960c80746b6bfe4"), looks := false }, kinds := [], alts := [], laidByText := true, laidKinds := [.data], laidTests := true, laidLooks := .later }
def CivilAddsCardSaid : Prop := Claim7.holds Tryd.pinned (.plain (OpenSpec.ofChange civilAddsSpec)) civilAddsCard

/-- THE SECOND FORM's CARD OF 'quarterdaylaw05.CivilOrder'. -/
def civilOrderUptoCard : Claim7 := { stood := { row := civilOrderUptoRow, standIns := [], harness := (true, "9d8b2fc7d3e37245d47ca9e59826bc762007754597448cff7960c80746b6bfe4"), looks := false }, kinds := [], alts := [], laidByText := true, laidKinds := [.data], laidTests := true, laidLooks := .later }
def CivilOrderUptoCardSaid : Prop := Claim7.holds Tryd.pinned (.plain (OpenSpec.upto civilOrderSpec)) civilOrderUptoCard

/-- THE SECOND FORM's CARD OF 'quarterdaylaw05.CivilAdds'. -/
def civilAddsUptoCard : Claim7 := { stood := { row := civilAddsUptoRow, standIns := [], harness := (true, "9d8b2fc7d3e37245d47ca9e59826bc762007754597448cff7960c80746b6bfe4"), looks := false }, kinds := [], alts := [], laidByText := true, laidKinds := [.data], laidTests := true, laidLooks := .later }
def CivilAddsUptoCardSaid : Prop := Claim7.holds Tryd.pinned (.plain (OpenSpec.upto civilAddsSpec)) civilAddsUptoCard
end Rows
end Go.Proofs.YtapddciodoobfabDoor
