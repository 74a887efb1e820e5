/- live of layer 15, and ShapeQuarters' program side. -/
import Derived.Test.YtkfogmaogfgcgaaGreatDoorJW
import Derived.Test.YtkfogmaogfgcgaaGreatDoorFcal
import Derived.OpenShut
namespace Go.Proofs.YtkfogmaogfgcgaaGreatDoor.Hl
set_option linter.unusedSimpArgs false
set_option linter.unusedVariables false
open Go.RowKit Go.Proofs.YtkfogmaogfgcgaaGreatDoor.Bn Go.Proofs.YtkfogmaogfgcgaaGreatDoor.Bx Go.Proofs.YtkfogmaogfgcgaaGreatDoor.Am Go.Proofs.YtkfogmaogfgcgaaGreatDoor.Fp Go.Proofs.YtkfogmaogfgcgaaGreatDoor.Ap Go.Proofs.YtkfogmaogfgcgaaGreatDoor.Cm Go.Proofs.YtkfogmaogfgcgaaGreatDoor.Em Go.Proofs.YtkfogmaogfgcgaaGreatDoor.Ep Go.Proofs.YtkfogmaogfgcgaaGreatDoor.Rk Go.Proofs.YtkfogmaogfgcgaaGreatDoor.Hp

set_option maxHeartbeats 2000000

/-- the chapter's calendar of thirteen periods -/
def four0 : CalZ := ⟨⟨#[120]⟩, 1, 6, 9, 0, 2, 0, 0, 0, 0, 13, 2000, 2030, 1⟩
theorem four_cut : CutOk four0 := .inr (.inl ⟨rfl, rfl, rfl, rfl, rfl, by decide, by decide⟩)
theorem four_ok : CalOk four0 := ⟨.inl ⟨.inl rfl, by decide, by decide, by decide, by decide, by decide, by decide, four_cut⟩, by decide, ⟨by decide, by decide, by decide, by decide⟩, ⟨by decide, by decide, by decide⟩⟩
theorem four_quar {p : Int} (p0 : 1 ≤ p) (p1 : p ≤ 13) : QuarA four0 p (quar 13 p) 0 := .inl ⟨four_ok, p0, p1, rfl, rfl⟩

end Go.Proofs.YtkfogmaogfgcgaaGreatDoor.Hl
