/- What asked, Day, Next, Back of the reference of layer 17 come to. -/
import Derived.Test.YtkfogmaogfgcgaaGreatDoorQaIru
import Derived.Test.YtkfogmaogfgcgaaGreatDoorQaArend
import Derived.Test.YtkfogmaogfgcgaaGreatDoorQaJL
import Derived.Test.YtkfogmaogfgcgaaGreatDoorQaJG
import Derived.Test.YtkfogmaogfgcgaaGreatDoorQaJP
import Derived.Test.YtkfogmaogfgcgaaGreatDoorQaJD
namespace Go.Proofs.YtkfogmaogfgcgaaGreatDoor.Rf
set_option linter.unusedSimpArgs false
set_option linter.unusedVariables false
open Go.RowKit Go.Maps Bn Bx Cp Am Fp Ap Ar Cm Em Ep Rk Hp Hr Ip Ir

set_option maxHeartbeats 8000000

theorem uchka_of {c : CalZ} {L y i : Int} (h : UnitOk c L y i) : UChkA c L y i 0 := by
  obtain ⟨er, k⟩ := uchka_ex c L y i
  obtain rfl := (uchka_ok k).2 h
  exact k

end Go.Proofs.YtkfogmaogfgcgaaGreatDoor.Rf

