/- What All, Meets of the reference of layer 17 come to. -/
import Derived.Test.YtkfogmaogfgcgaaGreatDoorQaIrf
import Derived.Shelf.Abstract
import Derived.Shelf.RegionOpen
import Derived.WalkKit
import Derived.OwnWalkIn
import Derived.TacticsInMore
import Derived.LoopNIn
import Derived.LoopIn
import Derived.Test.YtkfogmaogfgcgaaGreatDoorQaJC
import Derived.Test.YtkfogmaogfgcgaaGreatDoorQaFtab
import Derived.Test.YtkfogmaogfgcgaaGreatDoorQaJD
import Derived.Maps.AppendAt
import Derived.Maps.OwnIn
import Derived.Test.YtkfogmaogfgcgaaGreatDoorProg
import Derived.Test.YtkfogmaogfgcgaaGreatDoorQaJK
import Derived.Test.YtkfogmaogfgcgaaGreatDoorQaDcode
import Derived.Test.YtkfogmaogfgcgaaGreatDoorQaJP
namespace Go.Proofs.YtkfogmaogfgcgaaGreatDoor.Rf
set_option linter.unusedSimpArgs false
set_option linter.unusedVariables false
open Go.RowKit Go.Maps Bn Bx Cp Am Fp Ap Ar Cm Em Ep Rk Hp Hr Ip Dp Ir

set_option maxHeartbeats 8000000

theorem runderU : Tryz.prog.underlying 37 = some (.slice 26) := by kernel_rfl
theorem rinfoU : (Tryz.prog.info? 26).map (fun i => (i.zero, i.size, i.bytes)) = some (some (.agg #[.int .i64 0, .int .i64 0, .int .i64 0]), 3, 24) := by kernel_rfl
end Go.Proofs.YtkfogmaogfgcgaaGreatDoor.Rf

