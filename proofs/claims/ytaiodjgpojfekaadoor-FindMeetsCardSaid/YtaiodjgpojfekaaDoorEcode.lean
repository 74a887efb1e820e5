/- What the functions of package week come to. -/
import Derived.Test.YtaiodjgpojfekaaDoorCcode2
import Derived.Test.YtaiodjgpojfekaaDoorJP
namespace Go.Proofs.YtaiodjgpojfekaaDoor.Ep
set_option linter.unusedSimpArgs false
set_option linter.unusedVariables false
open Go.RowKit Go.Proofs.YtaiodjgpojfekaaDoor.Bx Go.Proofs.YtaiodjgpojfekaaDoor.Cm Go.Proofs.YtaiodjgpojfekaaDoor.Cp Go.Proofs.YtaiodjgpojfekaaDoor.Em

set_option maxHeartbeats 1000000

end Go.Proofs.YtaiodjgpojfekaaDoor.Ep
