/- What multiply and Mul of package wide come to. -/
import Derived.Test.YtfjckgnclhpmcaaDoorVfit
import Derived.Test.YtfjckgnclhpmcaaDoorVmath3
namespace Go.Proofs.YtfjckgnclhpmcaaDoor.Vc
set_option linter.unusedSimpArgs false
set_option linter.unusedVariables false
open Go.RowKit Go.Proofs.YtfjckgnclhpmcaaDoor.Vm

set_option maxHeartbeats 400000

end Go.Proofs.YtfjckgnclhpmcaaDoor.Vc
