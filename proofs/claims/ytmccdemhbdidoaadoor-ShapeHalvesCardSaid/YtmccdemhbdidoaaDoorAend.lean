/- Where a year ends, by its calendar's rule. -/
import Derived.Test.YtmccdemhbdidoaaDoorArule
namespace Go.Proofs.YtmccdemhbdidoaaDoor.Ap
set_option linter.unusedSimpArgs false
set_option linter.unusedVariables false
open Go.RowKit Go.Proofs.YtmccdemhbdidoaaDoor.Bn Go.Proofs.YtmccdemhbdidoaaDoor.Cp Go.Proofs.YtmccdemhbdidoaaDoor.Am Go.Proofs.YtmccdemhbdidoaaDoor.Fp Go.Proofs.YtmccdemhbdidoaaDoor.Cm Go.Proofs.YtmccdemhbdidoaaDoor.Em Go.Proofs.YtmccdemhbdidoaaDoor.Ep

set_option maxHeartbeats 1000000

end Go.Proofs.YtmccdemhbdidoaaDoor.Ap
