/- What the rules of package anchor come to, and where a year ends. -/
import Derived.Test.YtmccdemhbdidoaaDoorFcheck
import Derived.Test.YtmccdemhbdidoaaDoorEcode2
import Derived.Deep.RegionHeld3
namespace Go.Proofs.YtmccdemhbdidoaaDoor.Ap
set_option linter.unusedSimpArgs false
set_option linter.unusedVariables false
open Go.RowKit Go.Proofs.YtmccdemhbdidoaaDoor.Bn Go.Proofs.YtmccdemhbdidoaaDoor.Cp Go.Proofs.YtmccdemhbdidoaaDoor.Am Go.Proofs.YtmccdemhbdidoaaDoor.Fp Go.Proofs.YtmccdemhbdidoaaDoor.Cm Go.Proofs.YtmccdemhbdidoaaDoor.Em Go.Proofs.YtmccdemhbdidoaaDoor.Ep

set_option maxHeartbeats 1000000

end Go.Proofs.YtmccdemhbdidoaaDoor.Ap
