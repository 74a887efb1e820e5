/- What Added of package shape comes to. -/
import Derived.Test.YtmccdemhbdidoaaDoorHcode5
namespace Go.Proofs.YtmccdemhbdidoaaDoor.Hp
set_option linter.unusedSimpArgs false
set_option linter.unusedVariables false
open Go.RowKit Go.Proofs.YtmccdemhbdidoaaDoor.Bn Go.Proofs.YtmccdemhbdidoaaDoor.Bx Go.Proofs.YtmccdemhbdidoaaDoor.Cp Go.Proofs.YtmccdemhbdidoaaDoor.Am Go.Proofs.YtmccdemhbdidoaaDoor.Fp Go.Proofs.YtmccdemhbdidoaaDoor.Ap Go.Proofs.YtmccdemhbdidoaaDoor.Cm Go.Proofs.YtmccdemhbdidoaaDoor.Em Go.Proofs.YtmccdemhbdidoaaDoor.Ep Go.Proofs.YtmccdemhbdidoaaDoor.Rk

set_option maxHeartbeats 2000000

end Go.Proofs.YtmccdemhbdidoaaDoor.Hp
