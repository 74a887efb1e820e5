/- What the functions of package week come to. -/
import Derived.Test.YtmccdemhbdidoaaDoorCcode2
import Derived.Test.YtmccdemhbdidoaaDoorJP
namespace Go.Proofs.YtmccdemhbdidoaaDoor.Ep
set_option linter.unusedSimpArgs false
set_option linter.unusedVariables false
open Go.RowKit Go.Proofs.YtmccdemhbdidoaaDoor.Bx Go.Proofs.YtmccdemhbdidoaaDoor.Cm Go.Proofs.YtmccdemhbdidoaaDoor.Cp Go.Proofs.YtmccdemhbdidoaaDoor.Em

set_option maxHeartbeats 1000000

end Go.Proofs.YtmccdemhbdidoaaDoor.Ep
