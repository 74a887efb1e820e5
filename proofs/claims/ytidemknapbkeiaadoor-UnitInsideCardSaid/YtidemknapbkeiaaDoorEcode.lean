/- What the functions of package week come to. -/
import Derived.Test.YtidemknapbkeiaaDoorCcode2
import Derived.Test.YtidemknapbkeiaaDoorJP
namespace Go.Proofs.YtidemknapbkeiaaDoor.Ep
set_option linter.unusedSimpArgs false
set_option linter.unusedVariables false
open Go.RowKit Go.Proofs.YtidemknapbkeiaaDoor.Bx Go.Proofs.YtidemknapbkeiaaDoor.Cm Go.Proofs.YtidemknapbkeiaaDoor.Cp Go.Proofs.YtidemknapbkeiaaDoor.Em

set_option maxHeartbeats 1000000

end Go.Proofs.YtidemknapbkeiaaDoor.Ep
