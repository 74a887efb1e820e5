/- What the functions of package week come to. -/
import Derived.Test.YtmagdlcikcgelaaDoorCcode2
import Derived.Test.YtmagdlcikcgelaaDoorJP
namespace Go.Proofs.YtmagdlcikcgelaaDoor.Ep
set_option linter.unusedSimpArgs false
set_option linter.unusedVariables false
open Go.RowKit Go.Proofs.YtmagdlcikcgelaaDoor.Bx Go.Proofs.YtmagdlcikcgelaaDoor.Cm Go.Proofs.YtmagdlcikcgelaaDoor.Cp Go.Proofs.YtmagdlcikcgelaaDoor.Em

set_option maxHeartbeats 1000000

end Go.Proofs.YtmagdlcikcgelaaDoor.Ep
