/- What the functions of package week come to. -/
import Derived.Test.YtjiifmdjhdhabaaDoorCcode2
import Derived.Test.YtjiifmdjhdhabaaDoorJP
namespace Go.Proofs.YtjiifmdjhdhabaaDoor.Ep
set_option linter.unusedSimpArgs false
set_option linter.unusedVariables false
open Go.RowKit Go.Proofs.YtjiifmdjhdhabaaDoor.Bx Go.Proofs.YtjiifmdjhdhabaaDoor.Cm Go.Proofs.YtjiifmdjhdhabaaDoor.Cp Go.Proofs.YtjiifmdjhdhabaaDoor.Em

set_option maxHeartbeats 1000000

end Go.Proofs.YtjiifmdjhdhabaaDoor.Ep
