/- What the functions of package week come to. -/
import Derived.Test.YtoeifpeiogeenaaGreatDoorCcode2
import Derived.Test.YtoeifpeiogeenaaGreatDoorJP
namespace Go.Proofs.YtoeifpeiogeenaaGreatDoor.Ep
set_option linter.unusedSimpArgs false
set_option linter.unusedVariables false
open Go.RowKit Go.Proofs.YtoeifpeiogeenaaGreatDoor.Bx Go.Proofs.YtoeifpeiogeenaaGreatDoor.Cm Go.Proofs.YtoeifpeiogeenaaGreatDoor.Cp Go.Proofs.YtoeifpeiogeenaaGreatDoor.Em

set_option maxHeartbeats 1000000

end Go.Proofs.YtoeifpeiogeenaaGreatDoor.Ep
