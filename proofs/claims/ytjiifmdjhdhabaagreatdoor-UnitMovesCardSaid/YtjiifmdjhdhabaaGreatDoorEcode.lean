/- What the functions of package week come to. -/
import Derived.Test.YtjiifmdjhdhabaaGreatDoorCcode2
import Derived.Test.YtjiifmdjhdhabaaGreatDoorJP
namespace Go.Proofs.YtjiifmdjhdhabaaGreatDoor.Ep
set_option linter.unusedSimpArgs false
set_option linter.unusedVariables false
open Go.RowKit Go.Proofs.YtjiifmdjhdhabaaGreatDoor.Bx Go.Proofs.YtjiifmdjhdhabaaGreatDoor.Cm Go.Proofs.YtjiifmdjhdhabaaGreatDoor.Cp Go.Proofs.YtjiifmdjhdhabaaGreatDoor.Em

set_option maxHeartbeats 1000000

end Go.Proofs.YtjiifmdjhdhabaaGreatDoor.Ep
