/- What Leap, Length, Check, Weekday and Add of the reference of layer 5 come to. -/
import Derived.Test.YtoeifpeiogeenaaGreatDoorChecked
import Derived.Test.YtoeifpeiogeenaaGreatDoorJK
import Derived.Test.YtoeifpeiogeenaaGreatDoorJP
namespace Go.Proofs.YtoeifpeiogeenaaGreatDoor.Cr
set_option linter.unusedSimpArgs false
set_option linter.unusedVariables false
open Go.RowKit Go.Proofs.YtoeifpeiogeenaaGreatDoor.Bx Go.Proofs.YtoeifpeiogeenaaGreatDoor.Cm

set_option maxHeartbeats 400000

/-- is it a leap year that the calendar has? -/
def leapB (y : Int) : Bool := decide (1600 ≤ y) && decide (y ≤ 9999) && lpB y

theorem leap_in {y : Int} (h0 : 1600 ≤ y) (h1 : y ≤ 9999) : lp y = if leapB y = true then 1 else 0 := by
  rw [lp_of]; unfold leapB; simp [h0, h1]

end Go.Proofs.YtoeifpeiogeenaaGreatDoor.Cr
