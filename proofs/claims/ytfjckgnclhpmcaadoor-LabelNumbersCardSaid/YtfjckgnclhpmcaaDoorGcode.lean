/- What Gcd of package whole comes to (out of XWcode, over XUcode). -/
import Derived.Test.YtfjckgnclhpmcaaDoorUcode
import Derived.Test.YtfjckgnclhpmcaaDoorVmath2
namespace Go.Proofs.YtfjckgnclhpmcaaDoor.Wc
set_option linter.unusedSimpArgs false
set_option linter.unusedVariables false
open Go.RowKit Go.Proofs.YtfjckgnclhpmcaaDoor.Wm

set_option maxHeartbeats 400000

/-- a number that a remainder of two numbers is fits -/
theorem tmod_fit {a b : Int} (hb : Fit b) (h : b ≠ 0) : Fit (a.tmod b) := by
  have := tmod_abs a h
  unfold Fit at *; omega

end Go.Proofs.YtfjckgnclhpmcaaDoor.Wc
