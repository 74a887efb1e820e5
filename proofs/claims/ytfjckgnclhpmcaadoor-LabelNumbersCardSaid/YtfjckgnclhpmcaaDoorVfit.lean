/- What Fit of package wide comes to. -/
import Derived.Test.YtfjckgnclhpmcaaDoorVneg
import Derived.Test.YtfjckgnclhpmcaaDoorVmath2
namespace Go.Proofs.YtfjckgnclhpmcaaDoor.Vc
set_option linter.unusedSimpArgs false
set_option linter.unusedVariables false
open Go.RowKit Go.Proofs.YtfjckgnclhpmcaaDoor.Vm
attribute [local go_sem ↓] Go.wp_at_zero Go.wp_at_succ

set_option maxHeartbeats 400000

/-- a call that tells a number, or that it does not fit -/
def Tells1 (x : Int) (w : World) (e : Ending) (w' : World) : Prop := ∃ v er : Int, e = .returned (.tuple #[.int .i64 v, .int .i64 er]) ∧ Res1 x v er ∧ Below w.heap.size w w'

end Go.Proofs.YtfjckgnclhpmcaaDoor.Vc
