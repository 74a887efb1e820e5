/- What Add, Neg and Fit of package wide come to. -/
import Derived.Test.YtfjckgnclhpmcaaDoorVcode
import Derived.Deep.RegionHeld3
import Derived.Deep.DeepCutAuto
import Derived.Deep.DrawnRows
namespace Go.Proofs.YtfjckgnclhpmcaaDoor.Vc
set_option linter.unusedSimpArgs false
set_option linter.unusedVariables false
open Go.RowKit Go.Proofs.YtfjckgnclhpmcaaDoor.Vm
attribute [local go_sem ↓] Go.wp_at_zero Go.wp_at_succ

set_option maxHeartbeats 400000

/-- a call that tells a Wide, or that there is none -/
def Tells (x : Int) (w : World) (e : Ending) (w' : World) : Prop := ∃ h l er : Int, e = .returned (.tuple #[.agg #[.int .i64 h, .int .u64 l], .int .i64 er]) ∧ Res x h l er ∧ Below w.heap.size w w'

end Go.Proofs.YtfjckgnclhpmcaaDoor.Vc
