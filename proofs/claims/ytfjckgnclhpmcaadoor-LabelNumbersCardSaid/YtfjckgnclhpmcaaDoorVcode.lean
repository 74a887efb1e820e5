/- What the small functions of package wide come to: one contract a function. -/
import Derived.Test.YtfjckgnclhpmcaaDoorChecked
import Derived.WalkKit
import Derived.RowKit
import Derived.RowKit3
import Derived.Below
import Derived.Outline
import Derived.Deep.QuietTactic
import Derived.BigQuiet
import Derived.Lib.Hide
import Derived.Test.YtfjckgnclhpmcaaDoorVmath
namespace Go.Proofs.YtfjckgnclhpmcaaDoor.Vc
set_option linter.unusedSimpArgs false
set_option linter.unusedVariables false
open Go.RowKit Go.Proofs.YtfjckgnclhpmcaaDoor.Vm

set_option maxHeartbeats 400000

theorem ret_agg {k1 k2 : IntKind} {a b c d : Int} (h1 : a = c) (h2 : b = d) : Ending.returned (.agg #[.int k1 a, .int k2 b]) = Ending.returned (.agg #[.int k1 c, .int k2 d]) := by rw [h1, h2]
theorem bcell {W w1 : World} (hb : Below W.heap.size W w1) : (∀ b o, b < W.heap.size → w1.cell? ⟨b, o, none⟩ = W.cell? ⟨b, o, none⟩) ∧ (∀ b o, b < W.heap.size → w1.frozen? ⟨b, o, none⟩ = W.frozen? ⟨b, o, none⟩) :=
  ⟨fun b o h => hb.cell (p := ⟨b, o, none⟩) h, fun b o h => hb.frozen (p := ⟨b, o, none⟩) h⟩
theorem ret_one {k1 : IntKind} {a c : Int} (h1 : a = c) : Ending.returned (.int k1 a) = Ending.returned (.int k1 c) := by rw [h1]

end Go.Proofs.YtfjckgnclhpmcaaDoor.Vc
