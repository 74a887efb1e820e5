/- What Neg and Fit of package wide come to. -/
import Derived.Test.YtfjckgnclhpmcaaDoorVadd
namespace Go.Proofs.YtfjckgnclhpmcaaDoor.Vc
set_option linter.unusedSimpArgs false
set_option linter.unusedVariables false
open Go.RowKit Go.Proofs.YtfjckgnclhpmcaaDoor.Vm
attribute [local go_sem ↓] Go.wp_at_zero Go.wp_at_succ

set_option maxHeartbeats 400000

/-- a call keeps what is below -/
theorem below_step {B : Nat} {W0 W w1 : World} {R : Prop} (hB : B ≤ W0.heap.size) (h : Below B W0 W ∧ R) (hb : Below W.heap.size W w1) : Below B W0 w1 := h.1.trans (hb.mono (Nat.le_trans hB h.1.size))
theorem bcellB {B : Nat} {W w1 : World} (hb : Below B W w1) : (∀ b o, b < B → w1.cell? ⟨b, o, none⟩ = W.cell? ⟨b, o, none⟩) ∧ (∀ b o, b < B → w1.frozen? ⟨b, o, none⟩ = W.frozen? ⟨b, o, none⟩) :=
  ⟨fun b o h => hb.cell (p := ⟨b, o, none⟩) h, fun b o h => hb.frozen (p := ⟨b, o, none⟩) h⟩

end Go.Proofs.YtfjckgnclhpmcaaDoor.Vc
