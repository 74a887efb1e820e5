/- What divide, Div and MulDiv of package wide come to. -/
import Derived.Test.YtfjckgnclhpmcaaDoorVmul
import Derived.Test.YtfjckgnclhpmcaaDoorVmath4
import Derived.Test.YtfjckgnclhpmcaaDoorUcode
namespace Go.Proofs.YtfjckgnclhpmcaaDoor.Vc
set_option linter.unusedSimpArgs false
set_option linter.unusedVariables false
open Go.RowKit Go.Proofs.YtfjckgnclhpmcaaDoor.Vm

set_option maxHeartbeats 400000

theorem below_drewN {B : Nat} {a w : World} (h : Below B a w) (n : Nat) : Below B a (w.drewN n) := ⟨h.os, h.tape, h.output, h.size, h.block⟩

/-- what Div answers -/
def DivRes (x b h l r er : Int) : Prop := (b = 0 ∧ h = 0 ∧ l = 0 ∧ r = 0 ∧ er = 3) ∨ (b < 0 ∧ h = 0 ∧ l = 0 ∧ r = 0 ∧ er = 1) ∨ (0 < b ∧ er = 0 ∧ Bd h l ∧ num h l * b + r = x ∧ 0 ≤ r ∧ r < b)

/-- what MulDiv answers -/
def MDRes (x c q r er : Int) : Prop := (c = 0 ∧ q = 0 ∧ r = 0 ∧ er = 3) ∨ (c < 0 ∧ q = 0 ∧ r = 0 ∧ er = 1) ∨ (0 < c ∧ er = 2 ∧ q = 0 ∧ r = 0 ∧ ¬ Fit1 (x / c)) ∨ (0 < c ∧ er = 0 ∧ Fit1 q ∧ q = x / c ∧ r = x % c)

end Go.Proofs.YtfjckgnclhpmcaaDoor.Vc
