/- What check, End, Start, Days and Weeks of package anchor come to. -/
import Derived.Test.YtmccdemhbdidoaaDoorAend
namespace Go.Proofs.YtmccdemhbdidoaaDoor.Ap
set_option linter.unusedSimpArgs false
set_option linter.unusedVariables false
open Go.RowKit Go.Proofs.YtmccdemhbdidoaaDoor.Bn Go.Proofs.YtmccdemhbdidoaaDoor.Cp Go.Proofs.YtmccdemhbdidoaaDoor.Am Go.Proofs.YtmccdemhbdidoaaDoor.Fp

set_option maxHeartbeats 1000000

/-- what check answers -/
def ChkY (c : CalZ) (y f er : Int) : Prop := (CalOk c ∧ f ≤ y ∧ y ≤ 9997 ∧ er = 0) ∨ (CalOk c ∧ ¬ (f ≤ y ∧ y ≤ 9997) ∧ er = 11) ∨ (¬ CalOk c ∧ er = 1)

end Go.Proofs.YtmccdemhbdidoaaDoor.Ap
