/- What the functions of package civil come to: a table of days ahead of months, years by a formula. -/
import Derived.Test.YtmccdemhbdidoaaDoorChecked
import Derived.Test.YtmccdemhbdidoaaDoorJK
import Derived.Test.YtmccdemhbdidoaaDoorCref
namespace Go.Proofs.YtmccdemhbdidoaaDoor.Cp
set_option linter.unusedSimpArgs false
set_option linter.unusedVariables false
open Go.RowKit Go.Proofs.YtmccdemhbdidoaaDoor.Bx Go.Proofs.YtmccdemhbdidoaaDoor.Cm
open Go.Proofs.YtmccdemhbdidoaaDoor.Cr (leapB leap_in)

set_option maxHeartbeats 1000000

theorem quiet_same {P : Program} {f : FuncId} {args : Array Value} {w : World} {n : Nat} {v : Value}
    (h : Calls P f args (w.drewN n) fun e w' => e = .returned v ∧ w.drewN n = w') :
    Calls P f args (w.drewN n) fun e w' => e = .returned v ∧ ∃ m, w' = w.drewN m :=
  h.mono fun _ _ ⟨h1, h2⟩ => ⟨h1, n, h2.symm⟩

end Go.Proofs.YtmccdemhbdidoaaDoor.Cp
