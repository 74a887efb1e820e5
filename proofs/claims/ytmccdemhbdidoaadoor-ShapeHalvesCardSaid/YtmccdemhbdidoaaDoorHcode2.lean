/- What weeksOf, endOf and endsFrom of package shape come to. -/
import Derived.Test.YtmccdemhbdidoaaDoorHcode
import Derived.Deep.AppendLies
import Derived.Maps.AppendAt
namespace Go.Proofs.YtmccdemhbdidoaaDoor.Hp
set_option linter.unusedSimpArgs false
set_option linter.unusedVariables false
open Go.RowKit Go.Proofs.YtmccdemhbdidoaaDoor.Bn Go.Proofs.YtmccdemhbdidoaaDoor.Bx Go.Proofs.YtmccdemhbdidoaaDoor.Cp Go.Proofs.YtmccdemhbdidoaaDoor.Am Go.Proofs.YtmccdemhbdidoaaDoor.Fp Go.Proofs.YtmccdemhbdidoaaDoor.Ap Go.Proofs.YtmccdemhbdidoaaDoor.Cm Go.Proofs.YtmccdemhbdidoaaDoor.Em Go.Proofs.YtmccdemhbdidoaaDoor.Ep Go.Proofs.YtmccdemhbdidoaaDoor.Rk

set_option maxHeartbeats 1000000

theorem pat_three {c : CalZ} (cut : CutOk c) (p : Int) : ((p - 1) % 3 = 0 ∧ pat c p = pat c 1) ∨ ((p - 1) % 3 = 1 ∧ pat c p = pat c 2) ∨ ((p - 1) % 3 = 2 ∧ pat c p = pat c 3) := by
  have h : (p - 1) % 3 = 0 ∨ (p - 1) % 3 = 1 ∨ (p - 1) % 3 = 2 := by omega
  unfold pat
  rcases h with h | h | h
  · refine .inl ⟨h, ?_⟩
    rw [if_pos h, if_pos (show ((1 : Int) - 1) % 3 = 0 by decide)]
  · refine .inr (.inl ⟨h, ?_⟩)
    rw [if_neg (show ¬ (p - 1) % 3 = 0 by omega), if_pos h, if_neg (show ¬ ((2 : Int) - 1) % 3 = 0 by decide), if_pos (show ((2 : Int) - 1) % 3 = 1 by decide)]
  · refine .inr (.inr ⟨h, ?_⟩)
    rw [if_neg (show ¬ (p - 1) % 3 = 0 by omega), if_neg (show ¬ (p - 1) % 3 = 1 by omega), if_neg (show ¬ ((3 : Int) - 1) % 3 = 0 by decide), if_neg (show ¬ ((3 : Int) - 1) % 3 = 1 by decide)]

end Go.Proofs.YtmccdemhbdidoaaDoor.Hp
