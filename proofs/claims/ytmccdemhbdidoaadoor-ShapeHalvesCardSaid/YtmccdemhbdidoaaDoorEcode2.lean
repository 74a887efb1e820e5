/- What Day, Many, Last and Near of package week come to. -/
import Derived.Test.YtmccdemhbdidoaaDoorEcode
namespace Go.Proofs.YtmccdemhbdidoaaDoor.Ep
set_option linter.unusedSimpArgs false
set_option linter.unusedVariables false
open Go.RowKit Go.Proofs.YtmccdemhbdidoaaDoor.Bx Go.Proofs.YtmccdemhbdidoaaDoor.Cm Go.Proofs.YtmccdemhbdidoaaDoor.Cp Go.Proofs.YtmccdemhbdidoaaDoor.Em

set_option maxHeartbeats 1000000

/-- Iso at a day that nothing is known of -/
def Isoed (n : Int) (w : World) (e : Ending) (w' : World) : Prop :=
  ∃ y k d er : Int, IsoRes n y k d er ∧ e = .returned (.tuple #[.agg #[.int .i64 y, .int .i64 k, .int .i64 d], .int .i64 er]) ∧ Below w.heap.size w w'
theorem ret_three {k1 k2 k3 : IntKind} {a b c a' b' c' : Int} (h1 : a = a') (h2 : b = b') (h3 : c = c') : Ending.returned (.tuple #[.int k1 a, .int k2 b, .int k3 c]) = Ending.returned (.tuple #[.int k1 a', .int k2 b', .int k3 c']) := by rw [h1, h2, h3]

/-- what Near answers where there is the month, and the weekday -/
def NearV (n b v er : Int) : Prop :=
  (b ≤ 3 ∧ v = n - b ∧ er = 0) ∨ (3 < b ∧ n - (b - 7) ≤ 3068036 ∧ v = n - (b - 7) ∧ er = 0) ∨ (3 < b ∧ 3068036 < n - (b - 7) ∧ v = 0 ∧ er = 4)
end Go.Proofs.YtmccdemhbdidoaaDoor.Ep
