/- What Length, Check, Day, Of, Weekday and Add of package civil come to. -/
import Derived.Test.YtmccdemhbdidoaaDoorCcode
namespace Go.Proofs.YtmccdemhbdidoaaDoor.Cp
set_option linter.unusedSimpArgs false
set_option linter.unusedVariables false
open Go.RowKit Go.Proofs.YtmccdemhbdidoaaDoor.Bx Go.Proofs.YtmccdemhbdidoaaDoor.Cm
open Go.Proofs.YtmccdemhbdidoaaDoor.Cr (leapB leap_in)

set_option maxHeartbeats 1000000

theorem firstOf_eq {y : Int} : 365 * (y - 1600) + (y - 1600 + 3) / 4 - (y - 1600 + 99) / 100 + (y - 1600 + 399) / 400 = dby y := by unfold dby; omega

/-- the year by the middling length, or the one behind it -/
theorem yearOf_eq {n y q : Int} (n0 : 0 ≤ n) (hq : (n + 1) * 400 / 146097 = q) (ya : dby y ≤ n) (yb : n < dby (y + 1)) :
    (1600 + q = y ∧ dby (1600 + q) ≤ n) ∨ (1600 + q - 1 = y ∧ n < dby (1600 + q)) := by
  have a1 : n < dby (1600 + q + 1) := by unfold dby; omega
  have a2 : dby (1600 + q - 1) ≤ n := by unfold dby; omega
  have b1 : 1600 + q - 1 ≤ y := dby_lt (n := n) a2 yb
  have b2 : y ≤ 1600 + q := dby_lt (n := n) ya a1
  by_cases c : dby (1600 + q) ≤ n
  · have := dby_lt (n := n) (a := 1600 + q) c yb
    exact .inl ⟨by omega, c⟩
  · by_cases e : y = 1600 + q
    · subst e; exact absurd ya c
    · exact .inr ⟨by omega, by omega⟩

theorem ret_two {k1 k2 : IntKind} {a b c d : Int} (h1 : a = c) (h2 : b = d) : Ending.returned (.tuple #[.int k1 a, .int k2 b]) = Ending.returned (.tuple #[.int k1 c, .int k2 d]) := by rw [h1, h2]

/-! the same, each with what became of the world; each asks for the table, so that all are used alike -/
end Go.Proofs.YtmccdemhbdidoaaDoor.Cp
