/- Plain facts for the laws of layer 14; nothing of the program. -/
import Derived.Test.YtkpjkdeomoecjaaDoorJmath
namespace Go.Proofs.YtkpjkdeomoecjaaDoor.Am
set_option linter.unusedSimpArgs false
set_option linter.unusedVariables false
open Go.Proofs.YtkpjkdeomoecjaaDoor.Cm Go.Proofs.YtkpjkdeomoecjaaDoor.Em

theorem yend_le {c : CalZ} {a b : Int} (h : KindOk c) (a0 : 1600 ≤ a) (l : a ≤ b) (b1 : b ≤ 9998) : yend c a ≤ yend c b := by
  by_cases e : a = b
  · subst e; omega
  · have := yend_lt h a0 (by omega : a < b) b1; omega
/-- the year of the day behind a day of a year -/
theorem next_year {c : CalZ} {n y : Int} (ok : CalOk c) (n0 : 0 ≤ n) (y0 : 1601 ≤ y) (y1 : y ≤ 9997) (ya : yend c (y - 1) < n) (yb : n ≤ yend c y) :
    (n < yend c y ∧ OfA c (n + 1) y 0) ∨ (n = yend c y ∧ y < 9997 ∧ OfA c (n + 1) (y + 1) 0) ∨ (n = yend c y ∧ y = 9997 ∧ ∃ e, e ≠ 0 ∧ OfA c (n + 1) 0 e) := by
  have b := yend_bd ok.1 (y := y) (by omega) y1
  by_cases h : n < yend c y
  · exact .inl ⟨h, .inl ⟨ok, by omega, by omega, y0, y1, by omega, by omega, rfl⟩⟩
  · by_cases k : y < 9997
    · have s := yend_step ok.1 (y := y) (by omega) (by omega)
      have b2 := yend_bd ok.1 (y := y + 1) (by omega) (by omega)
      exact .inr (.inl ⟨by omega, k, .inl ⟨ok, by omega, by omega, by omega, by omega, by rw [show y + 1 - 1 = y by omega]; omega, by omega, rfl⟩⟩)
    · obtain rfl : y = 9997 := by omega
      refine .inr (.inr ⟨by omega, rfl, ?_⟩)
      by_cases q : n + 1 ≤ 3068036
      · exact ⟨11, by decide, .inr (.inl ⟨ok, by omega, q, .inr (by omega), rfl, rfl⟩)⟩
      · exact ⟨4, by decide, .inr (.inr (.inl ⟨ok, by omega, rfl, rfl⟩))⟩
/-- the year of the day ahead of a year's first one -/
theorem prev_year {c : CalZ} {y : Int} (ok : CalOk c) (y0 : 1601 ≤ y) (y1 : y ≤ 9997) :
    (1601 < y ∧ OfA c (yend c (y - 1)) (y - 1) 0) ∨ (y = 1601 ∧ ∃ e, e ≠ 0 ∧ OfA c (yend c (y - 1)) 0 e) := by
  have b := yend_bd ok.1 (y := y - 1) (by omega) (by omega)
  by_cases k : 1601 < y
  · have s := yend_step ok.1 (y := y - 1 - 1) (by omega) (by omega)
    rw [show y - 1 - 1 + 1 = y - 1 by omega] at s
    exact .inl ⟨k, .inl ⟨ok, b.1, b.2, by omega, by omega, by omega, by omega, rfl⟩⟩
  · obtain rfl : y = 1601 := by omega
    exact .inr ⟨rfl, 11, by decide, .inr (.inl ⟨ok, b.1, b.2, .inl (show yend c (1601 - 1) ≤ yend c 1600 from Int.le_refl _), rfl, rfl⟩)⟩

end Go.Proofs.YtkpjkdeomoecjaaDoor.Am
