/- What Add, Neg, Mul and Div of package whole come to (XWcode without Sub and Gcd, for seats that lack these). -/
import Derived.Test.YtodpmdmfdnbehabChecked
import Derived.WalkKit
import Derived.RowKit
import Derived.RowKit3
import Derived.Deep.QuietTactic
import Derived.BigQuiet
import Derived.Lib.Hide
import Derived.Test.YtodpmdmfdnbehabWmath
namespace Go.Proofs.Ytodpmdmfdnbehab.Wc
set_option linter.unusedSimpArgs false
set_option linter.unusedVariables false
open Go.RowKit Go.Proofs.Ytodpmdmfdnbehab.Wm

set_option maxHeartbeats 400000

theorem neg_yes (a : Int) (w : World) (h : Fit a) (h1 : a ≠ -9223372036854775808) :
    Calls Try.prog 71 #[.int .i64 a] w fun e w' => e = .returned (.tuple #[.int .i64 (-a), .int .i64 0]) ∧ w = w' := by
  unfold Fit at h
  have d1 : (a == -9223372036854775808) = false := beq_eq_false_iff_ne.2 h1
  have h2 : -9223372036854775807 ≤ a := by omega
  obtain ⟨h3, h4⟩ := h
  clear h1 h3
  go_enter Try.func71, Try.ntmps71
  go_wp2
  go_ret2
  exact ⟨rfl, rfl⟩

theorem neg_no (w : World) :
    Calls Try.prog 71 #[.int .i64 (-9223372036854775808)] w fun e w' => e = .returned (.tuple #[.int .i64 0, .int .i64 2]) ∧ w = w' := by
  go_enter Try.func71, Try.ntmps71
  go_wp2
  go_ret2
  exact ⟨rfl, rfl⟩

/-- the world has at most drawn -/
def Drew (w w' : World) : Prop := ∃ n, w' = w.drewN n

/-- the two tests ahead of the quotient -/
theorem div_tests {a b : Int} (c2 : ¬ (a = -9223372036854775808 ∧ b = -1)) :
    ((a == -9223372036854775808) = true ∧ (b == -1) = false) ∨ ((a == -9223372036854775808) = false ∧ True) := by
  by_cases c7 : a = -9223372036854775808
  · exact Or.inl ⟨beq_iff_eq.2 c7, beq_eq_false_iff_ne.2 (fun h => c2 ⟨c7, h⟩)⟩
  · exact Or.inr ⟨beq_eq_false_iff_ne.2 c7, trivial⟩

theorem div_yes (a b : Int) (w : World) (ha : Fit a) (hb : Fit b) (c1 : b ≠ 0) (c2 : ¬ (a = -9223372036854775808 ∧ b = -1)) :
    Calls Try.prog 51 #[.int .i64 a, .int .i64 b] w fun e w' => e = .returned (.tuple #[.int .i64 (dq a b), .int .i64 (dr a b), .int .i64 0]) ∧ Drew w w' := by
  have d0 : (b == 0) = false := beq_eq_false_iff_ne.2 c1
  have k1 : IntKind.i64.wrap (a.tdiv b) = a.tdiv b := IntWalk.i64_in _ (tdiv_fit ha c2)
  have k2 := dq_fit ha c1 c2
  have k3 : Fit (dr a b) := by
    unfold Fit at *
    by_cases hp : 0 < b
    · have := dr_pos a hp; omega
    · have := dr_neg a (b := b) (by omega); omega
  have fin : ∀ n, Drew w (w.drewN n) := fun n => ⟨n, rfl⟩
  have c8 := div_tests c2
  clear c2 ha hb
  by_cases c3 : a.tmod b ≠ 0 ∧ ¬ ((a.tmod b < 0) ↔ (b < 0))
  · have e1 : dq a b = a.tdiv b - 1 := by unfold dq; rw [if_pos c3]
    have e2 : dr a b = a.tmod b + b := by unfold dr; rw [if_pos c3]
    rw [e1] at k2 ⊢; rw [e2] at k3 ⊢
    clear e1 e2
    obtain ⟨c4, c5⟩ := c3
    have d4 : (a.tmod b != 0) = true := by rw [bne_iff_ne]; exact c4
    unfold Fit at k2 k3
    obtain ⟨k4, k5⟩ := k2
    obtain ⟨k6, k7⟩ := k3
    have c9 : (decide (b < 0) = true ∧ decide (a.tmod b < 0) = false) ∨ (decide (b < 0) = false ∧ decide (a.tmod b < 0) = true) := by
      simp only [decide_eq_true_eq, decide_eq_false_iff_not]; omega
    clear c5 c4
    rcases c9 with ⟨d6, d7⟩ | ⟨d6, d7⟩ <;> rcases c8 with ⟨d8, d9⟩ | ⟨d8, d9⟩
    all_goals
      go_enter Try.func51, Try.ntmps51
      go_wp2
      go_quiet (fail)
      go_wp2
      go_ret3
      exact ⟨rfl, fin _⟩
  · have e1 : dq a b = a.tdiv b := by unfold dq; rw [if_neg c3]
    have e2 : dr a b = a.tmod b := by unfold dr; rw [if_neg c3]
    rw [e1, e2]
    clear e1 e2 k2 k3
    have c9 : ((a.tmod b != 0) = false ∧ True) ∨ ((a.tmod b != 0) = true ∧ decide (b < 0) = true ∧ decide (a.tmod b < 0) = true) ∨ ((a.tmod b != 0) = true ∧ decide (b < 0) = false ∧ decide (a.tmod b < 0) = false) := by
      by_cases c4 : a.tmod b = 0
      · exact Or.inl ⟨by rw [bne_eq_false_iff_eq]; exact c4, trivial⟩
      · have c5 : (a.tmod b < 0) ↔ (b < 0) := by
          by_cases c6 : (a.tmod b < 0) ↔ (b < 0)
          · exact c6
          · exact absurd ⟨c4, c6⟩ c3
        have c7 : (a.tmod b != 0) = true := by rw [bne_iff_ne]; exact c4
        by_cases c6 : b < 0
        · exact Or.inr (Or.inl ⟨c7, decide_eq_true c6, decide_eq_true (c5.2 c6)⟩)
        · exact Or.inr (Or.inr ⟨c7, decide_eq_false c6, decide_eq_false (fun h => c6 (c5.1 h))⟩)
    clear c3
    rcases c9 with ⟨d4, _⟩ | ⟨d4, d6, d7⟩ | ⟨d4, d6, d7⟩ <;> rcases c8 with ⟨d8, d9⟩ | ⟨d8, d9⟩
    all_goals
      go_enter Try.func51, Try.ntmps51
      go_wp2
      go_quiet (fail)
      go_wp2
      go_ret3
      exact ⟨rfl, fin _⟩

theorem div_zero (a : Int) (w : World) :
    Calls Try.prog 51 #[.int .i64 a, .int .i64 0] w fun e w' => e = .returned (.tuple #[.int .i64 0, .int .i64 0, .int .i64 3]) ∧ Drew w w' := by
  have fin : Drew w w := ⟨0, rfl⟩
  go_enter Try.func51, Try.ntmps51
  go_wp2
  go_ret3
  exact ⟨rfl, fin⟩

theorem div_over (w : World) :
    Calls Try.prog 51 #[.int .i64 (-9223372036854775808), .int .i64 (-1)] w fun e w' => e = .returned (.tuple #[.int .i64 0, .int .i64 0, .int .i64 2]) ∧ Drew w w' := by
  have fin : Drew w w := ⟨0, rfl⟩
  go_enter Try.func51, Try.ntmps51
  go_wp2
  go_ret3
  exact ⟨rfl, fin⟩

end Go.Proofs.Ytodpmdmfdnbehab.Wc
