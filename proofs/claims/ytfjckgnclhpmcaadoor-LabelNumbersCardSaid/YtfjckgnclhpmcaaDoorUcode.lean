/- What Add, Neg, Mul and Div of package whole come to (XWcode without Sub and Gcd, for seats that lack these). -/
import Derived.Test.YtfjckgnclhpmcaaDoorChecked
import Derived.WalkKit
import Derived.RowKit
import Derived.RowKit3
import Derived.Deep.QuietTactic
import Derived.BigQuiet
import Derived.Lib.Hide
import Derived.Test.YtfjckgnclhpmcaaDoorWmath
namespace Go.Proofs.YtfjckgnclhpmcaaDoor.Wc
set_option linter.unusedSimpArgs false
set_option linter.unusedVariables false
open Go.RowKit Go.Proofs.YtfjckgnclhpmcaaDoor.Wm

set_option maxHeartbeats 400000

theorem neg_yes (a : Int) (w : World) (h : Fit a) (h1 : a ≠ -9223372036854775808) :
    Calls Tryd.prog 31 #[.int .i64 a] w fun e w' => e = .returned (.tuple #[.int .i64 (-a), .int .i64 0]) ∧ w = w' := by
  unfold Fit at h
  have d1 : (a == -9223372036854775808) = false := beq_eq_false_iff_ne.2 h1
  have h2 : -9223372036854775807 ≤ a := by omega
  obtain ⟨h3, h4⟩ := h
  clear h1 h3
  go_enter Tryd.func31, Tryd.ntmps31
  go_wp2
  go_ret2
  exact ⟨rfl, rfl⟩

theorem neg_no (w : World) :
    Calls Tryd.prog 31 #[.int .i64 (-9223372036854775808)] w fun e w' => e = .returned (.tuple #[.int .i64 0, .int .i64 2]) ∧ w = w' := by
  go_enter Tryd.func31, Tryd.ntmps31
  go_wp2
  go_ret2
  exact ⟨rfl, rfl⟩

theorem mul_yes (a b : Int) (w : World) (ha : Fit a) (hb : Fit b) (h : Fit (a * b)) :
    Calls Tryd.prog 39 #[.int .i64 a, .int .i64 b] w fun e w' => e = .returned (.tuple #[.int .i64 (a * b), .int .i64 0]) ∧ w = w' := by
  by_cases c1 : b = 0
  · subst c1
    rw [Int.mul_zero]
    clear ha hb h
    go_enter Tryd.func39, Tryd.ntmps39
    go_wp2
    go_ret2
    exact ⟨rfl, rfl⟩
  · by_cases c2 : b = -1
    · subst c2
      have hn : a ≠ -9223372036854775808 := by intro e; subst e; exact absurd h (by decide)
      have e1 : a * -1 = -a := by omega
      rw [e1]
      clear e1
      clear h hb
      have ct := neg_yes a w ha hn
      clear ha hn c1
      go_enter Tryd.func39, Tryd.ntmps39
      go_wp2_with (go_at_call 31; refine ct.mono ?_; rintro e w' ⟨rfl, rfl⟩)
      go_ret2
      exact ⟨rfl, rfl⟩
    · have d0 : (b == 0) = false := beq_eq_false_iff_ne.2 c1
      have d1 : (b == -1) = false := beq_eq_false_iff_ne.2 c2
      have d2 : (a != a) = false := by simp
      clear hb c2
      unfold Fit at h ha
      go_enter Tryd.func39, Tryd.ntmps39
      go_wp2
      go_ret2
      exact ⟨rfl, rfl⟩

theorem mul_no (a b : Int) (w : World) (ha : Fit a) (hb : Fit b) (h : ¬ Fit (a * b)) :
    Calls Tryd.prog 39 #[.int .i64 a, .int .i64 b] w fun e w' => e = .returned (.tuple #[.int .i64 0, .int .i64 2]) ∧ w = w' := by
  have c1 : b ≠ 0 := by intro e; subst e; rw [Int.mul_zero] at h; exact h (by decide)
  by_cases c2 : b = -1
  · subst c2
    have hn : a = -9223372036854775808 := by unfold Fit at *; omega
    subst hn
    have ct := neg_no w
    clear ha hb h c1
    go_enter Tryd.func39, Tryd.ntmps39
    go_wp2_with (go_at_call 31; refine ct.mono ?_; rintro e w' ⟨rfl, rfl⟩)
    go_ret2
    exact ⟨rfl, rfl⟩
  · have d0 : (b == 0) = false := beq_eq_false_iff_ne.2 c1
    have d1 : (b == -1) = false := beq_eq_false_iff_ne.2 c2
    have q1 := mul_over c1 hb h
    have q2 : wrap64 ((wrap64 (a * b)).tdiv b) = (wrap64 (a * b)).tdiv b := fit_wrap (tdiv_fit (wrap_fit _) (by omega))
    have d2 : (wrap64 ((wrap64 (a * b)).tdiv b) != a) = true := by rw [q2, bne_iff_ne]; exact q1
    clear q1 q2 ha hb h c2
    go_enter Tryd.func39, Tryd.ntmps39
    go_wp2
    go_ret2
    exact ⟨rfl, rfl⟩

/-- the world has at most drawn -/
def Drew (w w' : World) : Prop := ∃ n, w' = w.drewN n

/-- the two tests ahead of the quotient -/
theorem div_tests {a b : Int} (c2 : ¬ (a = -9223372036854775808 ∧ b = -1)) :
    ((a == -9223372036854775808) = true ∧ (b == -1) = false) ∨ ((a == -9223372036854775808) = false ∧ True) := by
  by_cases c7 : a = -9223372036854775808
  · exact Or.inl ⟨beq_iff_eq.2 c7, beq_eq_false_iff_ne.2 (fun h => c2 ⟨c7, h⟩)⟩
  · exact Or.inr ⟨beq_eq_false_iff_ne.2 c7, trivial⟩

end Go.Proofs.YtfjckgnclhpmcaaDoor.Wc
