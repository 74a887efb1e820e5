/- What Add, Neg, Mul and Div of package whole come to (XWcode without Sub and Gcd, for seats that lack these). -/
import Derived.Test.YtbpnfkhoajlffaaChecked
import Derived.WalkKit
import Derived.RowKit
import Derived.RowKit3
import Derived.Deep.QuietTactic
import Derived.BigQuiet
import Derived.Lib.Hide
import Derived.Test.YtbpnfkhoajlffaaWmath
namespace Go.Proofs.Ytbpnfkhoajlffaa.Wc
open Go.RowKit Go.Proofs.Ytbpnfkhoajlffaa.Wm

set_option maxHeartbeats 400000

theorem add_yes (a b : Int) (w : World) (ha : Fit a) (hb : Fit b) (h : Fit (a + b)) :
    Calls Try.prog 31 #[.int .i64 a, .int .i64 b] w fun e w' => e = .returned (.tuple #[.int .i64 (a + b), .int .i64 0]) ∧ w = w' := by
  unfold Fit at ha hb h
  by_cases c1 : a < 0 <;> by_cases c2 : b < 0 <;> by_cases c3 : a + b < 0
  all_goals first | (exfalso; omega) | skip
  all_goals
    go_enter Try.func31, Try.ntmps31
    go_wp2
    go_ret2
    exact ⟨rfl, rfl⟩

theorem add_no (a b : Int) (w : World) (ha : Fit a) (hb : Fit b) (h : ¬ Fit (a + b)) :
    Calls Try.prog 31 #[.int .i64 a, .int .i64 b] w fun e w' => e = .returned (.tuple #[.int .i64 0, .int .i64 2]) ∧ w = w' := by
  by_cases c1 : 0 ≤ a
  · obtain ⟨c2, c3⟩ := add_high ha hb h c1
    clear ha hb h
    have d1 : decide (a < 0) = false := decide_eq_false (by omega)
    have d2 : decide (b < 0) = false := decide_eq_false (by omega)
    have d3 : decide (wrap64 (a + b) < 0) = true := decide_eq_true c3
    go_enter Try.func31, Try.ntmps31
    go_wp2
    go_ret2
    exact ⟨rfl, rfl⟩
  · obtain ⟨c2, c3⟩ := add_low ha hb h (by omega)
    clear ha hb h
    have d1 : decide (a < 0) = true := decide_eq_true (by omega)
    have d2 : decide (b < 0) = true := decide_eq_true (by omega)
    have d3 : decide (wrap64 (a + b) < 0) = false := decide_eq_false (by omega)
    go_enter Try.func31, Try.ntmps31
    go_wp2
    go_ret2
    exact ⟨rfl, rfl⟩

theorem neg_yes (a : Int) (w : World) (h : Fit a) (h1 : a ≠ -9223372036854775808) :
    Calls Try.prog 33 #[.int .i64 a] w fun e w' => e = .returned (.tuple #[.int .i64 (-a), .int .i64 0]) ∧ w = w' := by
  unfold Fit at h
  have d1 : (a == -9223372036854775808) = false := beq_eq_false_iff_ne.2 h1
  have h2 : -9223372036854775807 ≤ a := by omega
  obtain ⟨h3, h4⟩ := h
  clear h1 h3
  go_enter Try.func33, Try.ntmps33
  go_wp2
  go_ret2
  exact ⟨rfl, rfl⟩

theorem neg_no (w : World) :
    Calls Try.prog 33 #[.int .i64 (-9223372036854775808)] w fun e w' => e = .returned (.tuple #[.int .i64 0, .int .i64 2]) ∧ w = w' := by
  go_enter Try.func33, Try.ntmps33
  go_wp2
  go_ret2
  exact ⟨rfl, rfl⟩

theorem mul_yes (a b : Int) (w : World) (ha : Fit a) (hb : Fit b) (h : Fit (a * b)) :
    Calls Try.prog 30 #[.int .i64 a, .int .i64 b] w fun e w' => e = .returned (.tuple #[.int .i64 (a * b), .int .i64 0]) ∧ w = w' := by
  by_cases c1 : b = 0
  · subst c1
    rw [Int.mul_zero]
    clear ha hb h
    go_enter Try.func30, Try.ntmps30
    go_wp2
    go_ret2
    exact ⟨rfl, rfl⟩
  · by_cases c2 : b = -1
    · subst c2
      have hn : a ≠ -9223372036854775808 := by intro e; subst e; exact absurd h (by decide)
      have e1 : a * -1 = -a := by omega
      rw [e1]
      clear e1
      clear h hb
      have ct := neg_yes a w ha hn
      clear ha hn c1
      go_enter Try.func30, Try.ntmps30
      go_wp2_with (go_at_call 33; refine ct.mono ?_; rintro e w' ⟨rfl, rfl⟩)
      go_ret2
      exact ⟨rfl, rfl⟩
    · have d0 : (b == 0) = false := beq_eq_false_iff_ne.2 c1
      have d1 : (b == -1) = false := beq_eq_false_iff_ne.2 c2
      have d2 : (a != a) = false := by simp
      clear hb c2
      unfold Fit at h ha
      go_enter Try.func30, Try.ntmps30
      go_wp2
      go_ret2
      exact ⟨rfl, rfl⟩

theorem mul_no (a b : Int) (w : World) (ha : Fit a) (hb : Fit b) (h : ¬ Fit (a * b)) :
    Calls Try.prog 30 #[.int .i64 a, .int .i64 b] w fun e w' => e = .returned (.tuple #[.int .i64 0, .int .i64 2]) ∧ w = w' := by
  have c1 : b ≠ 0 := by intro e; subst e; rw [Int.mul_zero] at h; exact h (by decide)
  by_cases c2 : b = -1
  · subst c2
    have hn : a = -9223372036854775808 := by unfold Fit at *; omega
    subst hn
    have ct := neg_no w
    clear ha hb h c1
    go_enter Try.func30, Try.ntmps30
    go_wp2_with (go_at_call 33; refine ct.mono ?_; rintro e w' ⟨rfl, rfl⟩)
    go_ret2
    exact ⟨rfl, rfl⟩
  · have d0 : (b == 0) = false := beq_eq_false_iff_ne.2 c1
    have d1 : (b == -1) = false := beq_eq_false_iff_ne.2 c2
    have q1 := mul_over c1 hb h
    have q2 : wrap64 ((wrap64 (a * b)).tdiv b) = (wrap64 (a * b)).tdiv b := fit_wrap (tdiv_fit (wrap_fit _) (by omega))
    have d2 : (wrap64 ((wrap64 (a * b)).tdiv b) != a) = true := by rw [q2, bne_iff_ne]; exact q1
    clear q1 q2 ha hb h c2
    go_enter Try.func30, Try.ntmps30
    go_wp2
    go_ret2
    exact ⟨rfl, rfl⟩

/-- the world has at most drawn -/
def Drew (w w' : World) : Prop := ∃ n, w' = w.drewN n

/-- the two tests ahead of the quotient -/
theorem div_tests {a b : Int} (c2 : ¬ (a = -9223372036854775808 ∧ b = -1)) :
    ((a == -9223372036854775808) = true ∧ (b == -1) = false) ∨ ((a == -9223372036854775808) = false ∧ True) := by
  by_cases c7 : a = -9223372036854775808
  · exact Or.inl ⟨beq_iff_eq.2 c7, beq_eq_false_iff_ne.2 (fun h => c2 ⟨c7, h⟩)⟩
  · exact Or.inr ⟨beq_eq_false_iff_ne.2 c7, trivial⟩

theorem div_yes (a b : Int) (w : World) (ha : Fit a) (hb : Fit b) (c1 : b ≠ 0) (c2 : ¬ (a = -9223372036854775808 ∧ b = -1)) :
    Calls Try.prog 32 #[.int .i64 a, .int .i64 b] w fun e w' => e = .returned (.tuple #[.int .i64 (dq a b), .int .i64 (dr a b), .int .i64 0]) ∧ Drew w w' := by
  have d0 : (b == 0) = false := beq_eq_false_iff_ne.2 c1
  have k1 : IntKind.i64.wrap (a.tdiv b) = a.tdiv b := IntWalk.i64_in _ (tdiv_fit ha c2)
  have k2 := dq_fit ha c1 c2
  have k3 : Fit (dr a b) := by
    unfold Fit at *
    by_cases hp : 0 < b
    · have := dr_pos a hp; omega
    · have := dr_neg a (b := b) (by omega); omega
  have fin : ∀ n, Drew w (w.drewN n) := fun n => ⟨n, rfl⟩
  have c8 := div_tests c2
  clear c2 ha hb
  by_cases c3 : a.tmod b ≠ 0 ∧ ¬ ((a.tmod b < 0) ↔ (b < 0))
  · have e1 : dq a b = a.tdiv b - 1 := by unfold dq; rw [if_pos c3]
    have e2 : dr a b = a.tmod b + b := by unfold dr; rw [if_pos c3]
    rw [e1] at k2 ⊢; rw [e2] at k3 ⊢
    clear e1 e2
    obtain ⟨c4, c5⟩ := c3
    have d4 : (a.tmod b != 0) = true := by rw [bne_iff_ne]; exact c4
    unfold Fit at k2 k3
    obtain ⟨k4, k5⟩ := k2
    obtain ⟨k6, k7⟩ := k3
    have c9 : (decide (b < 0) = true ∧ decide (a.tmod b < 0) = false) ∨ (decide (b < 0) = false ∧ decide (a.tmod b < 0) = true) := by
      simp only [decide_eq_true_eq, decide_eq_false_iff_not]; omega
    clear c5 c4
    rcases c9 with ⟨d6, d7⟩ | ⟨d6, d7⟩ <;> rcases c8 with ⟨d8, d9⟩ | ⟨d8, d9⟩
    all_goals
      go_enter Try.func32, Try.ntmps32
      go_wp2
      go_quiet (fail)
      go_wp2
      go_ret3
      exact ⟨rfl, fin _⟩
  · have e1 : dq a b = a.tdiv b := by unfold dq; rw [if_neg c3]
    have e2 : dr a b = a.tmod b := by unfold dr; rw [if_neg c3]
    rw [e1, e2]
    clear e1 e2 k2 k3
    have c9 : ((a.tmod b != 0) = false ∧ True) ∨ ((a.tmod b != 0) = true ∧ decide (b < 0) = true ∧ decide (a.tmod b < 0) = true) ∨ ((a.tmod b != 0) = true ∧ decide (b < 0) = false ∧ decide (a.tmod b < 0) = false) := by
      by_cases c4 : a.tmod b = 0
      · exact Or.inl ⟨by rw [bne_eq_false_iff_eq]; exact c4, trivial⟩
      · have c5 : (a.tmod b < 0) ↔ (b < 0) := by
          by_cases c6 : (a.tmod b < 0) ↔ (b < 0)
          · exact c6
          · exact absurd ⟨c4, c6⟩ c3
        have c7 : (a.tmod b != 0) = true := by rw [bne_iff_ne]; exact c4
        by_cases c6 : b < 0
        · exact Or.inr (Or.inl ⟨c7, decide_eq_true c6, decide_eq_true (c5.2 c6)⟩)
        · exact Or.inr (Or.inr ⟨c7, decide_eq_false c6, decide_eq_false (fun h => c6 (c5.1 h))⟩)
    clear c3
    rcases c9 with ⟨d4, _⟩ | ⟨d4, d6, d7⟩ | ⟨d4, d6, d7⟩ <;> rcases c8 with ⟨d8, d9⟩ | ⟨d8, d9⟩
    all_goals
      go_enter Try.func32, Try.ntmps32
      go_wp2
      go_quiet (fail)
      go_wp2
      go_ret3
      exact ⟨rfl, fin _⟩

theorem div_zero (a : Int) (w : World) :
    Calls Try.prog 32 #[.int .i64 a, .int .i64 0] w fun e w' => e = .returned (.tuple #[.int .i64 0, .int .i64 0, .int .i64 3]) ∧ Drew w w' := by
  have fin : Drew w w := ⟨0, rfl⟩
  go_enter Try.func32, Try.ntmps32
  go_wp2
  go_ret3
  exact ⟨rfl, fin⟩

theorem div_over (w : World) :
    Calls Try.prog 32 #[.int .i64 (-9223372036854775808), .int .i64 (-1)] w fun e w' => e = .returned (.tuple #[.int .i64 0, .int .i64 0, .int .i64 2]) ∧ Drew w w' := by
  have fin : Drew w w := ⟨0, rfl⟩
  go_enter Try.func32, Try.ntmps32
  go_wp2
  go_ret3
  exact ⟨rfl, fin⟩

end Go.Proofs.Ytbpnfkhoajlffaa.Wc
