/- What each function of package whole, and of the reference beside it, comes to: one contract a function. -/
import Derived.Test.YtieopihgnebglaaChecked
import Derived.WalkKit
import Derived.RowKit
import Derived.RowKit3
import Derived.Deep.QuietTactic
import Derived.BigQuiet
import Derived.Lib.Hide
import Derived.Test.YtieopihgnebglaaWmath
namespace Go.Proofs.Ytieopihgnebglaa.Wc
open Go.RowKit Go.Proofs.Ytieopihgnebglaa.Wm

set_option maxHeartbeats 400000

theorem add_yes (a b : Int) (w : World) (ha : Fit a) (hb : Fit b) (h : Fit (a + b)) :
    Calls Try.prog 10 #[.int .i64 a, .int .i64 b] w fun e w' => e = .returned (.tuple #[.int .i64 (a + b), .int .i64 0]) ∧ w = w' := by
  unfold Fit at ha hb h
  by_cases c1 : a < 0 <;> by_cases c2 : b < 0 <;> by_cases c3 : a + b < 0
  all_goals first | (exfalso; omega) | skip
  all_goals
    go_enter Try.func10, Try.ntmps10
    go_wp2
    go_ret2
    exact ⟨rfl, rfl⟩

theorem add_no (a b : Int) (w : World) (ha : Fit a) (hb : Fit b) (h : ¬ Fit (a + b)) :
    Calls Try.prog 10 #[.int .i64 a, .int .i64 b] w fun e w' => e = .returned (.tuple #[.int .i64 0, .int .i64 2]) ∧ w = w' := by
  by_cases c1 : 0 ≤ a
  · obtain ⟨c2, c3⟩ := add_high ha hb h c1
    clear ha hb h
    have d1 : decide (a < 0) = false := decide_eq_false (by omega)
    have d2 : decide (b < 0) = false := decide_eq_false (by omega)
    have d3 : decide (wrap64 (a + b) < 0) = true := decide_eq_true c3
    go_enter Try.func10, Try.ntmps10
    go_wp2
    go_ret2
    exact ⟨rfl, rfl⟩
  · obtain ⟨c2, c3⟩ := add_low ha hb h (by omega)
    clear ha hb h
    have d1 : decide (a < 0) = true := decide_eq_true (by omega)
    have d2 : decide (b < 0) = true := decide_eq_true (by omega)
    have d3 : decide (wrap64 (a + b) < 0) = false := decide_eq_false (by omega)
    go_enter Try.func10, Try.ntmps10
    go_wp2
    go_ret2
    exact ⟨rfl, rfl⟩

theorem sub_yes (a b : Int) (w : World) (ha : Fit a) (hb : Fit b) (h : Fit (a - b)) :
    Calls Try.prog 12 #[.int .i64 a, .int .i64 b] w fun e w' => e = .returned (.tuple #[.int .i64 (a - b), .int .i64 0]) ∧ w = w' := by
  unfold Fit at ha hb h
  by_cases c1 : a < 0 <;> by_cases c2 : b < 0 <;> by_cases c3 : a - b < 0
  all_goals first | (exfalso; omega) | skip
  all_goals
    go_enter Try.func12, Try.ntmps12
    go_wp2
    go_ret2
    exact ⟨rfl, rfl⟩

theorem sub_no (a b : Int) (w : World) (ha : Fit a) (hb : Fit b) (h : ¬ Fit (a - b)) :
    Calls Try.prog 12 #[.int .i64 a, .int .i64 b] w fun e w' => e = .returned (.tuple #[.int .i64 0, .int .i64 2]) ∧ w = w' := by
  by_cases c1 : 0 ≤ a
  · obtain ⟨c2, c3⟩ := sub_high ha hb h c1
    clear ha hb h
    have d1 : decide (a < 0) = false := decide_eq_false (by omega)
    have d2 : decide (b < 0) = true := decide_eq_true (by omega)
    have d3 : decide (wrap64 (a - b) < 0) = true := decide_eq_true c3
    go_enter Try.func12, Try.ntmps12
    go_wp2
    go_ret2
    exact ⟨rfl, rfl⟩
  · obtain ⟨c2, c3⟩ := sub_low ha hb h (by omega)
    clear ha hb h
    have d1 : decide (a < 0) = true := decide_eq_true (by omega)
    have d2 : decide (b < 0) = false := decide_eq_false (by omega)
    have d3 : decide (wrap64 (a - b) < 0) = false := decide_eq_false (by omega)
    go_enter Try.func12, Try.ntmps12
    go_wp2
    go_ret2
    exact ⟨rfl, rfl⟩

theorem neg_yes (a : Int) (w : World) (h : Fit a) (h1 : a ≠ -9223372036854775808) :
    Calls Try.prog 16 #[.int .i64 a] w fun e w' => e = .returned (.tuple #[.int .i64 (-a), .int .i64 0]) ∧ w = w' := by
  unfold Fit at h
  have d1 : (a == -9223372036854775808) = false := beq_eq_false_iff_ne.2 h1
  have h2 : -9223372036854775807 ≤ a := by omega
  obtain ⟨h3, h4⟩ := h
  clear h1 h3
  go_enter Try.func16, Try.ntmps16
  go_wp2
  go_ret2
  exact ⟨rfl, rfl⟩

theorem neg_no (w : World) :
    Calls Try.prog 16 #[.int .i64 (-9223372036854775808)] w fun e w' => e = .returned (.tuple #[.int .i64 0, .int .i64 2]) ∧ w = w' := by
  go_enter Try.func16, Try.ntmps16
  go_wp2
  go_ret2
  exact ⟨rfl, rfl⟩

theorem mul_yes (a b : Int) (w : World) (ha : Fit a) (hb : Fit b) (h : Fit (a * b)) :
    Calls Try.prog 14 #[.int .i64 a, .int .i64 b] w fun e w' => e = .returned (.tuple #[.int .i64 (a * b), .int .i64 0]) ∧ w = w' := by
  by_cases c1 : b = 0
  · subst c1
    rw [Int.mul_zero]
    clear ha hb h
    go_enter Try.func14, Try.ntmps14
    go_wp2
    go_ret2
    exact ⟨rfl, rfl⟩
  · by_cases c2 : b = -1
    · subst c2
      have hn : a ≠ -9223372036854775808 := by intro e; subst e; exact absurd h (by decide)
      have e1 : a * -1 = -a := by omega
      rw [e1]
      clear e1
      clear h hb
      have ct := neg_yes a w ha hn
      clear ha hn c1
      go_enter Try.func14, Try.ntmps14
      go_wp2_with (go_at_call 16; refine ct.mono ?_; rintro e w' ⟨rfl, rfl⟩)
      go_ret2
      exact ⟨rfl, rfl⟩
    · have d0 : (b == 0) = false := beq_eq_false_iff_ne.2 c1
      have d1 : (b == -1) = false := beq_eq_false_iff_ne.2 c2
      have d2 : (a != a) = false := by simp
      clear hb c2
      unfold Fit at h ha
      go_enter Try.func14, Try.ntmps14
      go_wp2
      go_ret2
      exact ⟨rfl, rfl⟩

theorem mul_no (a b : Int) (w : World) (ha : Fit a) (hb : Fit b) (h : ¬ Fit (a * b)) :
    Calls Try.prog 14 #[.int .i64 a, .int .i64 b] w fun e w' => e = .returned (.tuple #[.int .i64 0, .int .i64 2]) ∧ w = w' := by
  have c1 : b ≠ 0 := by intro e; subst e; rw [Int.mul_zero] at h; exact h (by decide)
  by_cases c2 : b = -1
  · subst c2
    have hn : a = -9223372036854775808 := by unfold Fit at *; omega
    subst hn
    have ct := neg_no w
    clear ha hb h c1
    go_enter Try.func14, Try.ntmps14
    go_wp2_with (go_at_call 16; refine ct.mono ?_; rintro e w' ⟨rfl, rfl⟩)
    go_ret2
    exact ⟨rfl, rfl⟩
  · have d0 : (b == 0) = false := beq_eq_false_iff_ne.2 c1
    have d1 : (b == -1) = false := beq_eq_false_iff_ne.2 c2
    have q1 := mul_over c1 hb h
    have q2 : wrap64 ((wrap64 (a * b)).tdiv b) = (wrap64 (a * b)).tdiv b := fit_wrap (tdiv_fit (wrap_fit _) (by omega))
    have d2 : (wrap64 ((wrap64 (a * b)).tdiv b) != a) = true := by rw [q2, bne_iff_ne]; exact q1
    clear q1 q2 ha hb h c2
    go_enter Try.func14, Try.ntmps14
    go_wp2
    go_ret2
    exact ⟨rfl, rfl⟩

/-- the world has at most drawn -/
def Drew (w w' : World) : Prop := ∃ n, w' = w.drewN n

/-- the two tests ahead of the quotient -/
theorem div_tests {a b : Int} (c2 : ¬ (a = -9223372036854775808 ∧ b = -1)) :
    ((a == -9223372036854775808) = true ∧ (b == -1) = false) ∨ ((a == -9223372036854775808) = false ∧ True) := by
  by_cases c7 : a = -9223372036854775808
  · exact Or.inl ⟨beq_iff_eq.2 c7, beq_eq_false_iff_ne.2 (fun h => c2 ⟨c7, h⟩)⟩
  · exact Or.inr ⟨beq_eq_false_iff_ne.2 c7, trivial⟩

theorem div_yes (a b : Int) (w : World) (ha : Fit a) (hb : Fit b) (c1 : b ≠ 0) (c2 : ¬ (a = -9223372036854775808 ∧ b = -1)) :
    Calls Try.prog 18 #[.int .i64 a, .int .i64 b] w fun e w' => e = .returned (.tuple #[.int .i64 (dq a b), .int .i64 (dr a b), .int .i64 0]) ∧ Drew w w' := by
  have d0 : (b == 0) = false := beq_eq_false_iff_ne.2 c1
  have k1 : IntKind.i64.wrap (a.tdiv b) = a.tdiv b := IntWalk.i64_in _ (tdiv_fit ha c2)
  have k2 := dq_fit ha c1 c2
  have k3 : Fit (dr a b) := by
    unfold Fit at *
    by_cases hp : 0 < b
    · have := dr_pos a hp; omega
    · have := dr_neg a (b := b) (by omega); omega
  have fin : ∀ n, Drew w (w.drewN n) := fun n => ⟨n, rfl⟩
  have c8 := div_tests c2
  clear c2 ha hb
  by_cases c3 : a.tmod b ≠ 0 ∧ ¬ ((a.tmod b < 0) ↔ (b < 0))
  · have e1 : dq a b = a.tdiv b - 1 := by unfold dq; rw [if_pos c3]
    have e2 : dr a b = a.tmod b + b := by unfold dr; rw [if_pos c3]
    rw [e1] at k2 ⊢; rw [e2] at k3 ⊢
    clear e1 e2
    obtain ⟨c4, c5⟩ := c3
    have d4 : (a.tmod b != 0) = true := by rw [bne_iff_ne]; exact c4
    unfold Fit at k2 k3
    obtain ⟨k4, k5⟩ := k2
    obtain ⟨k6, k7⟩ := k3
    have c9 : (decide (b < 0) = true ∧ decide (a.tmod b < 0) = false) ∨ (decide (b < 0) = false ∧ decide (a.tmod b < 0) = true) := by
      simp only [decide_eq_true_eq, decide_eq_false_iff_not]; omega
    clear c5 c4
    rcases c9 with ⟨d6, d7⟩ | ⟨d6, d7⟩ <;> rcases c8 with ⟨d8, d9⟩ | ⟨d8, d9⟩
    all_goals
      go_enter Try.func18, Try.ntmps18
      go_wp2
      go_quiet (fail)
      go_wp2
      go_ret3
      exact ⟨rfl, fin _⟩
  · have e1 : dq a b = a.tdiv b := by unfold dq; rw [if_neg c3]
    have e2 : dr a b = a.tmod b := by unfold dr; rw [if_neg c3]
    rw [e1, e2]
    clear e1 e2 k2 k3
    have c9 : ((a.tmod b != 0) = false ∧ True) ∨ ((a.tmod b != 0) = true ∧ decide (b < 0) = true ∧ decide (a.tmod b < 0) = true) ∨ ((a.tmod b != 0) = true ∧ decide (b < 0) = false ∧ decide (a.tmod b < 0) = false) := by
      by_cases c4 : a.tmod b = 0
      · exact Or.inl ⟨by rw [bne_eq_false_iff_eq]; exact c4, trivial⟩
      · have c5 : (a.tmod b < 0) ↔ (b < 0) := by
          by_cases c6 : (a.tmod b < 0) ↔ (b < 0)
          · exact c6
          · exact absurd ⟨c4, c6⟩ c3
        have c7 : (a.tmod b != 0) = true := by rw [bne_iff_ne]; exact c4
        by_cases c6 : b < 0
        · exact Or.inr (Or.inl ⟨c7, decide_eq_true c6, decide_eq_true (c5.2 c6)⟩)
        · exact Or.inr (Or.inr ⟨c7, decide_eq_false c6, decide_eq_false (fun h => c6 (c5.1 h))⟩)
    clear c3
    rcases c9 with ⟨d4, _⟩ | ⟨d4, d6, d7⟩ | ⟨d4, d6, d7⟩ <;> rcases c8 with ⟨d8, d9⟩ | ⟨d8, d9⟩
    all_goals
      go_enter Try.func18, Try.ntmps18
      go_wp2
      go_quiet (fail)
      go_wp2
      go_ret3
      exact ⟨rfl, fin _⟩

theorem div_zero (a : Int) (w : World) :
    Calls Try.prog 18 #[.int .i64 a, .int .i64 0] w fun e w' => e = .returned (.tuple #[.int .i64 0, .int .i64 0, .int .i64 3]) ∧ Drew w w' := by
  have fin : Drew w w := ⟨0, rfl⟩
  go_enter Try.func18, Try.ntmps18
  go_wp2
  go_ret3
  exact ⟨rfl, fin⟩

theorem div_over (w : World) :
    Calls Try.prog 18 #[.int .i64 (-9223372036854775808), .int .i64 (-1)] w fun e w' => e = .returned (.tuple #[.int .i64 0, .int .i64 0, .int .i64 2]) ∧ Drew w w' := by
  have fin : Drew w w := ⟨0, rfl⟩
  go_enter Try.func18, Try.ntmps18
  go_wp2
  go_ret3
  exact ⟨rfl, fin⟩

/-- a number that a remainder of two numbers is fits -/
theorem tmod_fit {a b : Int} (hb : Fit b) (h : b ≠ 0) : Fit (a.tmod b) := by
  have := tmod_abs a h
  unfold Fit at *; omega

theorem gcd_any (a b : Int) (w : World) (ha : Fit a) (hb : Fit b) (v e1 : Int)
    (hv : (Fit (Nat.gcd a.natAbs b.natAbs : Int) ∧ v = (Nat.gcd a.natAbs b.natAbs : Int) ∧ e1 = 0) ∨ (¬ Fit (Nat.gcd a.natAbs b.natAbs : Int) ∧ v = 0 ∧ e1 = 2)) :
    Calls Try.prog 20 #[.int .i64 a, .int .i64 b] w fun e w' => e = .returned (.tuple #[.int .i64 v, .int .i64 e1]) ∧ Drew w w' := by
  have HV := Lib.hid hv
  clear hv
  go_enter Try.func20, Try.ntmps20
  go_wp2
  go_loopw [0, 1] (fun x y w' => ∃ p q : Int, x = .int .i64 p ∧ y = .int .i64 q ∧ Fit p ∧ Fit q ∧ Hid (Nat.gcd p.natAbs q.natAbs = Nat.gcd a.natAbs b.natAbs) ∧ Drew w w') (fun _ y _ => (intOf y).natAbs)
  case atStart => exact ⟨a, b, rfl, rfl, ha, hb, Lib.hid rfl, 0, rfl⟩
  case round =>
    obtain ⟨p, q, rfl, rfl, hp, hq, hg, n, rfl⟩ := hrel
    by_cases hz : q = 0
    · subst hz
      rw [gcd_zero] at hg
      by_cases c1 : p < 0
      · have d1 : decide (p < 0) = true := decide_eq_true c1
        by_cases c2 : p = -9223372036854775808
        · subst c2
          have hv : v = 0 ∧ e1 = 2 := by
            rcases HV.out with ⟨h1, h2, h3⟩ | ⟨h1, h2, h3⟩
            · rw [← hg.out] at h1; exact absurd h1 (by decide)
            · exact ⟨h2, h3⟩
          obtain ⟨rfl, rfl⟩ := hv
          clear HV hg hp hq c1
          go_wp2_with (go_at_call 16; refine (neg_no _).mono ?_; rintro e w' ⟨rfl, rfl⟩)
          go_ret2
          exact ⟨rfl, n, rfl⟩
        · have hv : v = -p ∧ e1 = 0 := by
            rcases HV.out with ⟨h1, h2, h3⟩ | ⟨h1, h2, h3⟩
            · rw [← hg.out] at h2; exact ⟨by omega, h3⟩
            · rw [← hg.out] at h1; exact absurd (by unfold Fit at *; omega) h1
          obtain ⟨rfl, rfl⟩ := hv
          have ct := fun w0 => neg_yes p w0 hp c2
          clear HV hg hp hq c1 c2
          go_wp2_with (go_at_call 16; refine (ct _).mono ?_; rintro e w' ⟨rfl, rfl⟩)
          go_ret2
          exact ⟨rfl, n, rfl⟩
      · have d1 : decide (p < 0) = false := decide_eq_false c1
        have hv : v = p ∧ e1 = 0 := by
          rcases HV.out with ⟨h1, h2, h3⟩ | ⟨h1, h2, h3⟩
          · rw [← hg.out] at h2; exact ⟨by omega, h3⟩
          · rw [← hg.out] at h1; exact absurd (by unfold Fit at *; omega) h1
        obtain ⟨rfl, rfl⟩ := hv
        clear HV hg hp hq
        go_wp2
        go_ret2
        exact ⟨rfl, n, rfl⟩
    · have d0 : (q != 0) = true := by rw [bne_iff_ne]; exact hz
      have hs : Hid (Nat.gcd q.natAbs (p.tmod q).natAbs = Nat.gcd a.natAbs b.natAbs) := Lib.hid (by rw [gcd_step]; exact hg.out)
      have ht : p.natAbs % q.natAbs < q.natAbs := Nat.mod_lt _ (by omega)
      have hf := tmod_fit (a := p) hq hz
      go_wp2
      go_quiet (fail)
      go_wp2
      go_roundw
      case rel => exact ⟨q, p.tmod q, rfl, rfl, hq, hf, hs, _, by rw [World.drewN_drewN]⟩
      case measure => simp [intOf]; omega

end Go.Proofs.Ytieopihgnebglaa.Wc
