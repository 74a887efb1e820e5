/- WholeBack's walk. -/
import Derived.Test.YtieopihgnebglaaWlive
namespace Go.Proofs.Ytieopihgnebglaa.Wl
open Go.RowKit Go.Proofs.Ytieopihgnebglaa.Wm Go.Proofs.Ytieopihgnebglaa.Wc

set_option maxHeartbeats 400000

/-- WholeBack, walked: b has an opposite -/
theorem back_most (a b : Int) (w : World) (ha : Fit a) (hb : Fit b) (hN : b ≠ -9223372036854775808) :
    Calls Try.prog 4 #[.int .i64 a, .int .i64 b] w fun e w' => e = .returned (.bool true) ∧ Grown w w' := by
  have rs : Fit (a + b - b) := by rw [show a + b - b = a by omega]; exact ha
  have ra : Fit (a - b + b) := by rw [show a - b + b = a by omega]; exact ha
  have hn : Fit (-b) := by unfold Fit at *; omega
  have ny : Fit (a - b) → ∀ w, Calls Try.prog 10 #[.int .i64 a, .int .i64 (-b)] w fun e w' => e = .returned (.tuple #[.int .i64 (a - b), .int .i64 0]) ∧ w = w' := by
    intro h w
    have := add_yes a (-b) w ha hn (by rw [← Int.sub_eq_add_neg]; exact h)
    rw [← Int.sub_eq_add_neg] at this; exact this
  have nn : ¬ Fit (a - b) → ∀ w, Calls Try.prog 10 #[.int .i64 a, .int .i64 (-b)] w fun e w' => e = .returned (.tuple #[.int .i64 0, .int .i64 2]) ∧ w = w' := by
    intro h w
    exact add_no a (-b) w ha hn (by rw [← Int.sub_eq_add_neg]; exact h)
  go_enter Try.func4, Try.ntmps4
  go_wp2_with fail
  refine (live_ok _).mono ?_
  rintro e w' ⟨rfl, n, rfl⟩
  go_wp2_with fail
  by_cases hA : Fit (a + b)
  · refine (add_yes a b _ ha hb hA).mono ?_
    rintro e w' ⟨rfl, rfl⟩
    go_wp2_with fail
    refine (sub_yes (a + b) b _ hA hb rs).mono ?_
    rintro e w' ⟨rfl, rfl⟩
    go_wp2_with fail
    by_cases hS : Fit (a - b)
    · refine (sub_yes a b _ ha hb hS).mono ?_
      rintro e w' ⟨rfl, rfl⟩
      go_wp2_with fail
      refine (add_yes (a - b) b _ hS hb ra).mono ?_
      rintro e w' ⟨rfl, rfl⟩
      go_wp2_with fail
      refine (neg_yes b _ hb hN).mono ?_
      rintro e w' ⟨rfl, rfl⟩
      go_wp2_with fail
      refine (ny hS _).mono ?_
      rintro e w' ⟨rfl, rfl⟩
      go_wp2
      go_ret
      exact ⟨by simp, grown_drew _ _⟩
    · refine (sub_no a b _ ha hb hS).mono ?_
      rintro e w' ⟨rfl, rfl⟩
      go_wp2_with fail
      refine (neg_yes b _ hb hN).mono ?_
      rintro e w' ⟨rfl, rfl⟩
      go_wp2_with fail
      refine (nn hS _).mono ?_
      rintro e w' ⟨rfl, rfl⟩
      go_wp2
      go_ret
      exact ⟨by simp, grown_drew _ _⟩
  · refine (add_no a b _ ha hb hA).mono ?_
    rintro e w' ⟨rfl, rfl⟩
    go_wp2_with fail
    by_cases hS : Fit (a - b)
    · refine (sub_yes a b _ ha hb hS).mono ?_
      rintro e w' ⟨rfl, rfl⟩
      go_wp2_with fail
      refine (add_yes (a - b) b _ hS hb ra).mono ?_
      rintro e w' ⟨rfl, rfl⟩
      go_wp2_with fail
      refine (neg_yes b _ hb hN).mono ?_
      rintro e w' ⟨rfl, rfl⟩
      go_wp2_with fail
      refine (ny hS _).mono ?_
      rintro e w' ⟨rfl, rfl⟩
      go_wp2
      go_ret
      exact ⟨by simp, grown_drew _ _⟩
    · refine (sub_no a b _ ha hb hS).mono ?_
      rintro e w' ⟨rfl, rfl⟩
      go_wp2_with fail
      refine (neg_yes b _ hb hN).mono ?_
      rintro e w' ⟨rfl, rfl⟩
      go_wp2_with fail
      refine (nn hS _).mono ?_
      rintro e w' ⟨rfl, rfl⟩
      go_wp2
      go_ret
      exact ⟨by simp, grown_drew _ _⟩

/-- WholeBack, walked: b has no opposite -/
theorem back_least (a : Int) (w : World) (ha : Fit a) :
    Calls Try.prog 4 #[.int .i64 a, .int .i64 (-9223372036854775808)] w fun e w' => e = .returned (.bool true) ∧ Grown w w' := by
  have hb : Fit (-9223372036854775808) := by decide
  by_cases h0 : 0 ≤ a
  · have hA : Fit (a + -9223372036854775808) := by unfold Fit at *; omega
    have hS : ¬ Fit (a - -9223372036854775808) := by unfold Fit at *; omega
    have ct : ∀ w, Calls Try.prog 12 #[.int .i64 (a + -9223372036854775808), .int .i64 (-9223372036854775808)] w fun e w' => e = .returned (.tuple #[.int .i64 a, .int .i64 0]) ∧ w = w' := by
      intro w
      have e1 : a + -9223372036854775808 - -9223372036854775808 = a := by omega
      have := sub_yes (a + -9223372036854775808) (-9223372036854775808) w hA hb (by rw [e1]; exact ha)
      rw [e1] at this; exact this
    clear h0
    go_enter Try.func4, Try.ntmps4
    go_wp2_with fail
    refine (live_ok _).mono ?_
    rintro e w' ⟨rfl, n, rfl⟩
    go_wp2_with fail
    refine (add_yes a _ _ ha hb hA).mono ?_
    rintro e w' ⟨rfl, rfl⟩
    go_wp2_with fail
    refine (ct _).mono ?_
    rintro e w' ⟨rfl, rfl⟩
    go_wp2_with fail
    refine (sub_no a _ _ ha hb hS).mono ?_
    rintro e w' ⟨rfl, rfl⟩
    go_wp2_with fail
    refine (neg_no _).mono ?_
    rintro e w' ⟨rfl, rfl⟩
    go_wp2
    go_ret
    exact ⟨rfl, grown_drew _ _⟩
  · have hA : ¬ Fit (a + -9223372036854775808) := by unfold Fit at *; omega
    have hS : Fit (a - -9223372036854775808) := by unfold Fit at *; omega
    have ct : ∀ w, Calls Try.prog 10 #[.int .i64 (a - -9223372036854775808), .int .i64 (-9223372036854775808)] w fun e w' => e = .returned (.tuple #[.int .i64 a, .int .i64 0]) ∧ w = w' := by
      intro w
      have e1 : a - -9223372036854775808 + -9223372036854775808 = a := by omega
      have := add_yes (a - -9223372036854775808) (-9223372036854775808) w hS hb (by rw [e1]; exact ha)
      rw [e1] at this; exact this
    clear h0
    go_enter Try.func4, Try.ntmps4
    go_wp2_with fail
    refine (live_ok _).mono ?_
    rintro e w' ⟨rfl, n, rfl⟩
    go_wp2_with fail
    refine (add_no a _ _ ha hb hA).mono ?_
    rintro e w' ⟨rfl, rfl⟩
    go_wp2_with fail
    refine (sub_yes a _ _ ha hb hS).mono ?_
    rintro e w' ⟨rfl, rfl⟩
    go_wp2_with fail
    refine (ct _).mono ?_
    rintro e w' ⟨rfl, rfl⟩
    go_wp2_with fail
    refine (neg_no _).mono ?_
    rintro e w' ⟨rfl, rfl⟩
    go_wp2
    go_ret
    exact ⟨rfl, grown_drew _ _⟩

theorem back_walk (a b : Int) (ha : (Lit.int .i64 a).wf = true) (hb : (Lit.int .i64 b).wf = true) (w : World) :
    Calls Try.prog 4 #[.int .i64 a, .int .i64 b] w fun e w' => e = .returned (.bool true) ∧ Grown w w' := by
  by_cases h : b = -9223372036854775808
  · subst h; exact back_least a w (fit_wf ha)
  · exact back_most a b w (fit_wf ha) (fit_wf hb) h

end Go.Proofs.Ytieopihgnebglaa.Wl
