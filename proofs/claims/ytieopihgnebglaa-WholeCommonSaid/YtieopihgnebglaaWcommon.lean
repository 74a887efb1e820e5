/- WholeCommon's walk. -/
import Derived.Test.YtieopihgnebglaaWlive
namespace Go.Proofs.Ytieopihgnebglaa.Wl
open Go.RowKit Go.Proofs.Ytieopihgnebglaa.Wm Go.Proofs.Ytieopihgnebglaa.Wc

set_option maxHeartbeats 400000

/-! ### plain facts -/
/-- what divides both is too great only where both are 0 or the least number, and not both 0 -/
theorem gcd_over {a b : Int} (ha : Fit a) (hb : Fit b) (h : ¬ Fit (Nat.gcd a.natAbs b.natAbs : Int)) :
    (a = -9223372036854775808 ∨ a = 0) ∧ (b = -9223372036854775808 ∨ b = 0) := by
  have h1 := Nat.gcd_dvd_left a.natAbs b.natAbs
  have h2 := Nat.gcd_dvd_right a.natAbs b.natAbs
  unfold Fit at *
  generalize Nat.gcd a.natAbs b.natAbs = g at *
  have h3 : 9223372036854775808 ≤ g := by omega
  obtain ⟨x, hx⟩ := h1
  obtain ⟨y, hy⟩ := h2
  constructor
  · by_cases hz : x = 0
    · subst hz; right; simp at hx; omega
    · left
      have : g * 1 ≤ g * x := Nat.mul_le_mul_left _ (by omega)
      omega
  · by_cases hz : y = 0
    · subst hz; right; simp at hy; omega
    · left
      have : g * 1 ≤ g * y := Nat.mul_le_mul_left _ (by omega)
      omega

theorem dr_dvd {a g : Int} (h0 : 0 < g) (h : g ∣ a) : dr a g = 0 ∧ g * dq a g = a := by
  have h1 := dq_dr a g
  have h2 := dr_pos a h0
  obtain ⟨x, rfl⟩ := h
  have h3 : dr (g * x) g = g * (x - dq (g * x) g) := by rw [Int.mul_sub]; omega
  have h4 : x - dq (g * x) g = 0 := by
    generalize x - dq (g * x) g = t at *
    rcases Int.lt_trichotomy t 0 with h5 | h5 | h5
    · have : g * t ≤ g * (-1) := Int.mul_le_mul_of_nonneg_left (by omega) (by omega)
      omega
    · exact h5
    · have : g * 1 ≤ g * t := Int.mul_le_mul_of_nonneg_left (by omega) (by omega)
      omega
  rw [h4, Int.mul_zero] at h3
  exact ⟨h3, by omega⟩

theorem gcd_parts {a b x y : Int} {g : Nat} (h0 : 0 < g) (h : Nat.gcd a.natAbs b.natAbs = g) (hx : (g : Int) * x = a) (hy : (g : Int) * y = b) :
    Nat.gcd x.natAbs y.natAbs = 1 := by
  have e1 : a.natAbs = g * x.natAbs := by rw [← hx, Int.natAbs_mul]; simp
  have e2 : b.natAbs = g * y.natAbs := by rw [← hy, Int.natAbs_mul]; simp
  rw [e1, e2, Nat.gcd_mul_left] at h
  have h3 : g * Nat.gcd x.natAbs y.natAbs = g * 1 := by omega
  exact Nat.eq_of_mul_eq_mul_left h0 h3

/-! ### the walk -/
theorem common_over (a b : Int) (w : World) (ha : Fit a) (hb : Fit b) (h : ¬ Fit (Nat.gcd a.natAbs b.natAbs : Int)) :
    Calls Try.prog 7 #[.int .i64 a, .int .i64 b] w fun e w' => e = .returned (.bool true) ∧ Grown w w' := by
  have c1 := fun w => gcd_any a b w ha hb 0 2 (Or.inr ⟨h, rfl, rfl⟩)
  have c2 := fun w => gcd_any b a w hb ha 0 2 (Or.inr ⟨by rw [Nat.gcd_comm]; exact h, rfl, rfl⟩)
  obtain ⟨ka, kb⟩ := gcd_over ha hb h
  have da : (a == -9223372036854775808) = true ∧ True ∨ (a == -9223372036854775808) = false ∧ (a == 0) = true := by
    by_cases hz : a = 0
    · right; subst hz; decide
    · left; exact ⟨beq_iff_eq.2 (by omega), trivial⟩
  have db : (b == -9223372036854775808) = true ∧ True ∨ (b == -9223372036854775808) = false ∧ (b == 0) = true := by
    by_cases hz : b = 0
    · right; subst hz; decide
    · left; exact ⟨beq_iff_eq.2 (by omega), trivial⟩
  clear ka kb ha hb h
  rcases da with ⟨d1, d2⟩ | ⟨d1, d2⟩ <;> rcases db with ⟨d3, d4⟩ | ⟨d3, d4⟩
  all_goals
    go_enter Try.func7, Try.ntmps7
    go_wp2_with fail
    refine (live_ok _).mono ?_
    rintro e w' ⟨rfl, n, rfl⟩
    go_wp2_with fail
    refine (c1 _).mono ?_
    rintro e w' ⟨rfl, n2, rfl⟩
    go_wp2_with fail
    refine (c2 _).mono ?_
    rintro e w' ⟨rfl, n3, rfl⟩
    go_wp2
    go_ret
    exact ⟨rfl, grown_drew _ _⟩

theorem common_zero (w : World) :
    Calls Try.prog 7 #[.int .i64 0, .int .i64 0] w fun e w' => e = .returned (.bool true) ∧ Grown w w' := by
  have c1 := fun w => gcd_any 0 0 w (by decide) (by decide) 0 0 (Or.inl ⟨by decide, by decide, rfl⟩)
  go_enter Try.func7, Try.ntmps7
  go_wp2_with fail
  refine (live_ok _).mono ?_
  rintro e w' ⟨rfl, n, rfl⟩
  go_wp2_with fail
  refine (c1 _).mono ?_
  rintro e w' ⟨rfl, n2, rfl⟩
  go_wp2_with fail
  refine (c1 _).mono ?_
  rintro e w' ⟨rfl, n3, rfl⟩
  go_wp2
  go_ret
  exact ⟨by simp, grown_drew _ _⟩

theorem common_most (a b : Int) (w : World) (ha : Fit a) (hb : Fit b) (g : Int) (hg : g = (Nat.gcd a.natAbs b.natAbs : Int)) (hf : Fit g) (h0 : 0 < g) :
    Calls Try.prog 7 #[.int .i64 a, .int .i64 b] w fun e w' => e = .returned (.bool true) ∧ Grown w w' := by
  have d1 : g ∣ a := by rw [hg]; exact Int.ofNat_dvd_left.2 (Nat.gcd_dvd_left _ _)
  have d2 : g ∣ b := by rw [hg]; exact Int.ofNat_dvd_left.2 (Nat.gcd_dvd_right _ _)
  obtain ⟨r1, q1⟩ := dr_dvd h0 d1
  obtain ⟨r2, q2⟩ := dr_dvd h0 d2
  have ndz : g ≠ 0 := by omega
  have c1 := fun w => gcd_any a b w ha hb g 0 (Or.inl ⟨by rw [← hg]; exact hf, hg, rfl⟩)
  have c2 := fun w => gcd_any b a w hb ha g 0 (Or.inl ⟨by rw [Nat.gcd_comm, ← hg]; exact hf, by rw [Nat.gcd_comm]; exact hg, rfl⟩)
  have c3 := fun w => div_yes a g w ha hf ndz (by omega)
  have c4 := fun w => div_yes b g w hb hf ndz (by omega)
  have hone : Nat.gcd (dq a g).natAbs (dq b g).natAbs = 1 := by
    refine gcd_parts (g := Nat.gcd a.natAbs b.natAbs) (by omega) rfl ?_ ?_
    · rw [← hg]; exact q1
    · rw [← hg]; exact q2
  have c5 := fun w => gcd_any (dq a g) (dq b g) w (dq_fit ha ndz (by omega)) (dq_fit hb ndz (by omega)) 1 0 (Or.inl ⟨by rw [hone]; decide, by rw [hone]; rfl, rfl⟩)
  rw [r1] at c3
  rw [r2] at c4
  by_cases hm : a = -9223372036854775808
  · have c6 := fun w => neg_no w
    rw [← hm] at c6
    clear hm hg hf ha hb d1 d2 r1 r2 q1 q2 hone ndz
    go_enter Try.func7, Try.ntmps7
    go_wp2_with fail
    refine (live_ok _).mono ?_
    rintro e w' ⟨rfl, n, rfl⟩
    go_wp2_with fail
    refine (c1 _).mono ?_
    rintro e w' ⟨rfl, n2, rfl⟩
    go_wp2_with fail
    refine (c2 _).mono ?_
    rintro e w' ⟨rfl, n3, rfl⟩
    go_wp2_with fail
    refine (c3 _).mono ?_
    rintro e w' ⟨rfl, n4, rfl⟩
    go_wp2_with fail
    refine (c4 _).mono ?_
    rintro e w' ⟨rfl, n5, rfl⟩
    go_wp2_with fail
    refine (c5 _).mono ?_
    rintro e w' ⟨rfl, n6, rfl⟩
    go_wp2_with fail
    refine (c6 _).mono ?_
    rintro e w' ⟨rfl, rfl⟩
    go_wp2
    go_ret
    exact ⟨rfl, grown_drew _ _⟩
  · have hna : Fit (-a) := by unfold Fit at *; omega
    have c6 := fun w => neg_yes a w ha hm
    have c7 := fun w => gcd_any (-a) b w hna hb g 0 (Or.inl ⟨by rw [Int.natAbs_neg, ← hg]; exact hf, by rw [Int.natAbs_neg]; exact hg, rfl⟩)
    clear hm hg hf ha hb d1 d2 r1 r2 q1 q2 hone ndz hna
    go_enter Try.func7, Try.ntmps7
    go_wp2_with fail
    refine (live_ok _).mono ?_
    rintro e w' ⟨rfl, n, rfl⟩
    go_wp2_with fail
    refine (c1 _).mono ?_
    rintro e w' ⟨rfl, n2, rfl⟩
    go_wp2_with fail
    refine (c2 _).mono ?_
    rintro e w' ⟨rfl, n3, rfl⟩
    go_wp2_with fail
    refine (c3 _).mono ?_
    rintro e w' ⟨rfl, n4, rfl⟩
    go_wp2_with fail
    refine (c4 _).mono ?_
    rintro e w' ⟨rfl, n5, rfl⟩
    go_wp2_with fail
    refine (c5 _).mono ?_
    rintro e w' ⟨rfl, n6, rfl⟩
    go_wp2_with fail
    refine (c6 _).mono ?_
    rintro e w' ⟨rfl, rfl⟩
    go_wp2_with fail
    refine (c7 _).mono ?_
    rintro e w' ⟨rfl, n7, rfl⟩
    go_wp2
    go_ret
    exact ⟨by simp, grown_drew _ _⟩

theorem common_walk (a b : Int) (ha : (Lit.int .i64 a).wf = true) (hb : (Lit.int .i64 b).wf = true) (w : World) :
    Calls Try.prog 7 #[.int .i64 a, .int .i64 b] w fun e w' => e = .returned (.bool true) ∧ Grown w w' := by
  by_cases h : Fit (Nat.gcd a.natAbs b.natAbs : Int)
  · by_cases h0 : Nat.gcd a.natAbs b.natAbs = 0
    · have h1 := Nat.eq_zero_of_gcd_eq_zero_left h0
      have h2 := Nat.eq_zero_of_gcd_eq_zero_right h0
      obtain rfl : a = 0 := by omega
      obtain rfl : b = 0 := by omega
      exact common_zero w
    · exact common_most a b w (fit_wf ha) (fit_wf hb) _ rfl h (by omega)
  · exact common_over a b w (fit_wf ha) (fit_wf hb) h

end Go.Proofs.Ytieopihgnebglaa.Wl
