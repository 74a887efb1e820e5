/- WholeDivides' walk. -/
import Derived.Test.YtieopihgnebglaaWlive
namespace Go.Proofs.Ytieopihgnebglaa.Wl
open Go.RowKit Go.Proofs.Ytieopihgnebglaa.Wm Go.Proofs.Ytieopihgnebglaa.Wc

set_option maxHeartbeats 400000

/-- the quotient times b does not fit: it lies one step beyond -/
theorem over_pos {a b : Int} (ha : Fit a) (h0 : 0 < b) (h : ¬ Fit (dq a b * b)) : 0 < dr a b ∧ a < -9223372036854775808 + b := by
  have h1 := dq_dr a b
  have h2 := dr_pos a h0
  rw [Int.mul_comm] at h1
  unfold Fit at *
  generalize dq a b * b = p at *
  omega

theorem over_neg {a b : Int} (ha : Fit a) (h0 : b < 0) (h : ¬ Fit (dq a b * b)) : dr a b < 0 ∧ 9223372036854775807 + b < a := by
  have h1 := dq_dr a b
  have h2 := dr_neg a h0
  rw [Int.mul_comm] at h1
  unfold Fit at *
  generalize dq a b * b = p at *
  omega

theorem divides_zero (a : Int) (w : World) :
    Calls Try.prog 5 #[.int .i64 a, .int .i64 0] w fun e w' => e = .returned (.bool true) ∧ Grown w w' := by
  go_enter Try.func5, Try.ntmps5
  go_wp2_with fail
  refine (live_ok _).mono ?_
  rintro e w' ⟨rfl, n, rfl⟩
  go_wp2_with fail
  refine (div_zero a _).mono ?_
  rintro e w' ⟨rfl, n2, rfl⟩
  go_wp2
  go_ret
  exact ⟨rfl, grown_drew _ _⟩

theorem divides_over (w : World) :
    Calls Try.prog 5 #[.int .i64 (-9223372036854775808), .int .i64 (-1)] w fun e w' => e = .returned (.bool true) ∧ Grown w w' := by
  go_enter Try.func5, Try.ntmps5
  go_wp2_with fail
  refine (live_ok _).mono ?_
  rintro e w' ⟨rfl, n, rfl⟩
  go_wp2_with fail
  refine (div_over _).mono ?_
  rintro e w' ⟨rfl, n2, rfl⟩
  go_wp2
  go_ret
  exact ⟨by simp, grown_drew _ _⟩

theorem dr_fit {a b : Int} (hb : Fit b) (h : b ≠ 0) : Fit (dr a b) := by
  unfold Fit at *
  by_cases h0 : 0 < b
  · have := dr_pos a h0; omega
  · have := dr_neg a (b := b) (by omega); omega

theorem divides_most (a b : Int) (w : World) (ha : Fit a) (hb : Fit b) (c1 : b ≠ 0) (c2 : ¬ (a = -9223372036854775808 ∧ b = -1)) :
    Calls Try.prog 5 #[.int .i64 a, .int .i64 b] w fun e w' => e = .returned (.bool true) ∧ Grown w w' := by
  have hd := fun w => div_yes a b w ha hb c1 c2
  have hq : Fit (dq a b) := dq_fit ha c1 c2
  have hr : Fit (dr a b) := dr_fit hb c1
  by_cases hM : Fit (dq a b * b)
  · have e1 : dq a b * b + dr a b = a := by have := dq_dr a b; rw [Int.mul_comm] at this; exact this
    have ct : ∀ w, Calls Try.prog 10 #[.int .i64 (dq a b * b), .int .i64 (dr a b)] w fun e w' => e = .returned (.tuple #[.int .i64 a, .int .i64 0]) ∧ w = w' := by
      intro w
      have := add_yes (dq a b * b) (dr a b) w hM hr (by rw [e1]; exact ha)
      rw [e1] at this; exact this
    clear e1
    by_cases h0 : 0 < b
    · obtain ⟨k1, k2⟩ := dr_pos a h0
      clear c1 c2
      go_enter Try.func5, Try.ntmps5
      go_wp2_with fail
      refine (live_ok _).mono ?_
      rintro e w' ⟨rfl, n, rfl⟩
      go_wp2_with fail
      refine (hd _).mono ?_
      rintro e w' ⟨rfl, n2, rfl⟩
      go_wp2_with fail
      refine (mul_yes (dq a b) b _ hq hb hM).mono ?_
      rintro e w' ⟨rfl, rfl⟩
      go_wp2_with fail
      refine (ct _).mono ?_
      rintro e w' ⟨rfl, rfl⟩
      go_wp2
      go_ret
      exact ⟨rfl, grown_drew _ _⟩
    · have h1 : b < 0 := by omega
      obtain ⟨k1, k2⟩ := dr_neg a h1
      clear c1 c2 h0
      go_enter Try.func5, Try.ntmps5
      go_wp2_with fail
      refine (live_ok _).mono ?_
      rintro e w' ⟨rfl, n, rfl⟩
      go_wp2_with fail
      refine (hd _).mono ?_
      rintro e w' ⟨rfl, n2, rfl⟩
      go_wp2_with fail
      refine (mul_yes (dq a b) b _ hq hb hM).mono ?_
      rintro e w' ⟨rfl, rfl⟩
      go_wp2_with fail
      refine (ct _).mono ?_
      rintro e w' ⟨rfl, rfl⟩
      go_wp2
      go_ret
      exact ⟨rfl, grown_drew _ _⟩
  · by_cases h0 : 0 < b
    · obtain ⟨k1, k2⟩ := over_pos ha h0 hM
      have hb2 : b ≤ 9223372036854775807 := hb.2
      have ct := fun w => mul_no (dq a b) b w hq hb hM
      clear c1 c2 hM
      go_enter Try.func5, Try.ntmps5
      go_wp2_with fail
      refine (live_ok _).mono ?_
      rintro e w' ⟨rfl, n, rfl⟩
      go_wp2_with fail
      refine (hd _).mono ?_
      rintro e w' ⟨rfl, n2, rfl⟩
      go_wp2_with fail
      refine (ct _).mono ?_
      rintro e w' ⟨rfl, rfl⟩
      go_wp2
      go_ret
      exact ⟨rfl, grown_drew _ _⟩
    · have h1 : b < 0 := by omega
      obtain ⟨k1, k2⟩ := over_neg ha h1 hM
      have hb2 : -9223372036854775808 ≤ b := hb.1
      have ct := fun w => mul_no (dq a b) b w hq hb hM
      clear c1 c2 h0 hM
      go_enter Try.func5, Try.ntmps5
      go_wp2_with fail
      refine (live_ok _).mono ?_
      rintro e w' ⟨rfl, n, rfl⟩
      go_wp2_with fail
      refine (hd _).mono ?_
      rintro e w' ⟨rfl, n2, rfl⟩
      go_wp2_with fail
      refine (ct _).mono ?_
      rintro e w' ⟨rfl, rfl⟩
      go_wp2
      go_ret
      exact ⟨rfl, grown_drew _ _⟩

theorem divides_walk (a b : Int) (ha : (Lit.int .i64 a).wf = true) (hb : (Lit.int .i64 b).wf = true) (w : World) :
    Calls Try.prog 5 #[.int .i64 a, .int .i64 b] w fun e w' => e = .returned (.bool true) ∧ Grown w w' := by
  by_cases h : b = 0
  · subst h; exact divides_zero a w
  · by_cases h1 : a = -9223372036854775808 ∧ b = -1
    · obtain ⟨rfl, rfl⟩ := h1; exact divides_over w
    · exact divides_most a b w (fit_wf ha) (fit_wf hb) h h1

end Go.Proofs.Ytieopihgnebglaa.Wl
