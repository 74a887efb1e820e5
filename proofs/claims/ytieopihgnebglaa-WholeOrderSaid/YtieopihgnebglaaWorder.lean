/- WholeOrder's walk. -/
import Derived.Test.YtieopihgnebglaaWlive
namespace Go.Proofs.Ytieopihgnebglaa.Wl
open Go.RowKit Go.Proofs.Ytieopihgnebglaa.Wm Go.Proofs.Ytieopihgnebglaa.Wc

set_option maxHeartbeats 400000

/-- the two sums, and the two products, in either order -/
theorem add_yes' (a b : Int) (w : World) (ha : Fit a) (hb : Fit b) (h : Fit (a + b)) :
    Calls Try.prog 10 #[.int .i64 b, .int .i64 a] w fun e w' => e = .returned (.tuple #[.int .i64 (a + b), .int .i64 0]) ∧ w = w' := by
  have := add_yes b a w hb ha (by rw [Int.add_comm]; exact h)
  rw [Int.add_comm b a] at this; exact this
theorem add_no' (a b : Int) (w : World) (ha : Fit a) (hb : Fit b) (h : ¬ Fit (a + b)) :
    Calls Try.prog 10 #[.int .i64 b, .int .i64 a] w fun e w' => e = .returned (.tuple #[.int .i64 0, .int .i64 2]) ∧ w = w' :=
  add_no b a w hb ha (by rw [Int.add_comm]; exact h)
theorem mul_yes' (a b : Int) (w : World) (ha : Fit a) (hb : Fit b) (h : Fit (a * b)) :
    Calls Try.prog 14 #[.int .i64 b, .int .i64 a] w fun e w' => e = .returned (.tuple #[.int .i64 (a * b), .int .i64 0]) ∧ w = w' := by
  have := mul_yes b a w hb ha (by rw [Int.mul_comm]; exact h)
  rw [Int.mul_comm b a] at this; exact this
theorem mul_no' (a b : Int) (w : World) (ha : Fit a) (hb : Fit b) (h : ¬ Fit (a * b)) :
    Calls Try.prog 14 #[.int .i64 b, .int .i64 a] w fun e w' => e = .returned (.tuple #[.int .i64 0, .int .i64 2]) ∧ w = w' :=
  mul_no b a w hb ha (by rw [Int.mul_comm]; exact h)

theorem order_walk (a b c : Int) (ha : (Lit.int .i64 a).wf = true) (hb : (Lit.int .i64 b).wf = true) (hc : (Lit.int .i64 c).wf = true) (w : World) :
    Calls Try.prog 6 #[.int .i64 a, .int .i64 b, .int .i64 c] w fun e w' => e = .returned (.bool true) ∧ Grown w w' := by
  replace ha := fit_wf ha
  replace hb := fit_wf hb
  replace hc := fit_wf hc
  have dist : (a + b) * c = a * c + b * c := Int.add_mul a b c
  have ct : Fit (a * c) → Fit (b * c) → Fit ((a + b) * c) → ∀ w, Calls Try.prog 10 #[.int .i64 (a * c), .int .i64 (b * c)] w fun e w' => e = .returned (.tuple #[.int .i64 ((a + b) * c), .int .i64 0]) ∧ w = w' := by
    intro h1 h2 h3 w
    rw [dist] at h3 ⊢
    exact add_yes _ _ w h1 h2 h3
  clear dist
  go_enter Try.func6, Try.ntmps6
  go_wp2_with fail
  refine (live_ok _).mono ?_
  rintro e w' ⟨rfl, n, rfl⟩
  go_wp2_with fail
  by_cases hA : Fit (a + b)
  · refine (add_yes a b _ ha hb hA).mono ?_
    rintro e w' ⟨rfl, rfl⟩
    go_wp2_with fail
    refine (add_yes' a b _ ha hb hA).mono ?_
    rintro e w' ⟨rfl, rfl⟩
    go_wp2_with fail
    by_cases hM : Fit (a * b)
    · refine (mul_yes a b _ ha hb hM).mono ?_
      rintro e w' ⟨rfl, rfl⟩
      go_wp2_with fail
      refine (mul_yes' a b _ ha hb hM).mono ?_
      rintro e w' ⟨rfl, rfl⟩
      go_wp2_with fail
      by_cases h1 : Fit ((a + b) * c)
      · refine (mul_yes (a + b) c _ hA hc h1).mono ?_
        rintro e w' ⟨rfl, rfl⟩
        go_wp2_with fail
        by_cases h2 : Fit (a * c)
        · refine (mul_yes a c _ ha hc h2).mono ?_
          rintro e w' ⟨rfl, rfl⟩
          go_wp2_with fail
          by_cases h3 : Fit (b * c)
          · refine (mul_yes b c _ hb hc h3).mono ?_
            rintro e w' ⟨rfl, rfl⟩
            go_wp2_with fail
            refine (ct h2 h3 h1 _).mono ?_
            rintro e w' ⟨rfl, rfl⟩
            go_wp2
            go_ret
            exact ⟨by simp, grown_drew _ _⟩
          · refine (mul_no b c _ hb hc h3).mono ?_
            rintro e w' ⟨rfl, rfl⟩
            go_wp2
            go_ret
            exact ⟨rfl, grown_drew _ _⟩
        · refine (mul_no a c _ ha hc h2).mono ?_
          rintro e w' ⟨rfl, rfl⟩
          go_wp2_with fail
          by_cases h3 : Fit (b * c)
          · refine (mul_yes b c _ hb hc h3).mono ?_
            rintro e w' ⟨rfl, rfl⟩
            go_wp2
            go_ret
            exact ⟨rfl, grown_drew _ _⟩
          · refine (mul_no b c _ hb hc h3).mono ?_
            rintro e w' ⟨rfl, rfl⟩
            go_wp2
            go_ret
            exact ⟨rfl, grown_drew _ _⟩
      · refine (mul_no (a + b) c _ hA hc h1).mono ?_
        rintro e w' ⟨rfl, rfl⟩
        go_wp2_with fail
        by_cases h2 : Fit (a * c)
        · refine (mul_yes a c _ ha hc h2).mono ?_
          rintro e w' ⟨rfl, rfl⟩
          go_wp2_with fail
          by_cases h3 : Fit (b * c)
          · refine (mul_yes b c _ hb hc h3).mono ?_
            rintro e w' ⟨rfl, rfl⟩
            go_wp2
            go_ret
            exact ⟨rfl, grown_drew _ _⟩
          · refine (mul_no b c _ hb hc h3).mono ?_
            rintro e w' ⟨rfl, rfl⟩
            go_wp2
            go_ret
            exact ⟨rfl, grown_drew _ _⟩
        · refine (mul_no a c _ ha hc h2).mono ?_
          rintro e w' ⟨rfl, rfl⟩
          go_wp2_with fail
          by_cases h3 : Fit (b * c)
          · refine (mul_yes b c _ hb hc h3).mono ?_
            rintro e w' ⟨rfl, rfl⟩
            go_wp2
            go_ret
            exact ⟨rfl, grown_drew _ _⟩
          · refine (mul_no b c _ hb hc h3).mono ?_
            rintro e w' ⟨rfl, rfl⟩
            go_wp2
            go_ret
            exact ⟨rfl, grown_drew _ _⟩
    · refine (mul_no a b _ ha hb hM).mono ?_
      rintro e w' ⟨rfl, rfl⟩
      go_wp2_with fail
      refine (mul_no' a b _ ha hb hM).mono ?_
      rintro e w' ⟨rfl, rfl⟩
      go_wp2
      go_ret
      exact ⟨rfl, grown_drew _ _⟩
  · refine (add_no a b _ ha hb hA).mono ?_
    rintro e w' ⟨rfl, rfl⟩
    go_wp2_with fail
    refine (add_no' a b _ ha hb hA).mono ?_
    rintro e w' ⟨rfl, rfl⟩
    go_wp2_with fail
    by_cases hM : Fit (a * b)
    · refine (mul_yes a b _ ha hb hM).mono ?_
      rintro e w' ⟨rfl, rfl⟩
      go_wp2_with fail
      refine (mul_yes' a b _ ha hb hM).mono ?_
      rintro e w' ⟨rfl, rfl⟩
      go_wp2
      go_ret
      exact ⟨rfl, grown_drew _ _⟩
    · refine (mul_no a b _ ha hb hM).mono ?_
      rintro e w' ⟨rfl, rfl⟩
      go_wp2_with fail
      refine (mul_no' a b _ ha hb hM).mono ?_
      rintro e w' ⟨rfl, rfl⟩
      go_wp2
      go_ret
      exact ⟨rfl, grown_drew _ _⟩

end Go.Proofs.Ytieopihgnebglaa.Wl
