/- WholeDoes' walk: the program and the reference come to the same. -/
import Derived.Test.YtieopihgnebglaaWlive
import Derived.Test.YtieopihgnebglaaWrmul
namespace Go.Proofs.Ytieopihgnebglaa.Wl
open Go.RowKit Go.Proofs.Ytieopihgnebglaa.Wm Go.Proofs.Ytieopihgnebglaa.Wc Go.Proofs.Ytieopihgnebglaa.Wr

set_option maxHeartbeats 400000

theorem same_add (a b : Int) (ha : Fit a) (hb : Fit b) :
    ∃ v e1 : Int, (∀ w, Calls Try.prog 10 #[.int .i64 a, .int .i64 b] w fun e w' => e = .returned (.tuple #[.int .i64 v, .int .i64 e1]) ∧ w = w') ∧
      (∀ w, Calls Try.prog 11 #[.int .i64 a, .int .i64 b] w fun e w' => e = .returned (.tuple #[.int .i64 v, .int .i64 e1]) ∧ w = w') := by
  by_cases h : Fit (a + b)
  · exact ⟨_, _, fun w => add_yes a b w ha hb h, fun w => radd_yes a b w ha hb h⟩
  · exact ⟨_, _, fun w => add_no a b w ha hb h, fun w => radd_no a b w ha hb h⟩

theorem same_sub (a b : Int) (ha : Fit a) (hb : Fit b) :
    ∃ v e1 : Int, (∀ w, Calls Try.prog 12 #[.int .i64 a, .int .i64 b] w fun e w' => e = .returned (.tuple #[.int .i64 v, .int .i64 e1]) ∧ w = w') ∧
      (∀ w, Calls Try.prog 13 #[.int .i64 a, .int .i64 b] w fun e w' => e = .returned (.tuple #[.int .i64 v, .int .i64 e1]) ∧ w = w') := by
  by_cases h : Fit (a - b)
  · exact ⟨_, _, fun w => sub_yes a b w ha hb h, fun w => rsub_yes a b w ha hb h⟩
  · exact ⟨_, _, fun w => sub_no a b w ha hb h, fun w => rsub_no a b w ha hb h⟩

theorem same_mul (a b : Int) (ha : Fit a) (hb : Fit b) :
    ∃ v e1 : Int, (∀ w, Calls Try.prog 14 #[.int .i64 a, .int .i64 b] w fun e w' => e = .returned (.tuple #[.int .i64 v, .int .i64 e1]) ∧ w = w') ∧
      (∀ w, Calls Try.prog 15 #[.int .i64 a, .int .i64 b] w fun e w' => e = .returned (.tuple #[.int .i64 v, .int .i64 e1]) ∧ w = w') := by
  by_cases h : Fit (a * b)
  · exact ⟨_, _, fun w => mul_yes a b w ha hb h, fun w => rmul_any a b w ha hb _ _ (Or.inl ⟨h, rfl, rfl⟩)⟩
  · exact ⟨_, _, fun w => mul_no a b w ha hb h, fun w => rmul_any a b w ha hb _ _ (Or.inr ⟨h, rfl, rfl⟩)⟩

theorem same_neg (a : Int) (ha : Fit a) :
    ∃ v e1 : Int, (∀ w, Calls Try.prog 16 #[.int .i64 a] w fun e w' => e = .returned (.tuple #[.int .i64 v, .int .i64 e1]) ∧ w = w') ∧
      (∀ w, Calls Try.prog 17 #[.int .i64 a] w fun e w' => e = .returned (.tuple #[.int .i64 v, .int .i64 e1]) ∧ w = w') := by
  by_cases h : a = -9223372036854775808
  · subst h; exact ⟨_, _, fun w => neg_no w, fun w => rneg_no w⟩
  · exact ⟨_, _, fun w => neg_yes a w ha h, fun w => rneg_yes a w ha h⟩

theorem same_div (a b : Int) (ha : Fit a) (hb : Fit b) :
    ∃ v r e1 : Int, (∀ w, Calls Try.prog 18 #[.int .i64 a, .int .i64 b] w fun e w' => e = .returned (.tuple #[.int .i64 v, .int .i64 r, .int .i64 e1]) ∧ Drew w w') ∧
      (∀ w, Calls Try.prog 19 #[.int .i64 a, .int .i64 b] w fun e w' => e = .returned (.tuple #[.int .i64 v, .int .i64 r, .int .i64 e1]) ∧ Drew w w') := by
  by_cases h : b = 0
  · subst h; exact ⟨_, _, _, fun w => div_zero a w, fun w => rdiv_zero a w⟩
  · by_cases h1 : a = -9223372036854775808 ∧ b = -1
    · obtain ⟨rfl, rfl⟩ := h1; exact ⟨_, _, _, fun w => div_over w, fun w => rdiv_over w⟩
    · exact ⟨_, _, _, fun w => div_yes a b w ha hb h h1, fun w => rdiv_yes a b w ha hb h h1⟩

theorem same_gcd (a b : Int) (ha : Fit a) (hb : Fit b) :
    ∃ v e1 : Int, (∀ w, Calls Try.prog 20 #[.int .i64 a, .int .i64 b] w fun e w' => e = .returned (.tuple #[.int .i64 v, .int .i64 e1]) ∧ Drew w w') ∧
      (∀ w, Calls Try.prog 21 #[.int .i64 a, .int .i64 b] w fun e w' => e = .returned (.tuple #[.int .i64 v, .int .i64 e1]) ∧ Drew w w') := by
  by_cases h : Fit (Nat.gcd a.natAbs b.natAbs : Int)
  · exact ⟨_, _, fun w => gcd_any a b w ha hb _ _ (Or.inl ⟨h, rfl, rfl⟩), fun w => rgcd_any a b w ha hb _ _ (Or.inl ⟨h, rfl, rfl⟩)⟩
  · exact ⟨_, _, fun w => gcd_any a b w ha hb _ _ (Or.inr ⟨h, rfl, rfl⟩), fun w => rgcd_any a b w ha hb _ _ (Or.inr ⟨h, rfl, rfl⟩)⟩

theorem does_walk (a b : Int) (w0 : (Lit.int .i64 a).wf = true) (w1 : (Lit.int .i64 b).wf = true) (w : World) :
    Calls Try.prog 3 #[.int .i64 a, .int .i64 b] w fun e w' => e = .returned (.bool true) ∧ Grown w w' := by
  have ha := fit_wf w0
  have hb := fit_wf w1
  obtain ⟨v1, e1, c1, d1⟩ := same_add a b ha hb
  obtain ⟨v2, e2, c2, d2⟩ := same_sub a b ha hb
  obtain ⟨v3, e3, c3, d3⟩ := same_mul a b ha hb
  obtain ⟨v4, e4, c4, d4⟩ := same_neg a ha
  obtain ⟨v5, r5, e5, c5, d5⟩ := same_div a b ha hb
  obtain ⟨v6, e6, c6, d6⟩ := same_gcd a b ha hb
  clear ha hb w0 w1
  go_enter Try.func3, Try.ntmps3
  go_wp2_with fail
  refine (live_ok _).mono ?_
  rintro e w' ⟨rfl, n, rfl⟩
  go_wp2_with fail
  refine (c1 _).mono ?_
  rintro e w' ⟨rfl, rfl⟩
  go_wp2_with fail
  refine (d1 _).mono ?_
  rintro e w' ⟨rfl, rfl⟩
  go_wp2_with fail
  refine (c2 _).mono ?_
  rintro e w' ⟨rfl, rfl⟩
  go_wp2_with fail
  refine (d2 _).mono ?_
  rintro e w' ⟨rfl, rfl⟩
  go_wp2_with fail
  refine (c3 _).mono ?_
  rintro e w' ⟨rfl, rfl⟩
  go_wp2_with fail
  refine (d3 _).mono ?_
  rintro e w' ⟨rfl, rfl⟩
  go_wp2_with fail
  refine (c4 _).mono ?_
  rintro e w' ⟨rfl, rfl⟩
  go_wp2_with fail
  refine (d4 _).mono ?_
  rintro e w' ⟨rfl, rfl⟩
  go_wp2_with fail
  refine (c5 _).mono ?_
  rintro e w' ⟨rfl, nc5, rfl⟩
  go_wp2_with fail
  refine (d5 _).mono ?_
  rintro e w' ⟨rfl, nd5, rfl⟩
  go_wp2_with fail
  refine (c6 _).mono ?_
  rintro e w' ⟨rfl, nc6, rfl⟩
  go_wp2_with fail
  refine (d6 _).mono ?_
  rintro e w' ⟨rfl, nd6, rfl⟩
  go_wp2
  go_ret
  exact ⟨by simp, grown_drew _ _⟩

end Go.Proofs.Ytieopihgnebglaa.Wl
