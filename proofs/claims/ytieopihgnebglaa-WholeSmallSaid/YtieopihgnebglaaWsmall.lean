/- WholeSmall's walk. -/
import Derived.Test.YtieopihgnebglaaWlive
namespace Go.Proofs.Ytieopihgnebglaa.Wl
open Go.RowKit Go.Proofs.Ytieopihgnebglaa.Wm Go.Proofs.Ytieopihgnebglaa.Wc

set_option maxHeartbeats 400000

theorem small_mul {a b : Int} (ha : -2147483648 ≤ a ∧ a ≤ 2147483647) (hb : -2147483648 ≤ b ∧ b ≤ 2147483647) :
    -9223372036854775808 ≤ a * b ∧ a * b ≤ 9223372036854775807 := by
  have h1 : (a * b).natAbs ≤ 2147483648 * 2147483648 := by
    rw [Int.natAbs_mul]; exact Nat.mul_le_mul (by omega) (by omega)
  omega

theorem small_gcd {a b : Int} (ha : -2147483648 ≤ a ∧ a ≤ 2147483647) (hb : -2147483648 ≤ b ∧ b ≤ 2147483647) :
    Fit (Nat.gcd a.natAbs b.natAbs : Int) := by
  by_cases h : 0 < a.natAbs
  · have := Nat.gcd_le_left b.natAbs h; unfold Fit; omega
  · by_cases h2 : 0 < b.natAbs
    · have := Nat.gcd_le_right a.natAbs h2; unfold Fit; omega
    · have e1 : a = 0 := by omega
      have e2 : b = 0 := by omega
      subst e1 e2; decide

theorem small_walk (a b : Int) (w0 : (Lit.int .i32 a).wf = true) (w1 : (Lit.int .i32 b).wf = true) (w : World) :
    Calls Try.prog 8 #[.int .i32 a, .int .i32 b] w fun e w' => e = .returned (.bool true) ∧ Grown w w' := by
  have ha : -2147483648 ≤ a ∧ a ≤ 2147483647 := by have := bounds_i32 w0; omega
  have hb : -2147483648 ≤ b ∧ b ≤ 2147483647 := by have := bounds_i32 w1; omega
  clear w0 w1
  have hm := small_mul ha hb
  have fa : Fit a := by unfold Fit; omega
  have fb : Fit b := by unfold Fit; omega
  have c1 := fun w => add_yes a b w fa fb (by unfold Fit; omega)
  have c2 := fun w => sub_yes a b w fa fb (by unfold Fit; omega)
  have c3 := fun w => mul_yes a b w fa fb hm
  have c5 := fun w => gcd_any a b w fa fb _ 0 (Or.inl ⟨small_gcd ha hb, rfl, rfl⟩)
  by_cases hz : b = 0
  · subst hz
    have c4 := fun w => div_zero a w
    go_enter Try.func8, Try.ntmps8
    go_wp2_with fail
    refine (live_ok _).mono ?_
    rintro e w' ⟨rfl, n, rfl⟩
    go_wp2_with fail
    refine (c1 _).mono ?_
    rintro e w' ⟨rfl, rfl⟩
    go_wp2_with fail
    refine (c2 _).mono ?_
    rintro e w' ⟨rfl, rfl⟩
    go_wp2_with fail
    refine (c3 _).mono ?_
    rintro e w' ⟨rfl, rfl⟩
    go_wp2_with fail
    refine (c4 _).mono ?_
    rintro e w' ⟨rfl, n2, rfl⟩
    go_wp2_with fail
    refine (c5 _).mono ?_
    rintro e w' ⟨rfl, n3, rfl⟩
    go_wp2
    go_ret
    exact ⟨by simp, grown_drew _ _⟩
  · have c4 := fun w => div_yes a b w fa fb hz (by omega)
    have d0 : (b != 0) = true := by rw [bne_iff_ne]; exact hz
    clear fa fb hz
    go_enter Try.func8, Try.ntmps8
    go_wp2_with fail
    refine (live_ok _).mono ?_
    rintro e w' ⟨rfl, n, rfl⟩
    go_wp2_with fail
    refine (c1 _).mono ?_
    rintro e w' ⟨rfl, rfl⟩
    go_wp2_with fail
    refine (c2 _).mono ?_
    rintro e w' ⟨rfl, rfl⟩
    go_wp2_with fail
    refine (c3 _).mono ?_
    rintro e w' ⟨rfl, rfl⟩
    go_wp2_with fail
    refine (c4 _).mono ?_
    rintro e w' ⟨rfl, n2, rfl⟩
    go_wp2_with fail
    refine (c5 _).mono ?_
    rintro e w' ⟨rfl, n3, rfl⟩
    go_wp2
    go_ret
    exact ⟨by simp, grown_drew _ _⟩

end Go.Proofs.Ytieopihgnebglaa.Wl
