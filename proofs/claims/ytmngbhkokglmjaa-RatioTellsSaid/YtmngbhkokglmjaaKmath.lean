/- Plain facts for the reference of layer 3; nothing of the program. -/
import Derived.Test.YtmngbhkokglmjaaQlaw
namespace Go.Proofs.Ytmngbhkokglmjaa.Qm
open Go.Proofs.Ytmngbhkokglmjaa.Vm

theorem odd_over {n b N D er : Int} (_ : 0 < b) (hn : n % 2 ≠ 0) (R : Rat1 (-n) (b * -9223372036854775808) N D er) : N = 0 ∧ D = 0 ∧ er = 2 := by
  rcases R with ⟨_, L, e, fN, fD⟩ | ⟨h, h1, h2, _⟩
  · exfalso
    have e2 : N * b * 9223372036854775808 = n * D := by
      rw [Int.neg_mul, Int.mul_neg, Int.mul_neg, ← Int.mul_assoc] at e
      omega
    have g1 : Int.gcd 2 n = 1 := by
      have h1 : n = 2 * (n / 2) + 1 := by omega
      rw [Int.gcd_comm, h1, Int.gcd_mul_left_add_left]; rfl
    have g2 : Int.gcd 9223372036854775808 n = 1 := by
      have h1 := Int.gcd_pow_left_of_gcd_eq_one (k := 63) g1
      have h2 : (2 : Int) ^ 63 = 9223372036854775808 := by decide
      rw [h2] at h1; exact h1
    have dv : (9223372036854775808 : Int) ∣ D := cop_dvd (b := n) g2 ⟨N * b, by rw [← e2, Int.mul_comm]⟩
    have := Int.le_of_dvd L.1 dv
    unfold Fit1 at fD; omega
  · exact ⟨h1, h2, h⟩

/-- what Make of the reference goes by: the sizes x and y of both parts, cut -/
theorem make_parts {n d N D er : Int} (fn : Fit1 n) (fd : Fit1 d) (hd : d ≠ 0) (R : Rat1 n d N D er) :
    ∃ g x y : Int, 0 < g ∧ g ≤ 9223372036854775808 ∧ g = (Int.gcd (n.natAbs : Int) (d.natAbs : Int) : Int) ∧ (n.natAbs : Int) = g * x ∧ (d.natAbs : Int) = g * y ∧ 0 ≤ x ∧ x ≤ 9223372036854775808 ∧ 0 < y ∧ y ≤ 9223372036854775808 ∧
      (n = 0 ↔ x = 0) ∧ FitRes (if (n < 0 ∧ 0 < d) ∨ (0 < n ∧ d < 0) then -x else x) y N D er := by
  obtain ⟨g, x, y, g0, hg, en, ed, hc, hy⟩ := gcd_out (a := n) hd
  have an : (n.natAbs : Int) = g * (x.natAbs : Int) := by rw [en, Int.natAbs_mul, Int.natCast_mul]; congr 1; omega
  have ad : (d.natAbs : Int) = g * (y.natAbs : Int) := by rw [ed, Int.natAbs_mul, Int.natCast_mul]; congr 1; omega
  have x0 : (x.natAbs : Int) ≤ 1 * (n.natAbs : Int) := by
    have : 1 * (x.natAbs : Int) ≤ g * (x.natAbs : Int) := Int.mul_le_mul_of_nonneg_right (by omega) (by omega)
    omega
  have y0 : (y.natAbs : Int) ≤ 1 * (d.natAbs : Int) := by
    have : 1 * (y.natAbs : Int) ≤ g * (y.natAbs : Int) := Int.mul_le_mul_of_nonneg_right (by omega) (by omega)
    omega
  have gd : g * 1 ≤ g * (y.natAbs : Int) := Int.mul_le_mul_of_nonneg_left (by omega) (by omega)
  have sx : (0 < n ↔ 0 < x) ∧ (n < 0 ↔ x < 0) := by
    have := sign_same (N := n) (m := 1) (n := x) (D := g) (by omega) g0 (by rw [en, Int.mul_one, Int.mul_comm])
    exact ⟨this.2, this.1⟩
  have sy : (0 < d ↔ 0 < y) ∧ (d < 0 ↔ y < 0) := by
    have := sign_same (N := d) (m := 1) (n := y) (D := g) (by omega) g0 (by rw [ed, Int.mul_one, Int.mul_comm])
    exact ⟨this.2, this.1⟩
  refine ⟨g, x.natAbs, y.natAbs, g0, by unfold Fit1 at fd; omega, by rw [hg]; simp [Int.gcd], an, ad, by omega, by unfold Fit1 at fn; omega, by omega, by unfold Fit1 at fd; omega, by omega, ?_⟩
  by_cases c : 0 < y
  · have e1 : (y.natAbs : Int) = y := by omega
    have e2 : (if (n < 0 ∧ 0 < d) ∨ (0 < n ∧ d < 0) then -(x.natAbs : Int) else (x.natAbs : Int)) = x := by split <;> omega
    rw [e1, e2]
    exact fitres_of hd ⟨c, hc⟩ (by rw [en, ed]; ac_rfl) R
  · have e1 : (y.natAbs : Int) = -y := by omega
    have e2 : (if (n < 0 ∧ 0 < d) ∨ (0 < n ∧ d < 0) then -(x.natAbs : Int) else (x.natAbs : Int)) = -x := by split <;> omega
    rw [e1, e2]
    exact fitres_of hd ⟨by omega, by rw [Int.neg_gcd, Int.gcd_neg]; exact hc⟩ (by rw [Int.neg_mul, Int.mul_neg]; congr 1; rw [en, ed]; ac_rfl) R

end Go.Proofs.Ytmngbhkokglmjaa.Qm
