/- Plain facts on products by halves, and on quotients bit by bit; nothing of the program. -/
import Derived.Test.YtfjckgnclhpmcaaDoorVmath2
namespace Go.Proofs.YtfjckgnclhpmcaaDoor.Vm
set_option linter.unusedSimpArgs false
set_option linter.unusedVariables false
open Go.RowKit (wrap32 wrap64)

/-- a product of two halves -/
theorem half_prod {x y : Int} (hx0 : 0 ≤ x) (hx : x ≤ 4294967295) (hy0 : 0 ≤ y) (hy : y ≤ 4294967295) : 0 ≤ x * y ∧ x * y ≤ 18446744065119617025 := by
  refine ⟨Int.mul_nonneg hx0 hy0, ?_⟩
  have h1 : x * y ≤ 4294967295 * y := Int.mul_le_mul_of_nonneg_right hx hy0
  omega

/-- the product by halves -/
theorem prod_halves {x y xl xh yl yh lh ll fl fh sh sl : Int} (ex : x = xh * 4294967296 + xl) (ey : y = yh * 4294967296 + yl)
    (e1 : xl * yl = lh * 4294967296 + ll) (e2 : xh * yl + lh = fh * 4294967296 + fl) (e3 : xl * yh + fl = sh * 4294967296 + sl) :
    x * y = (xh * yh + fh + sh) * 18446744073709551616 + (sl * 4294967296 + ll) := by
  subst ex ey
  have e : (xh * 4294967296 + xl) * (yh * 4294967296 + yl) = xh * yh * 18446744073709551616 + (xh * yl + xl * yh) * 4294967296 + xl * yl := by
    simp only [Int.add_mul, Int.mul_add]
    have e1 : xh * 4294967296 * (yh * 4294967296) = xh * yh * 18446744073709551616 := by
      rw [Int.mul_assoc, Int.mul_left_comm 4294967296, ← Int.mul_assoc]; rfl
    have e2 : xh * 4294967296 * yl = xh * yl * 4294967296 := by rw [Int.mul_right_comm]
    have e3 : xl * (yh * 4294967296) = xl * yh * 4294967296 := by rw [Int.mul_assoc]
    omega
  rw [e]
  omega

/-- a product's size -/
theorem prod_size {a b : Int} (ha : Fit1 a) (hb : Fit1 b) : 0 ≤ (a.natAbs : Int) * (b.natAbs : Int) ∧ (a.natAbs : Int) * (b.natAbs : Int) ≤ 85070591730234615865843651857942052864 := by
  unfold Fit1 at ha hb
  have h1 : a.natAbs * b.natAbs ≤ 9223372036854775808 * 9223372036854775808 := Nat.mul_le_mul (by omega) (by omega)
  have e : (a.natAbs : Int) * (b.natAbs : Int) = ((a.natAbs * b.natAbs : Nat) : Int) := (Int.natCast_mul _ _).symm
  omega
theorem prod_same {a b : Int} (h : (a < 0 ∧ b < 0) ∨ (0 ≤ a ∧ 0 ≤ b)) : (a.natAbs : Int) * (b.natAbs : Int) = a * b := by
  rcases h with ⟨h1, h2⟩ | ⟨h1, h2⟩
  · have ea : (a.natAbs : Int) = -a := by omega
    have eb : (b.natAbs : Int) = -b := by omega
    rw [ea, eb, Int.neg_mul_neg]
  · have ea : (a.natAbs : Int) = a := by omega
    have eb : (b.natAbs : Int) = b := by omega
    rw [ea, eb]
theorem prod_diff {a b : Int} (h : (a < 0 ∧ 0 ≤ b) ∨ (0 ≤ a ∧ b < 0)) : (a.natAbs : Int) * (b.natAbs : Int) = -(a * b) := by
  rcases h with ⟨h1, h2⟩ | ⟨h1, h2⟩
  · have ea : (a.natAbs : Int) = -a := by omega
    have eb : (b.natAbs : Int) = b := by omega
    rw [ea, eb, Int.neg_mul]
  · have ea : (a.natAbs : Int) = a := by omega
    have eb : (b.natAbs : Int) = -b := by omega
    rw [ea, eb, Int.mul_neg]
theorem mul_same {p x h l : Int} (h0 : 0 ≤ p) (h1 : p ≤ 85070591730234615865843651857942052864) (e : p = x) (b : Bd h l) (n : num h l = x) : p % 18446744073709551616 = l ∧ wrap64 (p / 18446744073709551616) = h := by
  subst e; unfold wrap64; unfold Bd at b; unfold num at n; omega
theorem mul_diff {p x h l : Int} (h0 : 0 ≤ p) (h1 : p ≤ 85070591730234615865843651857942052864) (e : p = -x) (b : Bd h l) (n : num h l = x) :
    (18446744073709551616 - p % 18446744073709551616) % 18446744073709551616 = l ∧ wrap64 ((18446744073709551615 - p / 18446744073709551616 + (18446744073709551616 - p % 18446744073709551616) / 18446744073709551616) % 18446744073709551616) = h := by
  subst e; unfold wrap64; unfold Bd at b; unfold num at n; omega

end Go.Proofs.YtfjckgnclhpmcaaDoor.Vm
