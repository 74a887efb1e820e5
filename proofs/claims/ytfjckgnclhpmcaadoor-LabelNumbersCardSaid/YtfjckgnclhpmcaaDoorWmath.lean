/- Plain facts about whole numbers that fit in 64 bits; nothing of the program. -/
import Derived.RowKit
namespace Go.Proofs.YtfjckgnclhpmcaaDoor.Wm
set_option linter.unusedSimpArgs false
set_option linter.unusedVariables false
open Go.RowKit (wrap32 wrap64)

/-- the number fits in 64 bits -/
def Fit (x : Int) : Prop := -9223372036854775808 ≤ x ∧ x ≤ 9223372036854775807
instance (x : Int) : Decidable (Fit x) := by unfold Fit; infer_instance

theorem fit_wrap {x : Int} (h : Fit x) : wrap64 x = x := by unfold Fit at h; unfold wrap64; omega
theorem wrap_fit (x : Int) : Fit (wrap64 x) := by unfold Fit wrap64; omega
theorem fit_of {x : Int} (h1 : -9223372036854775808 ≤ x) (h2 : x ≤ 9223372036854775807) : Fit x := ⟨h1, h2⟩

/-- sums that do not fit come out on the other side -/
theorem add_high {a b : Int} (ha : Fit a) (hb : Fit b) (h : ¬ Fit (a + b)) (h0 : 0 ≤ a) : 0 ≤ b ∧ wrap64 (a + b) < 0 := by
  unfold Fit at *; unfold wrap64; omega
theorem add_low {a b : Int} (ha : Fit a) (hb : Fit b) (h : ¬ Fit (a + b)) (h0 : a < 0) : b < 0 ∧ 0 ≤ wrap64 (a + b) := by
  unfold Fit at *; unfold wrap64; omega
theorem sub_high {a b : Int} (ha : Fit a) (hb : Fit b) (h : ¬ Fit (a - b)) (h0 : 0 ≤ a) : b < 0 ∧ wrap64 (a - b) < 0 := by
  unfold Fit at *; unfold wrap64; omega
theorem sub_low {a b : Int} (ha : Fit a) (hb : Fit b) (h : ¬ Fit (a - b)) (h0 : a < 0) : 0 ≤ b ∧ 0 ≤ wrap64 (a - b) := by
  unfold Fit at *; unfold wrap64; omega

/-- a product that fits, divided again -/
theorem mul_back {a b : Int} (hb : b ≠ 0) : (a * b).tdiv b = a := Int.mul_tdiv_cancel a hb

theorem wrap_diff (x : Int) : ∃ k : Int, wrap64 x = x - 18446744073709551616 * k := by
  refine ⟨(x + 9223372036854775808) / 18446744073709551616, ?_⟩
  unfold wrap64; omega

theorem tdiv_rem {p a b : Int} (h : p.tdiv b = a) : p = b * a + p.tmod b := by
  have := Int.mul_tdiv_add_tmod p b
  rw [h] at this; omega

theorem tmod_lt {p b : Int} (hb : b ≠ 0) (hf : Fit b) : -9223372036854775808 < p.tmod b ∧ p.tmod b < 9223372036854775808 := by
  have h1 := Int.natAbs_tmod p b
  have h2 : p.natAbs % b.natAbs < b.natAbs := Nat.mod_lt _ (by omega)
  unfold Fit at hf
  omega

/-- a product that does not fit is told by dividing it again -/
theorem mul_over {a b : Int} (hb : b ≠ 0) (hfb : Fit b) (h : ¬ Fit (a * b)) : (wrap64 (a * b)).tdiv b ≠ a := by
  intro e
  have h1 := tdiv_rem e
  have h2 := tmod_lt (p := wrap64 (a * b)) hb hfb
  obtain ⟨k, hk⟩ := wrap_diff (a * b)
  have h3 := wrap_fit (a * b)
  have h4 : b * a = a * b := Int.mul_comm _ _
  rw [h4] at h1
  generalize a * b = p at *
  generalize (wrap64 p).tmod b = r at *
  have hk0 : k = 0 := by omega
  subst hk0
  rw [hk] at h3
  apply h
  simpa using h3

/-! ### quotients -/
theorem tdiv_fit {a b : Int} (ha : Fit a) (h : ¬ (a = -9223372036854775808 ∧ b = -1)) : Fit (a.tdiv b) := by
  have h1 : (a.tdiv b).natAbs = a.natAbs / b.natAbs := Int.natAbs_tdiv a b
  have h2 : a.natAbs / b.natAbs ≤ a.natAbs := Nat.div_le_self _ _
  unfold Fit at *
  by_cases hb : b = -1
  · subst hb
    have h3 : a.tdiv (-1) = -a := by rw [Int.tdiv_neg, Int.tdiv_one]
    omega
  · by_cases hb1 : b.natAbs ≤ 1
    · have : b = 0 ∨ b = 1 := by omega
      rcases this with h | h <;> subst h <;> simp [Int.tdiv_zero, Int.tdiv_one]
      omega
    · have h4 : a.natAbs / b.natAbs ≤ a.natAbs / 2 := Nat.div_le_div_left (by omega) (by omega)
      omega

/-- what Div tells: the greatest whole number not above -/
def dq (a b : Int) : Int := if a.tmod b ≠ 0 ∧ ¬ ((a.tmod b < 0) ↔ (b < 0)) then a.tdiv b - 1 else a.tdiv b
/-- what is left over -/
def dr (a b : Int) : Int := if a.tmod b ≠ 0 ∧ ¬ ((a.tmod b < 0) ↔ (b < 0)) then a.tmod b + b else a.tmod b

theorem dq_dr (a b : Int) : b * dq a b + dr a b = a := by
  have h := Int.mul_tdiv_add_tmod a b
  unfold dq dr
  split
  · rw [Int.mul_sub]; omega
  · exact h

theorem tmod_abs (a : Int) {b : Int} (hb : b ≠ 0) : (a.tmod b).natAbs < b.natAbs := by
  rw [Int.natAbs_tmod]; exact Nat.mod_lt _ (by omega)

theorem dr_pos (a : Int) {b : Int} (hb : 0 < b) : 0 ≤ dr a b ∧ dr a b < b := by
  have := tmod_abs a (b := b) (by omega)
  unfold dr
  generalize a.tmod b = r at *
  split <;> omega

theorem dr_neg (a : Int) {b : Int} (hb : b < 0) : b < dr a b ∧ dr a b ≤ 0 := by
  have := tmod_abs a (b := b) (by omega)
  unfold dr
  generalize a.tmod b = r at *
  split <;> omega

/-- where something is left over the quotient cut towards 0 is small enough to take one away -/
theorem dq_fit {a b : Int} (ha : Fit a) (hb : b ≠ 0) (h : ¬ (a = -9223372036854775808 ∧ b = -1)) : Fit (dq a b) := by
  have h1 := tdiv_fit ha h
  unfold dq
  split
  · rename_i hr
    have h2 : (a.tdiv b).natAbs = a.natAbs / b.natAbs := Int.natAbs_tdiv a b
    have h3 := Int.natAbs_tmod a b
    by_cases hb1 : b.natAbs = 1
    · exfalso
      rw [hb1, Nat.mod_one] at h3
      omega
    · have h4 : a.natAbs / b.natAbs ≤ a.natAbs / 2 := Nat.div_le_div_left (by omega) (by omega)
      unfold Fit at *
      omega
  · exact h1

theorem gcd_step (a b : Int) : Nat.gcd b.natAbs (a.tmod b).natAbs = Nat.gcd a.natAbs b.natAbs := by
  rw [Int.natAbs_tmod, Nat.gcd_comm a.natAbs, Nat.gcd_rec b.natAbs a.natAbs, Nat.gcd_comm]

theorem gcd_zero (a : Int) : Nat.gcd a.natAbs (0 : Int).natAbs = a.natAbs := by simp

end Go.Proofs.YtfjckgnclhpmcaaDoor.Wm
