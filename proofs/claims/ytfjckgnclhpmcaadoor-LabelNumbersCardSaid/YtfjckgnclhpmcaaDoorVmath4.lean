/- Plain facts on dividing two words bit by bit; nothing of the program. -/
import Derived.Test.YtfjckgnclhpmcaaDoorVmath3
namespace Go.Proofs.YtfjckgnclhpmcaaDoor.Vm
set_option linter.unusedSimpArgs false
set_option linter.unusedVariables false
open Go.RowKit (wrap32 wrap64)

/-- after k bits: what was divided of T, what is left, and what is still to come (in the word l) -/
def DI (T b : Int) (k : Nat) (r l q : Int) : Prop :=
  0 ≤ r ∧ r < b ∧ 0 ≤ q ∧ q < 2 ^ k ∧ ∃ t : Int, 0 ≤ t ∧ t < 2 ^ (64 - k) ∧ l = t * 2 ^ k ∧ T = (q * b + r) * 2 ^ (64 - k) + t

theorem di_start {b r l : Int} (h0 : 0 ≤ r) (h1 : r < b) (h2 : 0 ≤ l) (h3 : l ≤ 18446744073709551615) : DI (r * 18446744073709551616 + l) b 0 r l 0 :=
  ⟨h0, h1, Int.le_refl _, by omega, l, h2, by omega, by omega, by rw [Int.zero_mul, Int.zero_add]; rfl⟩

theorem di_end {T b r l q : Int} (h : DI T b 64 r l q) : T = q * b + r ∧ 0 ≤ r ∧ r < b ∧ 0 ≤ q ∧ q ≤ 18446744073709551615 := by
  obtain ⟨h0, h1, h2, h3, t, h4, h5, _, h6⟩ := h
  have e : (2 : Int) ^ (64 - 64) = 1 := rfl
  rw [e] at h5 h6
  have e2 : (2 : Int) ^ 64 = 18446744073709551616 := rfl
  rw [e2] at h3
  exact ⟨by omega, h0, h1, h2, by omega⟩

theorem div_same {q b r q' r' : Int} (h : q * b + r = q' * b + r') (h1 : 0 ≤ r) (h2 : r < b) (h3 : 0 ≤ r') (h4 : r' < b) : q = q' ∧ r = r' := by
  have e1 : (q * b + r) / b = q := by rw [Int.add_comm, Int.add_mul_ediv_right _ _ (by omega), Int.ediv_eq_zero_of_lt h1 h2, Int.zero_add]
  have e2 : (q' * b + r') / b = q' := by rw [Int.add_comm, Int.add_mul_ediv_right _ _ (by omega), Int.ediv_eq_zero_of_lt h3 h4, Int.zero_add]
  have e : q = q' := by rw [← e1, ← e2, h]
  subst e
  exact ⟨rfl, by omega⟩

theorem pow_split (k : Nat) (hk : k < 64) : ∃ P m : Int, (2 : Int) ^ (64 - k) = 2 * P ∧ (2 : Int) ^ (64 - (k + 1)) = P ∧ (2 : Int) ^ k = m ∧ (2 : Int) ^ (k + 1) = 2 * m ∧ P * m = 9223372036854775808 ∧ 0 < P ∧ 0 < m := by
  refine ⟨2 ^ (63 - k), 2 ^ k, ?_, ?_, rfl, ?_, ?_, ?_, ?_⟩
  · have : 64 - k = (63 - k) + 1 := by omega
    rw [this, Int.pow_succ, Int.mul_comm]
  · have : 64 - (k + 1) = 63 - k := by omega
    rw [this]
  · rw [Int.pow_succ, Int.mul_comm]
  · rw [← Int.pow_add]
    have : 63 - k + k = 63 := by omega
    rw [this]; rfl
  · exact Int.pow_pos (by omega)
  · exact Int.pow_pos (by omega)

/-- one bit more -/
theorem di_step {T b r l q : Int} {k : Nat} (hk : k < 64) (h : DI T b k r l q) :
    0 ≤ r ∧ r < b ∧ 0 ≤ l ∧ l ≤ 18446744073709551615 ∧ 0 ≤ q ∧ q ≤ 9223372036854775807 ∧ ∃ bit l' : Int, l / 9223372036854775808 = bit ∧ 0 ≤ bit ∧ bit ≤ 1 ∧ IntKind.u64.wrap (l * 2) = l' ∧
      (b ≤ r * 2 + bit → DI T b (k + 1) (r * 2 + bit - b) l' (q * 2 + 1)) ∧ (r * 2 + bit < b → DI T b (k + 1) (r * 2 + bit) l' (q * 2)) := by
  obtain ⟨P, m, e1, e2, e3, e4, e5, hP, hm⟩ := pow_split k hk
  unfold DI at h ⊢
  obtain ⟨h0, h1, h2, h3, t, h4, h5, h6, h7⟩ := h
  rw [e1] at h5 h7
  rw [e3] at h3 h6
  rw [e2, e4]
  have hm2 : m ≤ 9223372036854775808 := by
    have : 1 * m ≤ P * m := Int.mul_le_mul_of_nonneg_right (by omega) (by omega)
    omega
  have ex : (q * b + r) * (2 * P) = 2 * ((q * b + r) * P) := by rw [← Int.mul_assoc, Int.mul_comm _ 2, Int.mul_assoc]
  have eq1 : (q * 2 + 1) * b = 2 * (q * b) + b := by rw [Int.add_mul, Int.one_mul, Int.mul_right_comm, Int.mul_comm _ 2]
  have eq2 : q * 2 * b = 2 * (q * b) := by rw [Int.mul_right_comm, Int.mul_comm _ 2]
  have ey : ∀ c : Int, (2 * (q * b + r) + c) * P = 2 * ((q * b + r) * P) + c * P := fun c => by rw [Int.add_mul, Int.mul_assoc]
  by_cases c : t < P
  · have l1 : 0 ≤ t * m := Int.mul_nonneg h4 (by omega)
    have l2 : t * m < P * m := Int.mul_lt_mul_of_pos_right c hm
    refine ⟨h0, h1, by omega, by omega, h2, by omega, 0, l * 2, by omega, by omega, by omega, by rw [IntKind.wrap_u64]; omega, fun hc => ?_, fun hc => ?_⟩
    · refine ⟨by omega, by omega, by omega, by omega, t, h4, c, by rw [h6, Int.mul_comm 2 m, ← Int.mul_assoc], ?_⟩
      rw [h7, ex, eq1]
      have := ey 0
      rw [Int.zero_mul] at this
      have e9 : 2 * (q * b) + b + (r * 2 + 0 - b) = 2 * (q * b + r) + 0 := by omega
      rw [e9, this]; omega
    · refine ⟨by omega, by omega, by omega, by omega, t, h4, c, by rw [h6, Int.mul_comm 2 m, ← Int.mul_assoc], ?_⟩
      rw [h7, ex, eq2]
      have := ey 0
      rw [Int.zero_mul] at this
      have e9 : 2 * (q * b) + (r * 2 + 0) = 2 * (q * b + r) + 0 := by omega
      rw [e9, this]; omega
  · obtain ⟨s, rfl⟩ : ∃ s, t = P + s := ⟨t - P, by omega⟩
    rw [Int.add_mul] at h6
    have l1 : 0 ≤ s * m := Int.mul_nonneg (by omega) (by omega)
    have l2 : s * m < P * m := Int.mul_lt_mul_of_pos_right (by omega) hm
    refine ⟨h0, h1, by omega, by omega, h2, by omega, 1, s * (2 * m), by omega, by omega, by omega, by rw [IntKind.wrap_u64, h6, Int.mul_comm 2 m, ← Int.mul_assoc]; omega, fun hc => ?_, fun hc => ?_⟩
    · refine ⟨by omega, by omega, by omega, by omega, s, by omega, by omega, rfl, ?_⟩
      rw [h7, ex, eq1]
      have := ey 1
      rw [Int.one_mul] at this
      have e9 : 2 * (q * b) + b + (r * 2 + 1 - b) = 2 * (q * b + r) + 1 := by omega
      rw [e9, this]; omega
    · refine ⟨by omega, by omega, by omega, by omega, s, by omega, by omega, rfl, ?_⟩
      rw [h7, ex, eq2]
      have := ey 1
      rw [Int.one_mul] at this
      have e9 : 2 * (q * b) + (r * 2 + 1) = 2 * (q * b + r) + 1 := by omega
      rw [e9, this]; omega

/-- the high word divided, and what is left of it, with the low word, divided -/
theorem div_two {h1 l1 b qh rh h l r : Int} (eh : qh * b + rh = h1) (rh0 : 0 ≤ rh) (rh1 : rh < b) (a3 : 0 ≤ l1) (a4 : l1 ≤ 18446744073709551615) (bd : Bd h l)
    (e : num h l * b + r = num h1 l1) (r0 : 0 ≤ r) (r1 : r < b) : qh = h ∧ rh * 18446744073709551616 + l1 = l * b + r := by
  unfold Bd at bd
  unfold num at e
  have ex : (h * 18446744073709551616 + l) * b = h * b * 18446744073709551616 + l * b := by rw [Int.add_mul, Int.mul_right_comm]
  have l0 : 0 ≤ l * b := Int.mul_nonneg bd.2.2.1 (by omega)
  have l2 : l * b ≤ 18446744073709551615 * b := Int.mul_le_mul_of_nonneg_right bd.2.2.2 (by omega)
  -- what is left of the high word beside h times b is 0 to b less 1
  have hq := div_same (q := qh) (r := rh) (q' := h) (r' := h1 - h * b) (b := b) (by omega) rh0 rh1 (by omega) (by omega)
  refine ⟨hq.1, ?_⟩
  have := hq.2
  omega

end Go.Proofs.YtfjckgnclhpmcaaDoor.Vm
