/- Plain facts for the laws of layer 3; nothing of the program. -/
import Derived.Test.YtapddciodoobfaaQmath
namespace Go.Proofs.Ytapddciodoobfaa.Qm
set_option linter.unusedSimpArgs false
set_option linter.unusedVariables false
open Go.Proofs.Ytapddciodoobfaa.Vm

theorem rat1_same {n d n' d' N D er : Int} (hd : d ≠ 0) (hd' : d' ≠ 0) (e : n * d' = n' * d) (r : Rat1 n d N D er) : Rat1 n' d' N D er := by
  have key : ∀ N' D' : Int, N' * d' = n' * D' ↔ N' * d = n * D' := by
    intro N' D'
    constructor
    · intro h
      apply mul_same hd'
      calc d' * (N' * d) = N' * d' * d := by ac_rfl
        _ = n' * D' * d := by rw [h]
        _ = n' * d * D' := by ac_rfl
        _ = n * d' * D' := by rw [e]
        _ = d' * (n * D') := by ac_rfl
    · intro h
      apply mul_same hd
      calc d * (N' * d') = N' * d * d' := by ac_rfl
        _ = n * D' * d' := by rw [h]
        _ = n * d' * D' := by ac_rfl
        _ = n' * d * D' := by rw [e]
        _ = d * (n' * D') := by ac_rfl
  rcases r with ⟨h0, l, h, f⟩ | ⟨h0, h1, h2, no⟩
  · exact .inl ⟨h0, l, (key _ _).2 h, f⟩
  · exact .inr ⟨h0, h1, h2, fun N' D' l h => no N' D' l ((key _ _).1 h)⟩

theorem rat1_low {n d N D : Int} (r : Rat1 n d N D 0) : Low N D ∧ N * d = n * D ∧ Fit1 N ∧ Fit1 D := by
  rcases r with ⟨_, l, e, f⟩ | ⟨h, _⟩
  · exact ⟨l, e, f⟩
  · omega
theorem rat1_er {n d N D er : Int} (r : Rat1 n d N D er) : er = 0 ∨ (er = 2 ∧ N = 0 ∧ D = 0) := by
  rcases r with ⟨h, _⟩ | ⟨h, h1, h2, _⟩
  · exact .inl h
  · exact .inr ⟨h, h1, h2⟩
theorem low_ne {a b c d : Int} (h1 : Low a b) (h2 : Low c d) : b * d ≠ 0 := Int.mul_ne_zero (by have := h1.1; omega) (by have := h2.1; omega)

theorem opres_fit {a b c d n m N D er : Int} (r : OpRes a b c d n m N D er) : Fit1 N ∧ Fit1 D := by
  rcases r with ⟨_, _, r⟩ | ⟨_, rfl, rfl, _⟩
  · exact rat1_fit r
  · unfold Fit1; omega
theorem opres_ok {a b c d n m N D : Int} (r : OpRes a b c d n m N D 0) : Low a b ∧ Low c d ∧ Low N D ∧ N * m = n * D ∧ Fit1 N ∧ Fit1 D := by
  rcases r with ⟨h1, h2, r⟩ | ⟨_, _, _, h⟩
  · have := rat1_low r; exact ⟨h1, h2, this.1, this.2⟩
  · omega
theorem makeres_fit {n d N D er : Int} (r : MakeRes n d N D er) : Fit1 N ∧ Fit1 D := by
  rcases r with ⟨_, rfl, rfl, _⟩ | ⟨_, r⟩
  · unfold Fit1; omega
  · exact rat1_fit r
theorem divres2_fit {a b c d N D er : Int} (r : DivRes2 a b c d N D er) : Fit1 N ∧ Fit1 D := by
  rcases r with ⟨_, _, r⟩ | ⟨_, rfl, rfl, _⟩
  · exact makeres_fit r
  · unfold Fit1; omega

/-- what was added is taken away again -/
theorem back_sub {a b c d N D : Int} (fa : Fit1 a) (fb : Fit1 b) (r : OpRes a b c d (a * d + c * b) (b * d) N D 0) : OpRes N D c d (N * d - c * D) (D * d) a b 0 := by
  obtain ⟨h1, h2, h3, e, _, _⟩ := opres_ok r
  refine .inl ⟨h3, h2, .inl ⟨rfl, h1, ?_, fa, fb⟩⟩
  rw [Int.add_mul] at e
  rw [Int.sub_mul]
  have e1 : a * d * D = a * (D * d) := by ac_rfl
  have e2 : c * b * D = c * D * b := by ac_rfl
  have e3 : N * (b * d) = N * d * b := by ac_rfl
  omega
/-- what multiplied divides again -/
theorem back_div {a b c d N D : Int} (fa : Fit1 a) (fb : Fit1 b) (hc : c ≠ 0) (r : OpRes a b c d (a * c) (b * d) N D 0) : DivRes2 N D c d a b 0 := by
  obtain ⟨h1, h2, h3, e, _, _⟩ := opres_ok r
  refine .inl ⟨h3, h2, .inr ⟨Int.mul_ne_zero (by have := h3.1; omega) hc, .inl ⟨rfl, h1, ?_, fa, fb⟩⟩⟩
  have e1 : a * c * D = a * (D * c) := by ac_rfl
  have e3 : N * (b * d) = N * d * b := by ac_rfl
  omega

/-- sums and products hang on no order -/
theorem op_swap {a b c d n m n' m' N D er : Int} (hn : n = n') (hm : m = m') (r : OpRes a b c d n m N D er) : OpRes c d a b n' m' N D er := by
  subst hn hm
  rcases r with ⟨h1, h2, r⟩ | ⟨h, r⟩
  · exact .inl ⟨h2, h1, r⟩
  · exact .inr ⟨fun k => h ⟨k.2, k.1⟩, r⟩
theorem add_swap {a b c d N D er : Int} (r : OpRes a b c d (a * d + c * b) (b * d) N D er) : OpRes c d a b (c * b + a * d) (d * b) N D er :=
  op_swap (Int.add_comm _ _) (Int.mul_comm _ _) r
theorem mul_swap {a b c d N D er : Int} (r : OpRes a b c d (a * c) (b * d) N D er) : OpRes c d a b (c * a) (d * b) N D er :=
  op_swap (Int.mul_comm _ _) (Int.mul_comm _ _) r

/-- and on no brackets -/
theorem add_brackets {a b c d f g sN sD uN uD N D er : Int} (rs : OpRes a b c d (a * d + c * b) (b * d) sN sD 0) (ru : OpRes c d f g (c * g + f * d) (d * g) uN uD 0)
    (r : OpRes sN sD f g (sN * g + f * sD) (sD * g) N D er) : OpRes a b uN uD (a * uD + uN * b) (b * uD) N D er := by
  obtain ⟨h1, h2, h3, e1, _, _⟩ := opres_ok rs
  obtain ⟨_, h4, h5, e2, _, _⟩ := opres_ok ru
  rcases r with ⟨_, _, r⟩ | ⟨h, _⟩
  · refine .inl ⟨h1, h5, rat1_same (low_ne h3 h4) (low_ne h1 h5) ?_ r⟩
    have hd : d ≠ 0 := by have := h2.1; omega
    apply mul_same hd
    have a1 : d * ((sN * g + f * sD) * (b * uD)) = sN * (b * d) * (g * uD) + f * sD * b * d * uD := by rw [Int.add_mul, Int.mul_add]; congr 1 <;> ac_rfl
    have a2 : d * ((a * uD + uN * b) * (sD * g)) = a * d * uD * sD * g + uN * (d * g) * (b * sD) := by rw [Int.add_mul, Int.mul_add]; congr 1 <;> ac_rfl
    rw [a1, a2, e1, e2]
    have a3 : (a * d + c * b) * sD * (g * uD) = a * d * uD * sD * g + c * b * sD * g * uD := by rw [Int.add_mul, Int.add_mul]; congr 1 <;> ac_rfl
    have a4 : (c * g + f * d) * uD * (b * sD) = c * b * sD * g * uD + f * sD * b * d * uD := by rw [Int.add_mul, Int.add_mul]; congr 1 <;> ac_rfl
    rw [a3, a4]; omega
  · exact absurd ⟨h3, h4⟩ h

/-- a times the sum of b and c -/
theorem mul_over_add {a b c d f g uN uD pN pD vN vD N D er : Int} (ru : OpRes c d f g (c * g + f * d) (d * g) uN uD 0) (rp : OpRes a b c d (a * c) (b * d) pN pD 0) (rv : OpRes a b f g (a * f) (b * g) vN vD 0)
    (r : OpRes a b uN uD (a * uN) (b * uD) N D er) : OpRes pN pD vN vD (pN * vD + vN * pD) (pD * vD) N D er := by
  obtain ⟨h2, h4, h5, e1, _, _⟩ := opres_ok ru
  obtain ⟨h1, _, h6, e2, _, _⟩ := opres_ok rp
  obtain ⟨_, _, h7, e3, _, _⟩ := opres_ok rv
  rcases r with ⟨_, _, r⟩ | ⟨h, _⟩
  · refine .inl ⟨h6, h7, rat1_same (low_ne h1 h5) (low_ne h6 h7) ?_ r⟩
    have hb : b ≠ 0 := by have := h1.1; omega
    have hm : b * d * g ≠ 0 := Int.mul_ne_zero (low_ne h1 h2) (by have := h4.1; omega)
    apply mul_same hm
    have a1 : b * d * g * (a * uN * (pD * vD)) = uN * (d * g) * (a * b * pD * vD) := by ac_rfl
    have a2 : b * d * g * ((pN * vD + vN * pD) * (b * uD)) = pN * (b * d) * (g * vD * b * uD) + vN * (b * g) * (d * pD * b * uD) := by rw [Int.add_mul, Int.mul_add]; congr 1 <;> ac_rfl
    rw [a1, a2, e1, e2, e3]
    have a3 : (c * g + f * d) * uD * (a * b * pD * vD) = a * c * pD * (g * vD * b * uD) + a * f * vD * (d * pD * b * uD) := by rw [Int.add_mul, Int.add_mul]; congr 1 <;> ac_rfl
    rw [a3]
  · exact absurd ⟨h1, h5⟩ h

/-- where Make tells that it does not fit -/
theorem made_over {n d N D : Int} (fn : Fit1 n) (fd : Fit1 d) (hd : d ≠ 0) (r : Rat1 n d N D 2) : n = -9223372036854775808 ∨ d = -9223372036854775808 := by
  rcases r with ⟨h, _⟩ | ⟨_, _, _, no⟩
  · omega
  · by_cases c : n = -9223372036854775808 ∨ d = -9223372036854775808
    · exact c
    · exfalso
      obtain ⟨g, x, y, g0, _, en, ed, hc, hy⟩ := gcd_out (a := n) hd
      have bx : (x.natAbs : Int) ≤ n.natAbs := by
        rw [en, Int.natAbs_mul]
        have : 1 * x.natAbs ≤ g.natAbs * x.natAbs := Nat.mul_le_mul_right _ (by omega)
        omega
      have bY : (y.natAbs : Int) ≤ d.natAbs := by
        rw [ed, Int.natAbs_mul]
        have : 1 * y.natAbs ≤ g.natAbs * y.natAbs := Nat.mul_le_mul_right _ (by omega)
        omega
      unfold Fit1 at fn fd no
      by_cases c2 : 0 < y
      · exact no x y ⟨c2, hc⟩ (by rw [en, ed]; ac_rfl) (by omega)
      · exact no (-x) (-y) ⟨by omega, by rw [Int.neg_gcd, Int.gcd_neg]; exact hc⟩ (by rw [Int.neg_mul, Int.mul_neg]; congr 1; rw [en, ed]; ac_rfl) (by omega)

theorem made_again {N D : Int} (l : Low N D) (f : Fit1 N) (g : Fit1 D) : MakeRes N D N D 0 := .inr ⟨by have := l.1; omega, .inl ⟨rfl, l, rfl, f, g⟩⟩

theorem sign_same {N m n D : Int} (hm : 0 < m) (hD : 0 < D) (e : N * m = n * D) : (N < 0 ↔ n < 0) ∧ (0 < N ↔ 0 < n) := by
  rcases Int.lt_trichotomy N 0 with h | h | h <;> rcases Int.lt_trichotomy n 0 with k | k | k
  · exact ⟨⟨fun _ => k, fun _ => h⟩, ⟨fun _ => by omega, fun _ => by omega⟩⟩
  · subst k; have := Int.mul_neg_of_neg_of_pos h hm; simp at e; omega
  · have h1 := Int.mul_neg_of_neg_of_pos h hm; have h2 := Int.mul_pos k hD; omega
  · subst h; have := Int.mul_neg_of_neg_of_pos k hD; simp at e; omega
  · subst h k; exact ⟨Iff.rfl, Iff.rfl⟩
  · subst h; have := Int.mul_pos k hD; simp at e; omega
  · have h1 := Int.mul_pos h hm; have h2 := Int.mul_neg_of_neg_of_pos k hD; omega
  · subst k; have := Int.mul_pos h hm; simp at e; omega
  · exact ⟨⟨fun _ => by omega, fun _ => by omega⟩, ⟨fun _ => k, fun _ => h⟩⟩

/-- what stands beside a ratio that is no whole number -/
theorem beside_facts {a b : Int} (L : Low a b) (b1 : b ≠ 1) (fa : Fit1 a) : ∃ n : Int, -9223372036854775808 ≤ n ∧ n < 9223372036854775807 ∧ (n = a / b ∧ ¬ a % b = 0) ∧ cv (n * b) (a * 1) = -1 ∧ cv ((n + 1) * b) (a * 1) = 1 := by
  have h0 := L.1
  have h1 := Int.mul_ediv_add_emod a b
  have h2 := Int.emod_nonneg a (b := b) (by omega)
  have h3 := Int.emod_lt_of_pos a h0
  have hz : a % b ≠ 0 := by
    intro h
    have d : b ∣ a := Int.dvd_of_emod_eq_zero h
    have : Int.gcd a b = b.natAbs := by rw [Int.gcd_comm]; exact Int.gcd_eq_natAbs_left d
    have := L.2
    omega
  unfold Fit1 at fa
  refine ⟨a / b, ?_, ?_, ⟨rfl, hz⟩, ?_, ?_⟩
  · by_cases hq : a / b < 0
    · have h6 : b * (a / b + 1) ≤ 1 * (a / b + 1) := Int.mul_le_mul_of_nonpos_right (by omega) (by omega)
      rw [Int.mul_add] at h6
      omega
    · omega
  · by_cases hq : a / b < 0
    · omega
    · have : 2 * (a / b) ≤ b * (a / b) := Int.mul_le_mul_of_nonneg_right (by omega) (by omega)
      omega
  · have : a / b * b < a * 1 := by rw [Int.mul_comm]; omega
    unfold cv; rw [if_pos this]
  · have : a * 1 < (a / b + 1) * b := by
      have e : (a / b + 1) * b = b * (a / b) + b := by rw [Int.add_mul, Int.one_mul, Int.mul_comm]
      omega
    unfold cv; rw [if_neg (by omega), if_pos this]

/-- two that are told apart, and how; g: whether the difference fits -/
theorem less_facts {a b c d N D g : Int} (h1 : Low a b) (h2 : Low c d) (r : Rat1 (a * d - c * b) (b * d) N D g) :
    (cv (a * d) (c * b) = -1 ∧ cv (c * b) (a * d) = 1 ∧ ¬ (a = c ∧ b = d) ∧ g = 0 ∧ decide (N < 0) = true ∧ decide (0 < N) = false) ∨
    (cv (a * d) (c * b) = 1 ∧ cv (c * b) (a * d) = -1 ∧ ¬ (a = c ∧ b = d) ∧ g = 0 ∧ decide (N < 0) = false ∧ decide (0 < N) = true) ∨
    (cv (a * d) (c * b) = 0 ∧ cv (c * b) (a * d) = 0 ∧ (a = c ∧ b = d) ∧ g = 0 ∧ decide (N < 0) = false ∧ decide (0 < N) = false) ∨
    (cv (a * d) (c * b) = -1 ∧ cv (c * b) (a * d) = 1 ∧ ¬ (a = c ∧ b = d) ∧ g = 2) ∨
    (cv (a * d) (c * b) = 1 ∧ cv (c * b) (a * d) = -1 ∧ ¬ (a = c ∧ b = d) ∧ g = 2) ∨
    (cv (a * d) (c * b) = 0 ∧ cv (c * b) (a * d) = 0 ∧ (a = c ∧ b = d) ∧ g = 2) := by
  have hm : 0 < b * d := Int.mul_pos h1.1 h2.1
  have ne : a * d ≠ c * b → ¬ (a = c ∧ b = d) := by
    rintro h ⟨rfl, rfl⟩; exact h rfl
  have sg : g = 0 → (N < 0 ↔ a * d - c * b < 0) ∧ (0 < N ↔ 0 < a * d - c * b) := by
    rintro rfl
    have := rat1_low r
    exact sign_same hm this.1.1 this.2.1
  have eg := rat1_er r
  rcases Int.lt_trichotomy (a * d) (c * b) with h | h | h
  · have v1 : cv (a * d) (c * b) = -1 := by unfold cv; rw [if_pos h]
    have v2 : cv (c * b) (a * d) = 1 := by unfold cv; rw [if_neg (by omega), if_pos h]
    rcases eg with rfl | ⟨rfl, _⟩
    · have := sg rfl
      exact .inl ⟨v1, v2, ne (by omega), rfl, decide_eq_true (this.1.2 (by omega)), decide_eq_false (fun k => by have := this.2.1 k; omega)⟩
    · exact .inr (.inr (.inr (.inl ⟨v1, v2, ne (by omega), rfl⟩)))
  · have e := low_eq h1 h2 h
    obtain ⟨rfl, rfl⟩ := e
    have v1 : cv (a * b) (a * b) = 0 := by unfold cv; rw [if_neg (by omega), if_neg (by omega)]
    rcases eg with rfl | ⟨rfl, _⟩
    · have := sg rfl
      exact .inr (.inr (.inl ⟨v1, v1, ⟨rfl, rfl⟩, rfl, decide_eq_false (fun k => by have := this.1.1 k; omega), decide_eq_false (fun k => by have := this.2.1 k; omega)⟩))
    · exact .inr (.inr (.inr (.inr (.inr ⟨v1, v1, ⟨rfl, rfl⟩, rfl⟩))))
  · have v1 : cv (a * d) (c * b) = 1 := by unfold cv; rw [if_neg (by omega), if_pos h]
    have v2 : cv (c * b) (a * d) = -1 := by unfold cv; rw [if_pos h]
    rcases eg with rfl | ⟨rfl, _⟩
    · have := sg rfl
      exact .inr (.inl ⟨v1, v2, ne (by omega), rfl, decide_eq_false (fun k => by have := this.1.1 k; omega), decide_eq_true (this.2.2 (by omega))⟩)
    · exact .inr (.inr (.inr (.inr (.inl ⟨v1, v2, ne (by omega), rfl⟩))))

end Go.Proofs.Ytapddciodoobfaa.Qm
