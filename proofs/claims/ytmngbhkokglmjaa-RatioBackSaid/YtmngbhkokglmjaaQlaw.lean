/- Plain facts for the laws of layer 3; nothing of the program. -/
import Derived.Test.YtmngbhkokglmjaaQmath
namespace Go.Proofs.Ytmngbhkokglmjaa.Qm
open Go.Proofs.Ytmngbhkokglmjaa.Vm

theorem rat1_same {n d n' d' N D er : Int} (hd : d ≠ 0) (hd' : d' ≠ 0) (e : n * d' = n' * d) (r : Rat1 n d N D er) : Rat1 n' d' N D er := by
  have key : ∀ N' D' : Int, N' * d' = n' * D' ↔ N' * d = n * D' := by
    intro N' D'
    constructor
    · intro h
      apply mul_same hd'
      calc d' * (N' * d) = N' * d' * d := by ac_rfl
        _ = n' * D' * d := by rw [h]
        _ = n' * d * D' := by ac_rfl
        _ = n * d' * D' := by rw [e]
        _ = d' * (n * D') := by ac_rfl
    · intro h
      apply mul_same hd
      calc d * (N' * d') = N' * d * d' := by ac_rfl
        _ = n * D' * d' := by rw [h]
        _ = n * d' * D' := by ac_rfl
        _ = n' * d * D' := by rw [e]
        _ = d * (n' * D') := by ac_rfl
  rcases r with ⟨h0, l, h, f⟩ | ⟨h0, h1, h2, no⟩
  · exact .inl ⟨h0, l, (key _ _).2 h, f⟩
  · exact .inr ⟨h0, h1, h2, fun N' D' l h => no N' D' l ((key _ _).1 h)⟩

theorem rat1_low {n d N D : Int} (r : Rat1 n d N D 0) : Low N D ∧ N * d = n * D ∧ Fit1 N ∧ Fit1 D := by
  rcases r with ⟨_, l, e, f⟩ | ⟨h, _⟩
  · exact ⟨l, e, f⟩
  · omega
theorem rat1_er {n d N D er : Int} (r : Rat1 n d N D er) : er = 0 ∨ (er = 2 ∧ N = 0 ∧ D = 0) := by
  rcases r with ⟨h, _⟩ | ⟨h, h1, h2, _⟩
  · exact .inl h
  · exact .inr ⟨h, h1, h2⟩
theorem low_ne {a b c d : Int} (h1 : Low a b) (h2 : Low c d) : b * d ≠ 0 := Int.mul_ne_zero (by have := h1.1; omega) (by have := h2.1; omega)

theorem opres_fit {a b c d n m N D er : Int} (r : OpRes a b c d n m N D er) : Fit1 N ∧ Fit1 D := by
  rcases r with ⟨_, _, r⟩ | ⟨_, rfl, rfl, _⟩
  · exact rat1_fit r
  · unfold Fit1; omega
theorem opres_ok {a b c d n m N D : Int} (r : OpRes a b c d n m N D 0) : Low a b ∧ Low c d ∧ Low N D ∧ N * m = n * D ∧ Fit1 N ∧ Fit1 D := by
  rcases r with ⟨h1, h2, r⟩ | ⟨_, _, _, h⟩
  · have := rat1_low r; exact ⟨h1, h2, this.1, this.2⟩
  · omega
theorem makeres_fit {n d N D er : Int} (r : MakeRes n d N D er) : Fit1 N ∧ Fit1 D := by
  rcases r with ⟨_, rfl, rfl, _⟩ | ⟨_, r⟩
  · unfold Fit1; omega
  · exact rat1_fit r
theorem divres2_fit {a b c d N D er : Int} (r : DivRes2 a b c d N D er) : Fit1 N ∧ Fit1 D := by
  rcases r with ⟨_, _, r⟩ | ⟨_, rfl, rfl, _⟩
  · exact makeres_fit r
  · unfold Fit1; omega

/-- what was added is taken away again -/
theorem back_sub {a b c d N D : Int} (fa : Fit1 a) (fb : Fit1 b) (r : OpRes a b c d (a * d + c * b) (b * d) N D 0) : OpRes N D c d (N * d - c * D) (D * d) a b 0 := by
  obtain ⟨h1, h2, h3, e, _, _⟩ := opres_ok r
  refine .inl ⟨h3, h2, .inl ⟨rfl, h1, ?_, fa, fb⟩⟩
  rw [Int.add_mul] at e
  rw [Int.sub_mul]
  have e1 : a * d * D = a * (D * d) := by ac_rfl
  have e2 : c * b * D = c * D * b := by ac_rfl
  have e3 : N * (b * d) = N * d * b := by ac_rfl
  omega
/-- what multiplied divides again -/
theorem back_div {a b c d N D : Int} (fa : Fit1 a) (fb : Fit1 b) (hc : c ≠ 0) (r : OpRes a b c d (a * c) (b * d) N D 0) : DivRes2 N D c d a b 0 := by
  obtain ⟨h1, h2, h3, e, _, _⟩ := opres_ok r
  refine .inl ⟨h3, h2, .inr ⟨Int.mul_ne_zero (by have := h3.1; omega) hc, .inl ⟨rfl, h1, ?_, fa, fb⟩⟩⟩
  have e1 : a * c * D = a * (D * c) := by ac_rfl
  have e3 : N * (b * d) = N * d * b := by ac_rfl
  omega

/-- sums and products hang on no order -/
theorem op_swap {a b c d n m n' m' N D er : Int} (hn : n = n') (hm : m = m') (r : OpRes a b c d n m N D er) : OpRes c d a b n' m' N D er := by
  subst hn hm
  rcases r with ⟨h1, h2, r⟩ | ⟨h, r⟩
  · exact .inl ⟨h2, h1, r⟩
  · exact .inr ⟨fun k => h ⟨k.2, k.1⟩, r⟩
theorem add_swap {a b c d N D er : Int} (r : OpRes a b c d (a * d + c * b) (b * d) N D er) : OpRes c d a b (c * b + a * d) (d * b) N D er :=
  op_swap (Int.add_comm _ _) (Int.mul_comm _ _) r
theorem mul_swap {a b c d N D er : Int} (r : OpRes a b c d (a * c) (b * d) N D er) : OpRes c d a b (c * a) (d * b) N D er :=
  op_swap (Int.mul_comm _ _) (Int.mul_comm _ _) r

/-- and on no brackets -/
theorem add_brackets {a b c d f g sN sD uN uD N D er : Int} (rs : OpRes a b c d (a * d + c * b) (b * d) sN sD 0) (ru : OpRes c d f g (c * g + f * d) (d * g) uN uD 0)
    (r : OpRes sN sD f g (sN * g + f * sD) (sD * g) N D er) : OpRes a b uN uD (a * uD + uN * b) (b * uD) N D er := by
  obtain ⟨h1, h2, h3, e1, _, _⟩ := opres_ok rs
  obtain ⟨_, h4, h5, e2, _, _⟩ := opres_ok ru
  rcases r with ⟨_, _, r⟩ | ⟨h, _⟩
  · refine .inl ⟨h1, h5, rat1_same (low_ne h3 h4) (low_ne h1 h5) ?_ r⟩
    have hd : d ≠ 0 := by have := h2.1; omega
    apply mul_same hd
    have a1 : d * ((sN * g + f * sD) * (b * uD)) = sN * (b * d) * (g * uD) + f * sD * b * d * uD := by rw [Int.add_mul, Int.mul_add]; congr 1 <;> ac_rfl
    have a2 : d * ((a * uD + uN * b) * (sD * g)) = a * d * uD * sD * g + uN * (d * g) * (b * sD) := by rw [Int.add_mul, Int.mul_add]; congr 1 <;> ac_rfl
    rw [a1, a2, e1, e2]
    have a3 : (a * d + c * b) * sD * (g * uD) = a * d * uD * sD * g + c * b * sD * g * uD := by rw [Int.add_mul, Int.add_mul]; congr 1 <;> ac_rfl
    have a4 : (c * g + f * d) * uD * (b * sD) = c * b * sD * g * uD + f * sD * b * d * uD := by rw [Int.add_mul, Int.add_mul]; congr 1 <;> ac_rfl
    rw [a3, a4]; omega
  · exact absurd ⟨h3, h4⟩ h

/-- a times the sum of b and c -/
theorem mul_over_add {a b c d f g uN uD pN pD vN vD N D er : Int} (ru : OpRes c d f g (c * g + f * d) (d * g) uN uD 0) (rp : OpRes a b c d (a * c) (b * d) pN pD 0) (rv : OpRes a b f g (a * f) (b * g) vN vD 0)
    (r : OpRes a b uN uD (a * uN) (b * uD) N D er) : OpRes pN pD vN vD (pN * vD + vN * pD) (pD * vD) N D er := by
  obtain ⟨h2, h4, h5, e1, _, _⟩ := opres_ok ru
  obtain ⟨h1, _, h6, e2, _, _⟩ := opres_ok rp
  obtain ⟨_, _, h7, e3, _, _⟩ := opres_ok rv
  rcases r with ⟨_, _, r⟩ | ⟨h, _⟩
  · refine .inl ⟨h6, h7, rat1_same (low_ne h1 h5) (low_ne h6 h7) ?_ r⟩
    have hb : b ≠ 0 := by have := h1.1; omega
    have hm : b * d * g ≠ 0 := Int.mul_ne_zero (low_ne h1 h2) (by have := h4.1; omega)
    apply mul_same hm
    have a1 : b * d * g * (a * uN * (pD * vD)) = uN * (d * g) * (a * b * pD * vD) := by ac_rfl
    have a2 : b * d * g * ((pN * vD + vN * pD) * (b * uD)) = pN * (b * d) * (g * vD * b * uD) + vN * (b * g) * (d * pD * b * uD) := by rw [Int.add_mul, Int.mul_add]; congr 1 <;> ac_rfl
    rw [a1, a2, e1, e2, e3]
    have a3 : (c * g + f * d) * uD * (a * b * pD * vD) = a * c * pD * (g * vD * b * uD) + a * f * vD * (d * pD * b * uD) := by rw [Int.add_mul, Int.add_mul]; congr 1 <;> ac_rfl
    rw [a3]
  · exact absurd ⟨h1, h5⟩ h

/-- where Make tells that it does not fit -/
theorem made_over {n d N D : Int} (fn : Fit1 n) (fd : Fit1 d) (hd : d ≠ 0) (r : Rat1 n d N D 2) : n = -9223372036854775808 ∨ d = -9223372036854775808 := by
  rcases r with ⟨h, _⟩ | ⟨_, _, _, no⟩
  · omega
  · by_cases c : n = -9223372036854775808 ∨ d = -9223372036854775808
    · exact c
    · exfalso
      obtain ⟨g, x, y, g0, _, en, ed, hc, hy⟩ := gcd_out (a := n) hd
      have bx : (x.natAbs : Int) ≤ n.natAbs := by
        rw [en, Int.natAbs_mul]
        have : 1 * x.natAbs ≤ g.natAbs * x.natAbs := Nat.mul_le_mul_right _ (by omega)
        omega
      have bY : (y.natAbs : Int) ≤ d.natAbs := by
        rw [ed, Int.natAbs_mul]
        have : 1 * y.natAbs ≤ g.natAbs * y.natAbs := Nat.mul_le_mul_right _ (by omega)
        omega
      unfold Fit1 at fn fd no
      by_cases c2 : 0 < y
      · exact no x y ⟨c2, hc⟩ (by rw [en, ed]; ac_rfl) (by omega)
      · exact no (-x) (-y) ⟨by omega, by rw [Int.neg_gcd, Int.gcd_neg]; exact hc⟩ (by rw [Int.neg_mul, Int.mul_neg]; congr 1; rw [en, ed]; ac_rfl) (by omega)

theorem made_again {N D : Int} (l : Low N D) (f : Fit1 N) (g : Fit1 D) : MakeRes N D N D 0 := .inr ⟨by have := l.1; omega, .inl ⟨rfl, l, rfl, f, g⟩⟩

end Go.Proofs.Ytmngbhkokglmjaa.Qm
