/- Plain facts on blocks that are sorted and merged, pair by pair; nothing of the program. -/
import Derived.Test.YtodpmdmfdnbehabOmath
namespace Go.Proofs.Ytodpmdmfdnbehab.Om
set_option linter.unusedSimpArgs false
set_option linter.unusedVariables false
open Go.Proofs.Ytodpmdmfdnbehab.Sm

/-- where a block stands beside another one -/
theorem beside (u q k : Nat) : u * q + u ≤ u * k ∨ q = k ∨ u * k + u ≤ u * q := by
  rcases Nat.lt_trichotomy q k with h | h | h
  · left; have := Nat.mul_le_mul_left u (show q + 1 ≤ k from h); rw [Nat.mul_add, Nat.mul_one] at this; exact this
  · exact .inr (.inl h)
  · right; right; have := Nat.mul_le_mul_left u (show k + 1 ≤ q from h); rw [Nat.mul_add, Nat.mul_one] at this; exact this

structure Blk (r : Nat → Int) (f : Nat → Nat) (s n : Nat) : Prop where
  srt : ∀ q i j, s * q ≤ i → i < j → j < n → j < s * q + s → Ahead r (f i) (f j)
  cut : ∀ q i j, i < s * q → s * q ≤ j → j < n → f i < f j
structure Ini (r : Nat → Int) (f : Nat → Nat) (s n k : Nat) : Prop where
  srt : ∀ q i j, q < k → s * q ≤ i → i < j → j < n → j < s * q + s → Ahead r (f i) (f j)
  cut : ∀ q i j, i < s * q → s * q ≤ j → j < n → f i < f j
  asc : Asc f (s * k) n
structure Mid (r : Nat → Int) (f : Nat → Nat) (s n k : Nat) : Prop where
  a : ∀ q i j, q < k → 2 * s * q ≤ i → i < j → j < n → j < 2 * s * q + 2 * s → Ahead r (f i) (f j)
  b : ∀ q i j, 2 * k ≤ q → s * q ≤ i → i < j → j < n → j < s * q + s → Ahead r (f i) (f j)
  c : ∀ q i j, i < 2 * s * q → 2 * s * q ≤ j → j < n → f i < f j
  d : ∀ q i j, 2 * k ≤ q → i < s * q → s * q ≤ j → j < n → f i < f j

/-- a cut outside of what was turned stands -/
theorem cut_kept {f f' : Nat → Nat} {a b n x : Nat} (p : Pm f f' a b) (hx : x ≤ a ∨ b ≤ x) (h : ∀ i j, i < x → x ≤ j → j < n → f i < f j) (bn : b ≤ n) : ∀ i j, i < x → x ≤ j → j < n → f' i < f' j := by
  intro i j h1 h2 h3
  rcases hx with hx | hx
  · rw [p.lo i (by omega)]
    by_cases c1 : j < a
    · rw [p.lo j c1]; exact h i j h1 h2 h3
    · by_cases c2 : b ≤ j
      · rw [p.hi j c2]; exact h i j h1 h2 h3
      · exact p.all (P := fun v => f i < v) (fun q h4 h5 => h i q h1 (by omega) (by omega)) j (by omega) (by omega)
  · rw [p.hi j (by omega)]
    by_cases c1 : i < a
    · rw [p.lo i c1]; exact h i j h1 h2 h3
    · by_cases c2 : b ≤ i
      · rw [p.hi i c2]; exact h i j h1 h2 h3
      · exact p.all (P := fun v => v < f j) (fun q h4 h5 => h q j (by omega) h2 h3) i (by omega) (by omega)

theorem Ini.start {r : Nat → Int} {f : Nat → Nat} {s n : Nat} (h : Asc f 0 n) : Ini r f s n 0 :=
  ⟨fun q i j h0 => by omega, fun q i j h1 h2 h3 => h i j (by omega) (by omega) h3, fun i j h1 h2 h3 => h i j (by omega) h2 h3⟩
theorem Ini.step {r : Nat → Int} {f f' : Nat → Nat} {s n k a : Nat} (x : Ini r f s n k) (ha : a = s * k) (bn : a + s ≤ n) (p : Pm f f' a (a + s)) (t : Srt r f' a (a + s)) : Ini r f' s n (k + 1) := by
  refine ⟨fun q i j h0 h1 h2 h3 h4 => ?_, fun q i j => ?_, fun i j h1 h2 h3 => ?_⟩
  · rcases beside s q k with e | e | e
    · rw [p.lo i (by omega), p.lo j (by omega)]
      exact x.srt q i j (by
        rcases Nat.lt_or_ge q k with l | l
        · exact l
        · have := Nat.mul_le_mul_left s l; omega) h1 h2 h3 h4
    · subst e; exact t i j (by omega) h2 (by omega)
    · have := Nat.mul_le_mul_left s (show q ≤ k by omega); omega
  · refine cut_kept p ?_ (x.cut q) bn i j
    rcases beside s q k with e | e | e
    · omega
    · subst e; omega
    · omega
  · have e : s * (k + 1) = a + s := by rw [ha, Nat.mul_add, Nat.mul_one]
    rw [p.hi i (by omega), p.hi j (by omega)]
    exact x.asc i j (by omega) h2 h3
theorem Ini.last {r : Nat → Int} {f f' : Nat → Nat} {s n k a : Nat} (x : Ini r f s n k) (ha : a = s * k) (an : a ≤ n) (bn : n < a + s) (p : Pm f f' a n) (t : Srt r f' a n) : Blk r f' s n := by
  refine ⟨fun q i j h1 h2 h3 h4 => ?_, fun q i j => ?_⟩
  · rcases beside s q k with e | e | e
    · rw [p.lo i (by omega), p.lo j (by omega)]
      exact x.srt q i j (by
        rcases Nat.lt_or_ge q k with l | l
        · exact l
        · have := Nat.mul_le_mul_left s l; omega) h1 h2 h3 h4
    · subst e; exact t i j (by omega) h2 h3
    · omega
  · intro h1 h2 h3
    refine cut_kept p ?_ (x.cut q) (Nat.le_refl _) i j h1 h2 h3
    rcases beside s q k with e | e | e
    · omega
    · subst e; omega
    · omega

theorem Mid.start {r : Nat → Int} {f : Nat → Nat} {s n : Nat} (x : Blk r f s n) : Mid r f s n 0 :=
  ⟨fun q i j h0 => by omega, fun q i j _ => x.srt q i j, fun q i j => by rw [show 2 * s * q = s * (2 * q) by ac_rfl]; exact x.cut (2 * q) i j, fun q i j _ => x.cut q i j⟩
/-- what is merged next -/
theorem Mid.pair {r : Nat → Int} {f : Nat → Nat} {s n k a : Nat} (x : Mid r f s n k) (ha : a = 2 * s * k) (am : a + s ≤ n) : Srt r f a (a + s) ∧ Srt r f (a + s) (min (a + s + s) n) ∧ Lo f a (a + s) n := by
  have e0 : s * (2 * k) = a := by rw [ha]; ac_rfl
  have e1 : s * (2 * k + 1) = a + s := by rw [Nat.mul_add, e0, Nat.mul_one]
  refine ⟨fun i j h1 h2 h3 => x.b (2 * k) i j (Nat.le_refl _) (by omega) h2 (by omega) (by omega), fun i j h1 h2 h3 => x.b (2 * k + 1) i j (by omega) (by omega) h2 (by omega) (by omega), fun i j h1 h2 h3 h4 => x.d (2 * k + 1) i j (by omega) (by omega) (by omega) h4⟩
theorem Mid.step {r : Nat → Int} {f f' : Nat → Nat} {s n k a : Nat} (x : Mid r f s n k) (ha : a = 2 * s * k) (bn : a + 2 * s ≤ n) (p : Pm f f' a (a + 2 * s)) (t : Srt r f' a (a + 2 * s)) : Mid r f' s n (k + 1) := by
  have up : ∀ q, 2 * (k + 1) ≤ q → a + 2 * s ≤ s * q := fun q h => by
    have h1 := Nat.mul_le_mul_left s h
    have h2 : s * (2 * (k + 1)) = a + 2 * s := by rw [ha, Nat.mul_add, Nat.mul_add]; simp; rw [show s * (2 * k) = 2 * s * k by ac_rfl]; omega
    omega
  refine ⟨fun q i j h0 h1 h2 h3 h4 => ?_, fun q i j h0 h1 h2 h3 h4 => ?_, fun q i j => ?_, fun q i j h0 => ?_⟩
  · rcases beside (2 * s) q k with e | e | e
    · rw [p.lo i (by omega), p.lo j (by omega)]
      exact x.a q i j (by
        rcases Nat.lt_or_ge q k with l | l
        · exact l
        · have := Nat.mul_le_mul_left (2 * s) l; omega) h1 h2 h3 h4
    · subst e; exact t i j (by omega) h2 (by omega)
    · have := Nat.mul_le_mul_left (2 * s) (show q ≤ k by omega); omega
  · have := up q h0
    rw [p.hi i (by omega), p.hi j (by omega)]
    exact x.b q i j (by omega) h1 h2 h3 h4
  · refine cut_kept p ?_ (x.c q) bn i j
    rcases beside (2 * s) q k with e | e | e
    · omega
    · subst e; omega
    · omega
  · exact cut_kept p (.inr (up q h0)) (fun i j => x.d q i j (by omega)) bn i j
theorem Mid.last {r : Nat → Int} {f f' : Nat → Nat} {s n k a : Nat} (x : Mid r f s n k) (ha : a = 2 * s * k) (an : a ≤ n) (bn : n < a + 2 * s) (p : Pm f f' a n) (t : Srt r f' a n) : Blk r f' (2 * s) n := by
  refine ⟨fun q i j h1 h2 h3 h4 => ?_, fun q i j => ?_⟩
  · rcases beside (2 * s) q k with e | e | e
    · rw [p.lo i (by omega), p.lo j (by omega)]
      exact x.a q i j (by
        rcases Nat.lt_or_ge q k with l | l
        · exact l
        · have := Nat.mul_le_mul_left (2 * s) l; omega) h1 h2 h3 h4
    · subst e; exact t i j (by omega) h2 h3
    · omega
  · refine fun h1 h2 h3 => cut_kept p ?_ (x.c q) (Nat.le_refl _) i j h1 h2 h3
    rcases beside (2 * s) q k with e | e | e
    · omega
    · subst e; omega
    · omega
theorem Mid.alone {r : Nat → Int} {f : Nat → Nat} {s n k a : Nat} (x : Mid r f s n k) (ha : a = 2 * s * k) (h : n ≤ a + s) : Srt r f a n := by
  have e0 : s * (2 * k) = a := by rw [ha]; ac_rfl
  exact fun i j h1 h2 h3 => x.b (2 * k) i j (Nat.le_refl _) (by omega) h2 h3 (by omega)
theorem Blk.whole {r : Nat → Int} {f : Nat → Nat} {s n : Nat} (x : Blk r f s n) (h : n ≤ s) : Srt r f 0 n :=
  fun i j h1 h2 h3 => x.srt 0 i j (by omega) h2 h3 (by omega)

end Go.Proofs.Ytodpmdmfdnbehab.Om
