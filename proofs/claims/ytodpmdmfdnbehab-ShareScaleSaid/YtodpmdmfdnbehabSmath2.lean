/- Plain facts on an amount that is split by weights, more: weights that are all as many times greater, a weight of 0 put in, weights that are the same. -/
import Derived.Test.YtodpmdmfdnbehabSmath
namespace Go.Proofs.Ytodpmdmfdnbehab.Sm
set_option linter.unusedSimpArgs false
set_option linter.unusedVariables false
variable {a : Int} {w : Nat → Int} {n : Nat}

theorem tot_scale (c : Int) : tot (fun i => c * w i) n = c * tot w n := sm_mul c w n
theorem may_scale {c : Int} (hc : 0 < c) (h : MayBe w n) : MayBe (fun i => c * w i) n :=
  ⟨fun i hi => Int.mul_nonneg (by omega) (h.1 i hi), by rw [tot_scale]; exact Int.mul_pos hc h.2⟩
theorem split_scale {c : Int} (hc : 0 < c) (h : MayBe w n) {o : Nat → Int} (ho : IsSplit a w n o) : IsSplit a (fun i => c * w i) n o := by
  obtain ⟨C, hC, e⟩ := ho
  have q : ∀ i, quo a (fun i => c * w i) n i = quo a w n i := by
    intro i
    unfold quo
    rw [tot_scale, show a * (c * w i) = c * (a * w i) by ac_rfl]
    exact Int.mul_ediv_mul_of_pos _ _ hc
  have r : ∀ i, rem a (fun i => c * w i) n i = c * rem a w n i := by
    intro i
    unfold rem
    rw [tot_scale, show a * (c * w i) = c * (a * w i) by ac_rfl]
    exact Int.mul_emod_mul_of_pos _ _ hc
  have l : left a (fun i => c * w i) n = left a w n := by
    rw [(left_is (a := a) (may_scale hc h)).1, (left_is (a := a) h).1, sm_congr (fun i _ => q i)]
  refine ⟨C, ⟨by rw [l]; exact hC.1, fun i k hi hk ci ck => ?_⟩, fun i hi => by rw [q]; exact e i hi⟩
  have := hC.2 i k hi hk ci ck
  unfold Ahead at this ⊢
  rw [r, r]
  rcases this with x | ⟨x, y⟩
  · exact .inl (Int.mul_lt_mul_of_pos_left x hc)
  · exact .inr ⟨by rw [x], y⟩

/-- v put in at place k -/
def ins (k : Nat) (v : Int) (f : Nat → Int) (i : Nat) : Int := if i < k then f i else if i = k then v else f (i - 1)
theorem sm_ins (k : Nat) (v : Int) (f : Nat → Int) : ∀ {n : Nat}, k ≤ n → sm (ins k v f) (n + 1) = sm f n + v
  | 0, h => by
    obtain rfl : k = 0 := by omega
    simp [sm, ins]
  | n + 1, h => by
    by_cases e : k = n + 1
    · subst e
      have : sm (ins (n + 1) v f) (n + 1) = sm f (n + 1) := sm_congr (fun i hi => by unfold ins; rw [if_pos hi])
      conv => lhs; unfold sm
      rw [this]; unfold ins; simp
    · have := sm_ins k v f (n := n) (by omega)
      conv => lhs; unfold sm
      rw [this]
      have e2 : ins k v f (n + 1) = f n := by unfold ins; rw [if_neg (by omega), if_neg (by omega)]; rfl
      rw [e2]; conv => rhs; unfold sm
      omega
theorem sm_ins_fn (k : Nat) (f g : Nat → Int) {n : Nat} (h : k ≤ n) (hg : ∀ i, g i = if i < k then f i else if i = k then 0 else f (i - 1)) : sm g (n + 1) = sm f n := by
  have : sm g (n + 1) = sm (ins k 0 f) (n + 1) := sm_congr (fun i _ => hg i)
  rw [this, sm_ins k 0 f h]; omega

theorem split_ins {k : Nat} (hk : k ≤ n) (h : MayBe w n) {o : Nat → Int} (ho : IsSplit a w n o) : MayBe (ins k 0 w) (n + 1) ∧ IsSplit a (ins k 0 w) (n + 1) (ins k 0 o) := by
  obtain ⟨C, hC, e⟩ := ho
  have t : tot (ins k 0 w) (n + 1) = tot w n := by unfold tot; rw [sm_ins k 0 w hk]; omega
  have m : MayBe (ins k 0 w) (n + 1) := by
    refine ⟨fun i hi => ?_, by rw [t]; exact h.2⟩
    unfold ins
    by_cases c1 : i < k
    · rw [if_pos c1]; exact h.1 i (by omega)
    · rw [if_neg c1]
      by_cases c2 : i = k
      · rw [if_pos c2]; exact Int.le_refl _
      · rw [if_neg c2]; exact h.1 (i - 1) (by omega)
  have q : ∀ i, quo a (ins k 0 w) (n + 1) i = ins k 0 (quo a w n) i := by
    intro i; unfold quo; rw [t]; unfold ins
    by_cases c1 : i < k <;> by_cases c2 : i = k <;> simp [c1, c2]
  have r : ∀ i, rem a (ins k 0 w) (n + 1) i = ins k 0 (rem a w n) i := by
    intro i; unfold rem; rw [t]; unfold ins
    by_cases c1 : i < k <;> by_cases c2 : i = k <;> simp [c1, c2]
  have l : left a (ins k 0 w) (n + 1) = left a w n := by
    rw [(left_is (a := a) m).1, (left_is (a := a) h).1, sm_congr (g := ins k 0 (quo a w n)) (fun i _ => q i), sm_ins k 0 _ hk]; omega
  refine ⟨m, fun i => if i < k then C i else if i = k then false else C (i - 1), ⟨?_, ?_⟩, ?_⟩
  · rw [l, ← hC.1]
    unfold cnt
    apply sm_ins_fn k (fun i => one (C i)) _ hk
    intro i
    by_cases c1 : i < k <;> by_cases c2 : i = k <;> simp [c1, c2, one]
  · intro i j hi hj ci cj
    -- i is one of the old places, and has something left over
    have old : ∃ i', i' < n ∧ C i' = true ∧ rem a (ins k 0 w) (n + 1) i = rem a w n i' ∧ ((i < k ∧ i = i') ∨ (k < i ∧ i = i' + 1)) := by
      by_cases c1 : i < k
      · simp only [c1, if_true] at ci
        exact ⟨i, by omega, ci, by rw [r]; unfold ins; rw [if_pos c1], .inl ⟨c1, rfl⟩⟩
      · by_cases c2 : i = k
        · simp only [c2, if_false, if_true, Nat.lt_irrefl] at ci; cases ci
        · simp only [c1, c2, if_false] at ci
          exact ⟨i - 1, by omega, ci, by rw [r]; unfold ins; rw [if_neg c1, if_neg c2], .inr ⟨by omega, by omega⟩⟩
    obtain ⟨i', hi', ci', ri, pi⟩ := old
    have pos := more_pos h hC hi' ci'
    by_cases d1 : j < k
    · simp only [d1, if_true] at cj
      have := hC.2 i' j hi' (by omega) ci' cj
      have rj : rem a (ins k 0 w) (n + 1) j = rem a w n j := by rw [r]; unfold ins; rw [if_pos d1]
      unfold Ahead at this ⊢; rw [ri, rj]; omega
    · by_cases d2 : j = k
      · have rj : rem a (ins k 0 w) (n + 1) j = 0 := by rw [r]; unfold ins; rw [if_neg d1, if_pos d2]
        unfold Ahead; rw [ri, rj]; exact .inl pos
      · simp only [d1, d2, if_false] at cj
        have := hC.2 i' (j - 1) hi' (by omega) ci' cj
        have rj : rem a (ins k 0 w) (n + 1) j = rem a w n (j - 1) := by rw [r]; unfold ins; rw [if_neg d1, if_neg d2]
        unfold Ahead at this ⊢; rw [ri, rj]; omega
  · intro i hi
    rw [q]
    unfold ins
    by_cases c1 : i < k
    · simp only [c1, if_true]; exact e i (by omega)
    · by_cases c2 : i = k
      · simp only [c2, if_false, if_true, Nat.lt_irrefl]; rfl
      · simp only [c1, c2, if_false]; exact e (i - 1) (by omega)

/-- weights that are the same: those ahead have one more -/
theorem split_even {x : Int} (hx : 0 < x) {k : Nat} (hk : 0 < k) : MayBe (fun _ => x) k ∧ IsSplit a (fun _ => x) k (fun i => a / k + if (i : Int) < a % k then 1 else 0) := by
  have t : tot (fun _ => x) k = x * k := by unfold tot; rw [sm_const, Int.mul_comm]
  have kp : (0 : Int) < k := by omega
  have m : MayBe (fun _ => x) k := ⟨fun _ _ => Int.le_of_lt hx, by rw [t]; exact Int.mul_pos hx kp⟩
  have q : ∀ i, quo a (fun _ => x) k i = a / k := by
    intro i; unfold quo; rw [t, Int.mul_comm a x]; exact Int.mul_ediv_mul_of_pos _ _ hx
  have r : ∀ i, rem a (fun _ => x) k i = x * (a % k) := by
    intro i; unfold rem; rw [t, Int.mul_comm a x]; exact Int.mul_emod_mul_of_pos _ _ hx
  have l : left a (fun _ => x) k = a % k := by
    rw [(left_is (a := a) m).1, sm_congr (g := fun _ => a / k) (fun i _ => q i), sm_const]
    have := Int.mul_ediv_add_emod a k; omega
  have r0 := Int.emod_nonneg a (b := k) (by omega)
  have r1 := Int.emod_lt_of_pos a kp
  refine ⟨m, fun i => decide ((i : Int) < a % k), ⟨?_, ?_⟩, fun i hi => ?_⟩
  · rw [l]
    have c : ∀ (j : Nat), cnt (fun i => decide ((i : Int) < a % k)) j = if (j : Int) ≤ a % k then (j : Int) else a % k := by
      intro j
      induction j with
      | zero => unfold cnt sm; rw [if_pos (by omega)]; rfl
      | succ j ih =>
        unfold cnt at ih ⊢
        conv => lhs; unfold sm
        rw [ih]
        by_cases c1 : (j : Int) < a % k
        · rw [if_pos (by omega), if_pos (by omega)]; simp only [c1, decide_true, one, if_true]; omega
        · by_cases c2 : (j : Int) = a % k
          · rw [if_pos (by omega), if_neg (by omega)]; simp only [c1, decide_false, one]; simp; omega
          · rw [if_neg (by omega), if_neg (by omega)]; simp only [c1, decide_false, one]; simp
    rw [c k, if_neg (by omega)]
  · intro i j hi hj ci cj
    simp only [decide_eq_true_eq, decide_eq_false_iff_not] at ci cj
    unfold Ahead; rw [r, r]; exact .inr ⟨rfl, by omega⟩
  · rw [q]
    by_cases c : (i : Int) < a % k
    · simp only [c, decide_true, if_true, one]
    · simp only [c, decide_false, if_false, one]; simp

end Go.Proofs.Ytodpmdmfdnbehab.Sm
