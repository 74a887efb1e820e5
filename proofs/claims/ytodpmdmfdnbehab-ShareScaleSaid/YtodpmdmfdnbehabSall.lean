/- What weights come to together, or why they may not be; which of the places that are sorted get one more. -/
import Derived.Test.YtodpmdmfdnbehabVmath2
import Derived.Test.YtodpmdmfdnbehabSmath2
import Derived.Test.YtodpmdmfdnbehabOmath
namespace Go.Proofs.Ytodpmdmfdnbehab.Sr
set_option linter.unusedSimpArgs false
set_option linter.unusedVariables false
open Go.Proofs.Ytodpmdmfdnbehab.Vm Go.Proofs.Ytodpmdmfdnbehab.Sm Go.Proofs.Ytodpmdmfdnbehab.Om

/-- what all weights together come to, or why they may not be -/
def AllRes (zs : List Int) (v er : Int) : Prop :=
  (4096 < zs.length ∧ v = 0 ∧ er = 6) ∨ (zs.length ≤ 4096 ∧ (∃ z ∈ zs, z < 0) ∧ v = 0 ∧ er = 1) ∨
  (zs.length ≤ 4096 ∧ (∀ z ∈ zs, 0 ≤ z) ∧ ((¬ Fit1 zs.sum ∧ v = 0 ∧ er = 2) ∨ (zs.sum = 0 ∧ v = 0 ∧ er = 3) ∨ (0 < zs.sum ∧ Fit1 zs.sum ∧ v = zs.sum ∧ er = 0)))
theorem sum_nonneg : ∀ {zs : List Int}, (∀ z ∈ zs, 0 ≤ z) → 0 ≤ zs.sum
  | [], _ => by simp
  | z :: zs, h => by
    have h1 := h z (by simp)
    have h2 := sum_nonneg (zs := zs) (fun y hy => h y (by simp [hy]))
    simp; omega
theorem allres_ex (zs : List Int) : ∃ v er, AllRes zs v er := by
  by_cases c : 4096 < zs.length
  · exact ⟨0, 6, .inl ⟨c, rfl, rfl⟩⟩
  · by_cases d : ∃ z ∈ zs, z < 0
    · exact ⟨0, 1, .inr (.inl ⟨by omega, d, rfl, rfl⟩)⟩
    · have p : ∀ z ∈ zs, 0 ≤ z := fun z hz => by
        by_cases q : 0 ≤ z
        · exact q
        · exact absurd ⟨z, hz, by omega⟩ d
      have s := sum_nonneg p
      by_cases e : Fit1 zs.sum
      · by_cases k : zs.sum = 0
        · exact ⟨0, 3, .inr (.inr ⟨by omega, p, .inr (.inl ⟨k, rfl, rfl⟩)⟩)⟩
        · exact ⟨_, 0, .inr (.inr ⟨by omega, p, .inr (.inr ⟨by omega, e, rfl, rfl⟩)⟩)⟩
      · exact ⟨0, 2, .inr (.inr ⟨by omega, p, .inl ⟨e, rfl, rfl⟩⟩)⟩

theorem getD_mem {zs : List Int} {k : Nat} (h : k < zs.length) : zs.getD k 0 ∈ zs := by
  rw [show zs.getD k 0 = zs[k] by simp [List.getD, h]]; exact List.getElem_mem h

/-- the weights as a function of the place -/
def wt (zs : List Int) (i : Nat) : Int := zs.getD i 0
theorem take_sum1 : ∀ (zs : List Int) (k : Nat), k < zs.length → (zs.take (k + 1)).sum = (zs.take k).sum + zs.getD k 0
  | [], k, h => by simp at h
  | z :: zs, 0, h => by simp
  | z :: zs, k + 1, h => by
    have := take_sum1 zs k (by simpa using h)
    simp at this ⊢
    omega
theorem sm_list : ∀ (zs : List Int), sm (wt zs) zs.length = zs.sum := by
  have e : ∀ (zs : List Int) (k : Nat), k ≤ zs.length → sm (wt zs) k = (zs.take k).sum := by
    intro zs k
    induction k with
    | zero => intro _; simp [sm]
    | succ j ih =>
      intro h
      unfold sm
      rw [ih (by omega), take_sum1 zs j (by omega)]; rfl
  intro zs
  rw [e zs zs.length (by omega), List.take_length]
theorem may_list {zs : List Int} (h : ∀ z ∈ zs, 0 ≤ z) (s : 0 < zs.sum) : MayBe (wt zs) zs.length :=
  ⟨fun i hi => h _ (getD_mem hi), by unfold tot; rw [sm_list]; exact s⟩
theorem w_le {w : Nat → Int} {n i : Nat} (h : MayBe w n) (hi : i < n) : w i ≤ tot w n := by
  have h1 := sm_up (F := w) (a := 0) (b := i) (by omega) (fun j _ hj => h.1 j (by omega))
  have h2 := sm_up (F := w) (a := i + 1) (b := n) (by omega) (fun j _ hj => h.1 j hj)
  have e1 : sm w (i + 1) = sm w i + w i := rfl
  have e2 : sm w 0 = 0 := rfl
  unfold tot; omega
theorem quo_fit {a : Int} {w : Nat → Int} {n i : Nat} (fa : Fit1 a) (h : MayBe w n) (hi : i < n) : Fit1 (quo a w n i) := by
  have w0 := h.1 i hi
  have w1 := w_le h hi
  have tp := h.2
  have qr := quo_rem (a := a) (w := w) (n := n) i
  have rb := rem_bd (a := a) h i
  unfold Fit1 at *
  generalize quo a w n i = q at *
  generalize rem a w n i = r at *
  generalize tot w n = t at *
  generalize w i = x at *
  constructor
  · by_cases c : -9223372036854775808 ≤ q
    · exact c
    · have h1 : t * (q + 1) ≤ t * (-9223372036854775808) := Int.mul_le_mul_of_nonneg_left (by omega) (by omega)
      have h2 : -9223372036854775808 * x ≤ a * x := Int.mul_le_mul_of_nonneg_right (by omega) w0
      have h3 : -9223372036854775808 * t ≤ -9223372036854775808 * x := Int.mul_le_mul_of_nonpos_left (by omega) w1
      rw [Int.mul_add, Int.mul_one] at h1
      omega
  · by_cases c : q ≤ 9223372036854775807
    · exact c
    · have h1 : t * 9223372036854775808 ≤ t * q := Int.mul_le_mul_of_nonneg_left (by omega) (by omega)
      have h2 : a * x ≤ 9223372036854775807 * x := Int.mul_le_mul_of_nonneg_right (by omega) w0
      have h3 : 9223372036854775807 * x ≤ 9223372036854775807 * t := Int.mul_le_mul_of_nonneg_left w1 (by omega)
      omega
/-- where something is left over one more fits -/
theorem quo_up {a : Int} {w : Nat → Int} {n i : Nat} (fa : Fit1 a) (h : MayBe w n) (hi : i < n) (r0 : 0 < rem a w n i) : quo a w n i + 1 ≤ 9223372036854775807 := by
  have w0 := h.1 i hi
  have w1 := w_le h hi
  have tp := h.2
  have qr := quo_rem (a := a) (w := w) (n := n) i
  unfold Fit1 at fa
  generalize quo a w n i = q at *
  generalize rem a w n i = r at *
  generalize tot w n = t at *
  generalize w i = x at *
  by_cases c : q + 1 ≤ 9223372036854775807
  · exact c
  · have h1 : t * 9223372036854775807 ≤ t * q := Int.mul_le_mul_of_nonneg_left (by omega) (by omega)
    have h2 : a * x ≤ 9223372036854775807 * x := Int.mul_le_mul_of_nonneg_right (by omega) w0
    have h3 : 9223372036854775807 * x ≤ 9223372036854775807 * t := Int.mul_le_mul_of_nonneg_left w1 (by omega)
    omega

/-! ### who gets one more: the first of the places that are sorted -/
/-- i is among the first j -/
def tk (f : Nat → Nat) : Nat → Nat → Bool
  | 0, _ => false
  | j + 1, i => if f j = i then true else tk f j i
theorem tk_iff (f : Nat → Nat) (i : Nat) : ∀ j, tk f j i = true ↔ ∃ x, x < j ∧ f x = i
  | 0 => by simp [tk]
  | j + 1 => by
    unfold tk
    by_cases e : f j = i
    · rw [if_pos e]; simp; exact ⟨j, by omega, e⟩
    · rw [if_neg e, tk_iff f i j]
      constructor
      · rintro ⟨x, h, k⟩; exact ⟨x, by omega, k⟩
      · rintro ⟨x, h, k⟩
        refine ⟨x, ?_, k⟩
        by_cases c : x = j
        · subst c; exact absurd k e
        · omega
theorem srt_inj {r : Nat → Int} {f : Nat → Nat} {n : Nat} (s : Srt r f 0 n) {x y : Nat} (hx : x < n) (hy : y < n) (e : f x = f y) : x = y := by
  rcases Nat.lt_trichotomy x y with h | h | h
  · have := s x y (by omega) h hy; unfold Ahead at this; rw [e] at this; omega
  · exact h
  · have := s y x (by omega) h hx; unfold Ahead at this; rw [e] at this; omega
theorem tk_new {r : Nat → Int} {f : Nat → Nat} {n j : Nat} (s : Srt r f 0 n) (hj : j < n) : tk f j (f j) = false := by
  cases e : tk f j (f j)
  · rfl
  · obtain ⟨x, h, k⟩ := (tk_iff f (f j) j).1 e
    have := srt_inj s (by omega) hj k; omega
theorem count_first (c : Nat) : ∀ n, c ≤ n → sm (fun i => one (decide (i < c))) n = c
  | 0, h => by obtain rfl : c = 0 := by omega
               rfl
  | n + 1, h => by
    by_cases e : c = n + 1
    · subst e
      rw [sm_congr (g := fun _ => 1) (fun i hi => by simp [hi, one]), sm_const]; omega
    · have h1 := count_first c n (by omega)
      have e1 : sm (fun i => one (decide (i < c))) (n + 1) = sm (fun i => one (decide (i < c))) n + one (decide (n < c)) := rfl
      have e2 : one (decide (n < c)) = 0 := by simp [one]; omega
      omega
theorem first_best {r : Nat → Int} {f : Nat → Nat} {n c : Nat} (s : Srt r f 0 n) (p : Pm (fun i => if i < n then i else 0) f 0 n) (hc : c ≤ n) : Best r n c (tk f c) := by
  have ev : ∀ h : Nat → Int, sm (fun i => h (f i)) n = sm h n := fun h => by
    rw [p.ev h]; exact sm_congr (fun i hi => by simp only [hi, if_true])
  refine ⟨?_, fun i k hi hk ci ck => ?_⟩
  · unfold cnt
    rw [← ev (fun i => one (tk f c i)), ← count_first c n hc]
    refine sm_congr (fun i hi => ?_)
    congr 1
    by_cases l : i < c
    · rw [(tk_iff f (f i) c).2 ⟨i, l, rfl⟩]; simp [l]
    · cases e : tk f c (f i)
      · simp [l]
      · obtain ⟨x, h, k⟩ := (tk_iff f (f i) c).1 e
        have := srt_inj s (by omega) hi k; omega
  · obtain ⟨x, hx, rfl⟩ := (tk_iff f i c).1 ci
    have sur : ∃ y, y < n ∧ f y = k := by
      by_cases h : ∃ y, y < n ∧ f y = k
      · exact h
      · exfalso
        have e := ev (fun v => if v = k then 1 else 0)
        have e1 : sm (fun i => if f i = k then (1 : Int) else 0) n = sm (fun _ => 0) n := sm_congr (fun i hi => by rw [if_neg (fun q => h ⟨i, hi, q⟩)])
        have e2 := sm_more (F := fun i => if i = k then (1 : Int) else 0) (a := 0) (b := n) (k := k) (by omega) hk (fun i _ _ => by split <;> omega) (by simp)
        rw [sm_const] at e1
        have e3 : sm (fun i => if i = k then (1 : Int) else 0) 0 = 0 := rfl
        omega
    obtain ⟨y, hy, rfl⟩ := sur
    have l : c ≤ y := by
      by_cases l : c ≤ y
      · exact l
      · rw [(tk_iff f (f y) c).2 ⟨y, by omega, rfl⟩] at ck; cases ck
    exact s x y (by omega) (by omega) hy

end Go.Proofs.Ytodpmdmfdnbehab.Sr
