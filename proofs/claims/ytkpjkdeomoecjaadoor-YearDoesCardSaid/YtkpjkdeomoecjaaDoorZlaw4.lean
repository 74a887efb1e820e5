/- Blanks and remarks passed over at once, a first byte's kind, and tokens put together one by one, as plain mathematics. No condition. -/
import Derived.WalkKit
import Derived.Test.YtkpjkdeomoecjaaDoorZlaw3
namespace Go.Proofs.YtkpjkdeomoecjaaDoor.Zm
set_option linter.unusedSimpArgs false
set_option linter.unusedVariables false
open Go.Lib (decDigits)

/-! ## Passing over -/
theorem tot_blanks (k : Nat) : ∀ (l : List UInt8) (p : Nat) (acc : List Tk), (l.takeWhile blank).length = k → tot l p acc = tot (l.drop k) (p + k) acc := by
  induction k with
  | zero => intro l p acc _; rfl
  | succ k ih =>
    intro l p acc h
    cases l with
    | nil => simp at h
    | cons c r =>
      by_cases hc : blank c = true
      · rw [List.takeWhile_cons, if_pos hc] at h
        simp only [List.length_cons, Nat.add_right_cancel_iff] at h
        rw [tot_skip (n := 1) p acc (by unfold step; rw [if_pos hc])]
        show tot r (p + 1) acc = _
        rw [ih r (p + 1) acc h, List.drop_succ_cons]
        congr 1; omega
      · rw [List.takeWhile_cons, if_neg hc] at h; simp at h

theorem tot_remark {c : UInt8} {r : List UInt8} (p : Nat) (acc : List Tk) (h : c.toNat = 35) : tot (c :: r) p acc = tot ((c :: r).drop ((c :: r).takeWhile onLine).length) (p + ((c :: r).takeWhile onLine).length) acc := by
  have hc : onLine c = true := by unfold onLine; rw [h]; rfl
  have hb : blank c = false := by unfold blank; rw [h]; rfl
  rw [List.takeWhile_cons, if_pos hc]
  rw [tot_skip (n := (r.takeWhile onLine).length + 1) p acc (by unfold step; rw [hb, if_neg (by simp), if_pos h])]
  simp

/-- what a first byte says of a token's kind: 0, none -/
def kindB (c : UInt8) : Nat := if letter c then 1 else if digit c then 2 else if c.toNat = 123 then 3 else if c.toNat = 125 then 4 else if c.toNat = 59 then 5 else 0

theorem kindB_cases (c : UInt8) : (kindB c = 1 ∧ letter c = true) ∨ (kindB c = 2 ∧ letter c = false ∧ digit c = true) ∨ (kindB c = 3 ∧ c.toNat = 123) ∨ (kindB c = 4 ∧ c.toNat = 125) ∨ (kindB c = 5 ∧ c.toNat = 59) ∨
    (kindB c = 0 ∧ letter c = false ∧ digit c = false ∧ c.toNat ≠ 123 ∧ c.toNat ≠ 125 ∧ c.toNat ≠ 59) := by
  unfold kindB
  cases h1 : letter c
  · cases h2 : digit c
    · by_cases h3 : c.toNat = 123
      · simp [h3]
      · by_cases h4 : c.toNat = 125
        · simp [h4]
        · by_cases h5 : c.toNat = 59
          · simp [h5]
          · simp [h3, h4, h5]
    · simp
  · simp

section
variable {c : UInt8} {r : List UInt8}
theorem step_wrong (hb : blank c = false) (h35 : c.toNat ≠ 35) (hk : kindB c = 0) : step c r = .wrong := by
  rcases kindB_cases c with ⟨h, _⟩ | ⟨h, _⟩ | ⟨h, _⟩ | ⟨h, _⟩ | ⟨h, _⟩ | ⟨_, h1, h2, h3, h4, h5⟩
  all_goals first | (rw [hk] at h; cases h) | skip
  unfold step; simp [hb, h35, h1, h2, h3, h4, h5]
theorem step_not_skip (hb : blank c = false) (h35 : c.toNat ≠ 35) (n : Nat) : step c r ≠ .skip n := by
  intro h
  rcases step_skip h with ⟨h, _⟩ | ⟨h, _⟩
  · rw [hb] at h; cases h
  · exact h35 h
theorem step_not_wrong (hk : kindB c ≠ 0) : step c r ≠ .wrong := by
  intro h
  unfold step at h
  unfold kindB at hk
  repeat' split at h
  all_goals first | (cases h; done) | simp_all
theorem step_letter (h1 : letter c = true) : step c r = if 16 < (r.takeWhile inner).length + 1 then .err 6 0 else .tok 1 0 (c :: r.takeWhile inner) ((r.takeWhile inner).length + 1) := by
  obtain ⟨f1, f2, f3⟩ := letter_facts h1
  unfold step; simp [f1, f2, h1]
theorem step_digit (h1 : digit c = true) : step c r = if 9 < (r.takeWhile digit).length + 1 then .err 6 0
    else if c.toNat = 48 ∧ 1 < (r.takeWhile digit).length + 1 then .err 5 0
    else if startsInner (r.drop (r.takeWhile digit).length) then .err 5 ((r.takeWhile digit).length + 1)
    else .tok 2 (val (c :: r.takeWhile digit)) [] ((r.takeWhile digit).length + 1) := by
  obtain ⟨f1, f2, f3⟩ := digit_facts h1
  unfold step; rw [f1, f3, h1]; simp only [Bool.false_eq_true, if_false, if_neg f2, if_true]
theorem step_sign (h3 : 3 ≤ kindB c) : step c r = .tok (kindB c) 0 [] 1 := by
  rcases kindB_cases c with ⟨h, _⟩ | ⟨h, _⟩ | ⟨h, e⟩ | ⟨h, e⟩ | ⟨h, e⟩ | ⟨h, _⟩
  · omega
  · omega
  · obtain rfl : c = 123 := UInt8.toNat_inj.1 (e.trans (by decide)); rfl
  · obtain rfl : c = 125 := UInt8.toNat_inj.1 (e.trans (by decide)); rfl
  · obtain rfl : c = 59 := UInt8.toNat_inj.1 (e.trans (by decide)); rfl
  · omega
theorem kindB_letter (h : letter c = true) : kindB c = 1 := by unfold kindB; rw [if_pos h]
theorem kindB_digit (h : digit c = true) : kindB c = 2 := by unfold kindB; rw [if_neg (by rw [(digit_facts h).2.2]; decide), if_pos h]
theorem kind1 (h : kindB c = 1) : letter c = true := by rcases kindB_cases c with ⟨_, x⟩ | ⟨g, _⟩ | ⟨g, _⟩ | ⟨g, _⟩ | ⟨g, _⟩ | ⟨g, _⟩ <;> first | exact x | (rw [h] at g; cases g)
theorem kind2 (h : kindB c = 2) : digit c = true := by rcases kindB_cases c with ⟨g, _⟩ | ⟨_, _, x⟩ | ⟨g, _⟩ | ⟨g, _⟩ | ⟨g, _⟩ | ⟨g, _⟩ <;> first | exact x | (rw [h] at g; cases g)
end

/-! ## Put together one by one -/
theorem join_snoc (l : List Tk) (t : Tk) : join (l ++ [t]) = if l = [] then text t else join l ++ 32 :: text t := by
  induction l with
  | nil => rfl
  | cons u l ih =>
    cases l with
    | nil => rfl
    | cons v l =>
      rw [if_neg (by simp)] at ih ⊢
      show text u ++ 32 :: join (v :: l ++ [t]) = (text u ++ 32 :: join (v :: l)) ++ 32 :: text t
      rw [ih]; simp

end Go.Proofs.YtkpjkdeomoecjaaDoor.Zm
