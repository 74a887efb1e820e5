/- Plain facts for package wide, more: what fits one word, products, quotients; nothing of the program. -/
import Derived.Test.YtfjckgnclhpmcaaDoorVmath
namespace Go.Proofs.YtfjckgnclhpmcaaDoor.Vm
set_option linter.unusedSimpArgs false
set_option linter.unusedVariables false
open Go.RowKit (wrap32 wrap64)

/-- x fits in one word -/
def Fit1 (x : Int) : Prop := -9223372036854775808 ≤ x ∧ x ≤ 9223372036854775807
/-- what Fit, MulDiv, Sum answer -/
def Res1 (x v er : Int) : Prop := (er = 0 ∧ v = x ∧ Fit1 x) ∨ (er = 2 ∧ v = 0 ∧ ¬ Fit1 x)
theorem res1_unique {x v er v' er' : Int} (r : Res1 x v er) (r' : Res1 x v' er') : v = v' ∧ er = er' := by
  rcases r with ⟨e1, e2, e3⟩ | ⟨e1, e2, e3⟩ <;> rcases r' with ⟨f1, f2, f3⟩ | ⟨f1, f2, f3⟩
  · exact ⟨e2.trans f2.symm, e1.trans f1.symm⟩
  · exact absurd e3 f3
  · exact absurd f3 e3
  · exact ⟨e2.trans f2.symm, e1.trans f1.symm⟩
theorem res1_ex (x : Int) : ∃ v er, Res1 x v er := by
  by_cases f : Fit1 x
  · exact ⟨x, 0, Or.inl ⟨rfl, rfl, f⟩⟩
  · exact ⟨0, 2, Or.inr ⟨rfl, rfl, f⟩⟩
theorem res1_fit {x v er : Int} (r : Res1 x v er) : Fit1 v := by
  rcases r with ⟨_, rfl, b⟩ | ⟨_, rfl, _⟩
  · exact b
  · unfold Fit1; omega
theorem fit_yes {h l n q : Int} (b : Bd h l) (e : wrap64 l = n) (eq : n / 9223372036854775808 = q) (c : q = h) : Res1 (num h l) n 0 := by
  refine Or.inl ⟨rfl, ?_, ?_⟩
  · unfold wrap64 at e; unfold Bd at b; unfold num; omega
  · unfold wrap64 at e; unfold Bd at b; unfold num Fit1; omega
theorem fit_no {h l n q : Int} (b : Bd h l) (e : wrap64 l = n) (eq : n / 9223372036854775808 = q) (c : q ≠ h) : Res1 (num h l) 0 2 := by
  refine Or.inr ⟨rfl, rfl, ?_⟩
  unfold wrap64 at e; unfold Bd at b; unfold num Fit1; omega

end Go.Proofs.YtfjckgnclhpmcaaDoor.Vm
