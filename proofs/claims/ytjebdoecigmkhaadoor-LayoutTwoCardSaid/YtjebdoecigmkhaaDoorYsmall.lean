/- How many items a reader can have open, or have behind it, by the tokens that it took. No condition. -/
import Derived.Test.YtjebdoecigmkhaaDoorYmath
namespace Go.Proofs.YtjebdoecigmkhaaDoor.Ym
set_option linter.unusedSimpArgs false
set_option linter.unusedVariables false
open Go.Proofs.YtjebdoecigmkhaaDoor.Zm

/-- after n tokens -/
def Rd.Few (n : Nat) (r : Rd) : Prop := r.top.length ≤ n ∧ r.st.length ≤ n ∧ ∀ f ∈ r.st, f.kids.length ≤ n ∧ f.words.length ≤ 8

theorem shut_few {n : Nat} {top : List Nd} {st : List Fr} (h1 : top.length ≤ n) (h2 : st.length ≤ n) (h3 : ∀ f ∈ st, f.kids.length ≤ n ∧ f.words.length ≤ 8) : (shut top st).Few (n + 1) := by
  match st, h2, h3 with
  | [], _, _ => exact ⟨by simp [shut]; omega, by simp [shut], by simp [shut]⟩
  | f :: [], _, _ => exact ⟨by simp [shut]; omega, by simp [shut], by simp [shut]⟩
  | f :: g :: r, h2, h3 =>
    refine ⟨by simp [shut]; omega, by simp [shut] at h2 ⊢; omega, ?_⟩
    simp only [shut]
    intro x hx
    rcases List.mem_cons.1 hx with rfl | hx
    · have := h3 g (by simp)
      exact ⟨by simp; omega, this.2⟩
    · have := h3 x (by simp [hx])
      exact ⟨by omega, this.2⟩

theorem take_few {n : Nat} {r r' : Rd} {t : Tk} (h : r.Few n) (ht : take r t = .ok r') : r'.Few (n + 1) := by
  obtain ⟨go, top, st⟩ := r
  obtain ⟨h1, h2, h3⟩ := h
  simp only at h1 h2 h3
  cases go with
  | false =>
    simp only [take] at ht
    split at ht
    · injection ht with ht; subst ht
      refine ⟨by simp; omega, by simp; omega, ?_⟩
      intro x hx
      rcases List.mem_cons.1 hx with rfl | hx
      · simp
      · have := h3 x hx; exact ⟨by omega, this.2⟩
    · split at ht
      · injection ht with ht; subst ht; exact shut_few h1 h2 h3
      · cases ht
  | true =>
    cases st with
    | nil => cases ht
    | cons f st =>
      simp only [take] at ht
      have hf := h3 f (by simp)
      have hr : ∀ x ∈ st, x.kids.length ≤ n + 1 ∧ x.words.length ≤ 8 := fun x hx => by have := h3 x (by simp [hx]); exact ⟨by omega, this.2⟩
      split at ht
      · injection ht with ht; subst ht; exact shut_few h1 h2 h3
      · split at ht
        · split at ht
          · cases ht
          · injection ht with ht; subst ht
            refine ⟨by simp; omega, by simp at h2 ⊢; omega, ?_⟩
            intro x hx
            rcases List.mem_cons.1 hx with rfl | hx
            · exact ⟨by simp; omega, hf.2⟩
            · exact hr x hx
        · split at ht
          · cases ht
          · split at ht
            · cases ht
            · rename_i h8
              injection ht with ht; subst ht
              refine ⟨by simp; omega, by simp at h2 ⊢; omega, ?_⟩
              intro x hx
              rcases List.mem_cons.1 hx with rfl | hx
              · refine ⟨by simp; omega, ?_⟩
                have := hf.2
                simp
                omega
              · exact hr x hx

theorem start_few : start.Few 0 := ⟨by simp [start], by simp [start], by simp [start]⟩

/-- step by step -/
theorem run_step (a : List Tk) (t : Tk) (l : List Tk) (r r' : Rd) (h : run a start = .ok r) (ht : take r t = .ok r') : run (a ++ [t]) start = .ok r' := by
  rw [run_append, h]
  simp only [run, ht]
theorem run_stop (a : List Tk) (t : Tk) (l : List Tk) (r : Rd) (c : Nat) (h : run a start = .ok r) (ht : take r t = .error c) : run (a ++ t :: l) start = .error (c, t.a) := by
  rw [run_append, h]
  simp only [run, ht]

end Go.Proofs.YtjebdoecigmkhaaDoor.Ym
