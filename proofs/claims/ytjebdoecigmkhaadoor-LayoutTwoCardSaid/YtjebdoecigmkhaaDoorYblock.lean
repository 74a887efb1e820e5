/- Items in a block: the reader over an open block, and how deep it has been. -/
import Derived.Test.YtjebdoecigmkhaaDoorYtext
namespace Go.Proofs.YtjebdoecigmkhaaDoor.Ym
set_option linter.unusedSimpArgs false
set_option linter.unusedVariables false
open Go.Proofs.YtjebdoecigmkhaaDoor.Zm

theorem deepL_snoc (l : List Nd) (n : Nd) : deepL (l ++ [n]) = max (deepL l) (deepN n) := by
  induction l with
  | nil => simp [deepL]
  | cons m l ih => simp only [List.cons_append, deepL, ih]; omega

def depSt : List Fr → Nat
  | [] => 0
  | f :: r => max (depSt r) (r.length + ((if f.block then 1 else 0) + deepL f.kids))

/-- how deep blocks have stood so far -/
def dep (r : Rd) : Nat := max (deepL r.top) (depSt r.st)

theorem depSt_all (st : List Fr) (h : ∀ g ∈ st, g.block = true) : st.length ≤ depSt st := by
  cases st with
  | nil => simp
  | cons f r =>
    have := h f (by simp)
    simp only [depSt, List.length_cons, this, if_true]; omega

theorem deepN_nd (f : Fr) : deepN f.nd = (if f.block then 1 else 0) + deepL f.kids := by simp [Fr.nd, deepN]

theorem shut_dep (top : List Nd) (f : Fr) (st : List Fr) (h : ∀ g ∈ st, g.block = true) : dep (shut top (f :: st)) = max (deepL top) (depSt (f :: st)) := by
  match st with
  | [] => simp only [shut, dep, depSt, deepL_snoc, deepN_nd, List.length_nil]; omega
  | g :: r =>
    have hg := h g (by simp)
    simp only [shut, dep, depSt, deepL_snoc, deepN_nd, List.length_cons, hg, if_true]; omega

theorem take_dep {r r' : Rd} {t : Tk} (h : r.Ok) (ht : take r t = .ok r') : dep r' = if r.go = true ∧ t.k = 3 then max (dep r) r.st.length else dep r := by
  obtain ⟨go, top, st⟩ := r
  cases go with
  | false =>
    simp only [Bool.false_eq_true, false_and, if_false]
    simp only [take] at ht
    by_cases h1 : t.k = 1
    · rw [if_pos h1] at ht
      injection ht with ht; subst ht
      have := depSt_all st h
      simp only [dep, depSt, deepL, Bool.false_eq_true, if_false]; omega
    · rw [if_neg h1] at ht
      by_cases h4 : t.k = 4 ∧ st ≠ []
      · rw [if_pos h4] at ht
        injection ht with ht; subst ht
        cases st with
        | nil => exact absurd rfl h4.2
        | cons f st => rw [shut_dep top f st (fun g hg => h g (by simp [hg]))]; rfl
      · rw [if_neg h4] at ht; cases ht
  | true =>
    cases st with
    | nil => exact h.elim
    | cons f st =>
      obtain ⟨hb, hk, hs⟩ := h
      simp only [take] at ht
      by_cases h5 : t.k = 5
      · rw [if_pos h5] at ht
        injection ht with ht; subst ht
        rw [if_neg (by omega), shut_dep top f st hs]; rfl
      · rw [if_neg h5] at ht
        by_cases h3 : t.k = 3
        · rw [if_pos h3] at ht
          rw [if_pos ⟨rfl, h3⟩]
          by_cases h6 : 6 < st.length + 1
          · rw [if_pos h6] at ht; cases ht
          · rw [if_neg h6] at ht
            injection ht with ht; subst ht
            simp only [dep, depSt, hb, hk, deepL, if_true, Bool.false_eq_true, if_false, List.length_cons]; omega
        · rw [if_neg h3] at ht
          rw [if_neg (by omega)]
          by_cases h4 : t.k = 4
          · rw [if_pos h4] at ht; cases ht
          · rw [if_neg h4] at ht
            by_cases h8 : f.words.length = 8
            · rw [if_pos h8] at ht; cases ht
            · rw [if_neg h8] at ht
              injection ht with ht; subst ht
              rfl

theorem take_dep_le {r r' : Rd} {t : Tk} (h : r.Ok) (ht : take r t = .ok r') : dep r ≤ dep r' := by
  rw [take_dep h ht]; split <;> omega

theorem run_dep_le {l : List Tk} {r r' : Rd} (h : r.Ok) (hr : run l r = .ok r') : dep r ≤ dep r' := by
  induction l generalizing r with
  | nil => injection hr with hr; subst hr; exact Nat.le_refl _
  | cons t l ih =>
    simp only [run] at hr
    cases e : take r t with
    | error x => rw [e] at hr; cases hr
    | ok r1 => rw [e] at hr; exact Nat.le_trans (take_dep_le h e) (ih (take_ok h e) hr)

/-- the reader over an open block x -/
def under (x : Fr) (r : Rd) : Rd := ⟨r.go, [], r.st ++ [{ x with kids := r.top }]⟩

theorem shut_under (x : Fr) (top : List Nd) (f : Fr) (st : List Fr) : shut [] (f :: st ++ [{ x with kids := top }]) = under x (shut top (f :: st)) := by
  match st with
  | [] => rfl
  | g :: r => rfl

theorem take_under {r r' : Rd} {t : Tk} (x : Fr) (h : r.Ok) (ht : take r t = .ok r') :
    take (under x r) t = if r.go = true ∧ t.k = 3 ∧ 6 ≤ r.st.length then .error 7 else .ok (under x r') := by
  obtain ⟨go, top, st⟩ := r
  cases go with
  | false =>
    simp only [Bool.false_eq_true, false_and, if_false]
    simp only [take] at ht
    simp only [under, take]
    by_cases h1 : t.k = 1
    · rw [if_pos h1] at ht
      rw [if_pos h1]
      injection ht with ht; subst ht
      rfl
    · rw [if_neg h1] at ht
      rw [if_neg h1]
      by_cases h4 : t.k = 4 ∧ st ≠ []
      · rw [if_pos h4] at ht
        rw [if_pos ⟨h4.1, by simp⟩]
        injection ht with ht; subst ht
        cases st with
        | nil => exact absurd rfl h4.2
        | cons f st => rw [shut_under]; rfl
      · rw [if_neg h4] at ht; cases ht
  | true =>
    cases st with
    | nil => exact h.elim
    | cons f st =>
      obtain ⟨hb, hk, hs⟩ := h
      simp only [take] at ht
      simp only [under, List.cons_append, take]
      by_cases h5 : t.k = 5
      · rw [if_pos h5] at ht
        injection ht with ht; subst ht
        rw [if_pos h5, if_neg (by omega), ← List.cons_append, shut_under]; rfl
      · rw [if_neg h5] at ht
        rw [if_neg h5]
        by_cases h3 : t.k = 3
        · rw [if_pos h3] at ht
          rw [if_pos h3]
          by_cases h6 : 6 < st.length + 1
          · rw [if_pos h6] at ht; cases ht
          · rw [if_neg h6] at ht
            injection ht with ht; subst ht
            by_cases h7 : 6 ≤ st.length + 1
            · rw [if_pos (by simp; omega), if_pos ⟨trivial, h3, by simpa using h7⟩]
            · rw [if_neg (by simp; omega), if_neg (by simp only [List.length_cons]; omega)]; rfl
        · rw [if_neg h3] at ht
          rw [if_neg h3, if_neg (show ¬ (True ∧ t.k = 3 ∧ 6 ≤ (f :: st).length) from fun q => h3 q.2.1)]
          by_cases h4 : t.k = 4
          · rw [if_pos h4] at ht; cases ht
          · rw [if_neg h4] at ht
            rw [if_neg h4]
            by_cases h8 : f.words.length = 8
            · rw [if_pos h8] at ht; cases ht
            · rw [if_neg h8] at ht
              rw [if_neg h8]
              injection ht with ht; subst ht
              rfl

/-- tokens that are read from the start are read over a block, if they do not go too deep; else that is told at one of them -/
theorem run_under (x : Fr) {l : List Tk} {r r' : Rd} (h : r.Ok) (hd : dep r < 6) (hr : run l r = .ok r') :
    (dep r' < 6 → run l (under x r) = .ok (under x r')) ∧ (6 ≤ dep r' → ∃ t ∈ l, run l (under x r) = .error (7, t.a)) := by
  induction l generalizing r with
  | nil => injection hr with hr; subst hr; exact ⟨fun _ => rfl, fun h6 => by omega⟩
  | cons t l ih =>
    simp only [run] at hr
    cases e : take r t with
    | error y => rw [e] at hr; cases hr
    | ok r1 =>
      rw [e] at hr
      have hu := take_under x h e
      have hdp := take_dep h e
      have hle := run_dep_le (take_ok h e) hr
      simp only [run]
      rw [hu]
      by_cases hc : r.go = true ∧ t.k = 3 ∧ 6 ≤ r.st.length
      · rw [if_pos hc]
        rw [if_pos ⟨hc.1, hc.2.1⟩] at hdp
        exact ⟨fun h6 => by omega, fun _ => ⟨t, by simp, rfl⟩⟩
      · rw [if_neg hc]
        have hd1 : dep r1 < 6 := by
          rw [hdp]
          split
          · rename_i hq
            have : ¬ 6 ≤ r.st.length := fun q => hc ⟨hq.1, hq.2, q⟩
            omega
          · exact hd
        obtain ⟨i1, i2⟩ := ih (take_ok h e) hd1 hr
        exact ⟨i1, fun h6 => by obtain ⟨u, hu, he⟩ := i2 h6; exact ⟨u, by simp [hu], he⟩⟩

end Go.Proofs.YtjebdoecigmkhaaDoor.Ym
