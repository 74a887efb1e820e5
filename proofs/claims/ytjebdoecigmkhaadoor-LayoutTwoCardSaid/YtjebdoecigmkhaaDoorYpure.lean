/- What follows where a text is read: its items' tokens, how deep and how many they are, where a fault may lie. No condition. -/
import Derived.Test.YtjebdoecigmkhaaDoorYlaw
import Derived.Test.YtjebdoecigmkhaaDoorYtext
import Derived.Test.YtjebdoecigmkhaaDoorYblock2
namespace Go.Proofs.YtjebdoecigmkhaaDoor.Ym
set_option linter.unusedSimpArgs false
set_option linter.unusedVariables false
open Go.Proofs.YtjebdoecigmkhaaDoor.Zm

theorem parse_is {b : List UInt8} {l : List Nd} (hp : parse b = .ok l) : ∃ a r, cut b 0 0 = .ok a ∧ run a start = .ok r ∧ r.st = [] ∧ r.top = l := by
  unfold parse at hp
  cases hc : cut b 0 0 with
  | error x => rw [hc] at hp; cases hp
  | ok a =>
    rw [hc] at hp
    simp only at hp
    cases hr : run a start with
    | error x => rw [hr] at hp; cases hp
    | ok r =>
      rw [hr] at hp
      simp only at hp
      split at hp
      · rename_i hs
        injection hp with hp
        exact ⟨a, r, rfl, hr, hs, hp⟩
      · cases hp
theorem parse_right {b : List UInt8} {l : List Nd} {a : List Tk} (hp : parse b = .ok l) (hc : cut b 0 0 = .ok a) : RightL 0 l ∧ flatL l = a.map bare ∧ deepL l ≤ 6 ∧ countL l ≤ a.length ∧ a.length ≤ b.length := by
  obtain ⟨a', r, h1, h2, h3, h4⟩ := parse_is hp
  rw [hc] at h1
  injection h1 with h1
  subst h1
  obtain ⟨f1, f2, _⟩ := cut_tokens _ _ _ _ _ (Nat.le_refl _) hc
  have hf : ∀ t ∈ a, Fine t := fun t ht => (f1 t ht).1
  have R := run_right start_ok hf ⟨trivial, trivial⟩ h2
  have F := run_flat start_ok hf h2
  have e : flatL l = a.map bare := by
    have : flatR r = flatL r.top := by unfold flatR; rw [h3]; simp [flatSt]
    rw [this, h4] at F
    simpa [flatR, start, flatL, flatSt] using F
  have R' : RightL 0 l := h4 ▸ R.1
  refine ⟨R', e, by simpa using deepL_right (d := 0) (by omega) R', ?_, f2⟩
  have := countL_flat R'
  rw [e] at this
  simpa using this
theorem parse_at {b : List UInt8} {e q : Nat} (hp : parse b = .error (e, q)) : q ≤ b.length := by
  unfold parse at hp
  cases hc : cut b 0 0 with
  | error x =>
    rw [hc] at hp
    injection hp with hp
    subst hp
    obtain ⟨j, h1, h2, _⟩ := cut_ahead _ _ _ _ _ _ (Nat.le_refl _) hc
    omega
  | ok a =>
    rw [hc] at hp
    simp only at hp
    cases hr : run a start with
    | error x =>
      rw [hr] at hp
      injection hp with hp
      subst hp
      obtain ⟨t, ht, hq⟩ := run_place hr
      obtain ⟨a1, a2, rfl⟩ := List.append_of_mem ht
      obtain ⟨j, h1, h2, _⟩ := cut_upto _ _ _ _ _ _ _ (Nat.le_refl _) hc
      omega
    | ok r =>
      rw [hr] at hp
      simp only at hp
      split at hp
      · cases hp
      · injection hp with hp; injection hp with _ hp; omega

end Go.Proofs.YtjebdoecigmkhaaDoor.Ym
