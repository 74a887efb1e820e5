/- Plain facts for the laws of layer 5; nothing of the program. -/
import Derived.Test.YtfjckgnclhpmcaaDoorCmath
namespace Go.Proofs.YtfjckgnclhpmcaaDoor.Cm
set_option linter.unusedSimpArgs false
set_option linter.unusedVariables false

theorem next_date {n y m d : Int} (ok : DateOk y m d) (hn : num y m d = n) (h : n ≤ 3068035) :
    (d < mlen y m ∧ OfRes (n + 1) y m (d + 1) 0) ∨ (d = mlen y m ∧ m < 12 ∧ OfRes (n + 1) y (m + 1) 1 0) ∨ (d = mlen y m ∧ m = 12 ∧ OfRes (n + 1) (y + 1) 1 1 0) := by
  have r := num_range ok
  rw [hn] at r
  obtain ⟨⟨h0, h1, h2, h3⟩, h4, h5⟩ := ok
  have hn' : dby y + cum y m + d - 1 = n := hn
  by_cases c : d < mlen y m
  · exact .inl ⟨c, .inl ⟨by omega, by omega, ⟨⟨h0, h1, h2, h3⟩, by omega, by omega⟩, by unfold num; omega, rfl⟩⟩
  · have cs := cum_succ y m h2 h3
    by_cases k : m < 12
    · have := mlen_bd y (m + 1)
      exact .inr (.inl ⟨by omega, k, .inl ⟨by omega, by omega, ⟨⟨h0, h1, by omega, by omega⟩, by omega, by omega⟩, by unfold num; omega, rfl⟩⟩)
    · obtain rfl : m = 12 := by omega
      have ce := cum_end y
      have ds := dby_succ y
      have cs' : cum y 13 = cum y 12 + mlen y 12 := cs
      have hl : dby (y + 1) = n + 1 := by omega
      have y1 : y + 1 ≤ 9999 := by
        by_cases q : y + 1 ≤ 9999
        · exact q
        · obtain rfl : y = 9999 := by omega
          have : dby (9999 + 1) = 3068037 := dby_last
          omega
      have := mlen_bd (y + 1) 1
      exact .inr (.inr ⟨by omega, rfl, .inl ⟨by omega, by omega, ⟨⟨by omega, y1, by omega, by omega⟩, by omega, by omega⟩, by unfold num; rw [cum_one]; omega, rfl⟩⟩)

theorem year_400 {y m d : Int} (ok : DateOk y m d) (h : y + 400 ≤ 9999) : DateOk (y + 400) m d ∧ num (y + 400) m d = num y m d + 146097 ∧ lp (y + 400) = lp y := by
  have l : lp (y + 400) = lp y := by unfold lp; congr 1; simp only [eq_iff_iff]; omega
  have e : mlen (y + 400) m = mlen y m := by unfold mlen; rw [l]
  have c : cum (y + 400) m = cum y m := by unfold cum; rw [l]
  obtain ⟨⟨h0, h1, h2, h3⟩, h4, h5⟩ := ok
  exact ⟨⟨⟨by omega, h, h2, h3⟩, h4, by rw [e]; exact h5⟩, by unfold num; rw [dby_400, c]; omega, l⟩
theorem wday_400 (n : Int) : wday (n + 146097) = wday n := by unfold wday; omega
theorem year_first {y : Int} (h0 : 1600 ≤ y) (h1 : y ≤ 9999) : DateOk y 1 1 ∧ num y 1 1 = dby y := by
  have := mlen_bd y 1
  exact ⟨⟨⟨h0, h1, by omega, by omega⟩, by omega, by omega⟩, by unfold num; rw [cum_one]; omega⟩
theorem year_last {y : Int} (h0 : 1600 ≤ y) (h1 : y ≤ 9999) : DateOk y 12 31 ∧ num y 12 31 = dby y + 364 + lp y := by
  have e : mlen y 12 = 31 := by simp [mlen]
  have c : cum y 12 = 334 + lp y := by simp [cum]
  exact ⟨⟨⟨h0, h1, by omega, by omega⟩, by omega, by omega⟩, by unfold num; rw [c]; omega⟩

end Go.Proofs.YtfjckgnclhpmcaaDoor.Cm
