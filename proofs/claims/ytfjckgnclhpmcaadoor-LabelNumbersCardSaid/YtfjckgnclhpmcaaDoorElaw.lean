/- Plain facts for the laws of layer 6; nothing of the program. -/
import Derived.Test.YtfjckgnclhpmcaaDoorEmath
namespace Go.Proofs.YtfjckgnclhpmcaaDoor.Em
set_option linter.unusedSimpArgs false
set_option linter.unusedVariables false
open Go.Proofs.YtfjckgnclhpmcaaDoor.Cm

theorem next_iso {n y w d : Int} (ok : IsoOk y w d) (hn : inum y w d = n) (h : n ≤ 3068035) :
    (d < 7 ∧ IsoRes (n + 1) y w (d + 1) 0) ∨ (d = 7 ∧ y < 1600 ∧ IsoRes (n + 1) 1600 1 1 0) ∨
    (d = 7 ∧ 1600 ≤ y ∧ w < many y ∧ IsoRes (n + 1) y (w + 1) 1 0) ∨ (d = 7 ∧ 1600 ≤ y ∧ w = many y ∧ y + 1 ≤ 9999 ∧ IsoRes (n + 1) (y + 1) 1 1 0) := by
  have e7 := many_7 y
  have n0 : 0 ≤ n := hn ▸ ok.2.2.2.2.2.2.1
  obtain ⟨y0, y1, w0, w1, d0, d1, _, _⟩ := ok
  unfold inum at hn
  by_cases c : d < 7
  · have k : inum y w (d + 1) = n + 1 := by unfold inum; omega
    exact .inl ⟨c, .inl ⟨by omega, by omega, ⟨y0, y1, w0, w1, by omega, by omega, by omega, by omega⟩, k, rfl⟩⟩
  · obtain rfl : d = 7 := by omega
    by_cases c2 : y < 1600
    · obtain rfl : y = 1599 := by omega
      have a := fm_0
      have b := fm_first
      have b' : fm (1599 + 1) = 2 := b
      have s := fm_succ 1600
      have k : inum 1600 1 1 = n + 1 := by unfold inum; omega
      exact .inr (.inl ⟨rfl, c2, .inl ⟨by omega, by omega, ⟨by omega, by omega, by omega, by rcases s with s | s <;> omega, by omega, by omega, by omega, by omega⟩, k, rfl⟩⟩)
    · by_cases c3 : w < many y
      · have k : inum y (w + 1) 1 = n + 1 := by unfold inum; omega
        exact .inr (.inr (.inl ⟨rfl, by omega, c3, .inl ⟨by omega, by omega, ⟨y0, y1, by omega, by omega, by omega, by omega, by omega, by omega⟩, k, rfl⟩⟩))
      · have k : inum (y + 1) 1 1 = n + 1 := by unfold inum; omega
        have s := fm_succ (y + 1)
        have y2 : y + 1 ≤ 9999 := by
          by_cases q : y + 1 ≤ 9999
          · exact q
          · obtain rfl : y = 9999 := by omega
            have l : fm (9999 + 1) = 3068039 := fm_last
            unfold inum at k
            omega
        exact .inr (.inr (.inr ⟨rfl, by omega, by omega, y2, .inl ⟨by omega, by omega, ⟨by omega, y2, by omega, by rcases s with s | s <;> omega, by omega, by omega, by omega, by omega⟩, k, rfl⟩⟩))

/-- January 4 is of week 1, December 28 of the last one -/
theorem first_ok {y : Int} (h0 : 1600 ≤ y) (h1 : y ≤ 9999) :
    DateOk y 1 4 ∧ num y 1 4 = dby y + 3 ∧ IsoRes (dby y + 3) y 1 (wday (dby y + 3)) 0 := by
  have l := mlen_bd y 1
  have b := dby_bd (t := y) h0 (by omega)
  have c := dby_step (a := y) (b := 10000) (by omega)
  rw [dby_last] at c
  have s := fm_succ y
  have lb := lp_01 y
  have k : inum y 1 (wday (dby y + 3)) = dby y + 3 := by unfold inum fm wday; omega
  have d := wday_bd (dby y + 3)
  exact ⟨⟨⟨h0, h1, by omega, by omega⟩, by omega, by omega⟩, by unfold num; rw [cum_one]; omega,
    .inl ⟨by omega, by omega, ⟨by omega, h1, by omega, by rcases s with s | s <;> omega, d.1, d.2, by omega, by omega⟩, k, rfl⟩⟩
theorem last_ok {y : Int} (h0 : 1600 ≤ y) (h1 : y ≤ 9999) :
    DateOk y 12 28 ∧ num y 12 28 = dby (y + 1) - 4 ∧ IsoRes (dby (y + 1) - 4) y (many y) (wday (dby (y + 1) - 4)) 0 := by
  have e : mlen y 12 = 31 := by simp [mlen]
  have c : cum y 12 = 334 + lp y := by simp [cum]
  have ds := dby_succ y
  have b := dby_bd (t := y + 1) (by omega) (by omega)
  have b0 := dby_bd (t := y) h0 (by omega)
  have m7 := many_7 y
  have lb := lp_01 y
  have k : inum y (many y) (wday (dby (y + 1) - 4)) = dby (y + 1) - 4 := by
    have z : inum y (many y) (wday (dby (y + 1) - 4)) = fm (y + 1) - 7 + wday (dby (y + 1) - 4) - 1 := by unfold inum; omega
    rw [z]; unfold fm wday; omega
  have d := wday_bd (dby (y + 1) - 4)
  have m53 := many_53 y
  exact ⟨⟨⟨h0, h1, by omega, by omega⟩, by omega, by omega⟩, by unfold num; rw [c]; omega,
    .inl ⟨by omega, by omega, ⟨by omega, h1, by omega, by omega, d.1, d.2, by omega, by omega⟩, k, rfl⟩⟩
theorem weeks_53 (y : Int) : many y = 53 ↔ (wday (dby y) = 4 ∨ wday (dby (y + 1) - 1) = 4) := by
  have ds := dby_succ y
  have lb := lp_01 y
  have m7 := many_7 y
  unfold fm at m7
  unfold wday
  constructor
  · intro h; omega
  · intro h; omega

/-- a month's last days -/
theorem last_date {y m wd : Int} (h : MonthOk y m) (h0 : 1 ≤ wd) (h1 : wd ≤ 7) :
    OfRes (mend y m - mback y m wd) y m (mlen y m - mback y m wd) 0 ∧ WkdRes (mend y m - mback y m wd) wd 0 := by
  have a := end_range h
  have b := back_bd y m wd
  have c := mlen_bd y m
  refine ⟨.inl ⟨by omega, by omega, ⟨h, by omega, by omega⟩, ?_, rfl⟩, .inl ⟨by omega, by omega, (back_wday h0 h1).symm, rfl⟩⟩
  unfold mend num; omega

/-- a month's ends, a year apart -/
theorem ends_year {y m : Int} (h : MonthOk y m) : mend (y + 1) m = mend y m + 365 ∨ mend (y + 1) m = mend y m + 366 := by
  have c := cum_succ y m h.2.2.1 h.2.2.2
  have c' := cum_succ (y + 1) m h.2.2.1 h.2.2.2
  have d := dby_succ y
  have l := lp_01 y
  have l' := lp_01 (y + 1)
  have hm : m = 1 ∨ (2 ≤ m) := by have := h.2.2.1; omega
  have e : cum y (m + 1) = cum 1601 (m + 1) + (if m = 1 then 0 else lp y) ∧ cum (y + 1) (m + 1) = cum 1601 (m + 1) + (if m = 1 then 0 else lp (y + 1)) := by
    have z : lp 1601 = 0 := by decide
    have hm : m = 1 ∨ m = 2 ∨ m = 3 ∨ m = 4 ∨ m = 5 ∨ m = 6 ∨ m = 7 ∨ m = 8 ∨ m = 9 ∨ m = 10 ∨ m = 11 ∨ m = 12 := by have := h.2.2; omega
    rcases hm with rfl | rfl | rfl | rfl | rfl | rfl | rfl | rfl | rfl | rfl | rfl | rfl <;> simp [cum, z]
  obtain ⟨e1, e2⟩ := e
  unfold mend num
  split at e1 <;> split at e2 <;> omega
theorem lasts_year {y m wd : Int} (h : MonthOk y m) : mend (y + 1) m - mback (y + 1) m wd - (mend y m - mback y m wd) = 364 ∨ mend (y + 1) m - mback (y + 1) m wd - (mend y m - mback y m wd) = 371 := by
  have e := ends_year h
  unfold mback wday
  omega
theorem nears_year {y m wd : Int} (h : MonthOk y m) : nearv (y + 1) m wd - nearv y m wd = 364 ∨ nearv (y + 1) m wd - nearv y m wd = 371 := by
  have e := ends_year h
  have a : (mend (y + 1) m - mback (y + 1) m wd - (mend y m - mback y m wd)) % 7 = 0 := by unfold mback wday; omega
  have b := back_bd y m wd
  have b' := back_bd (y + 1) m wd
  unfold nearv
  split <;> split <;> omega
theorem near_early {y m wd : Int} (h : MonthOk y m) (h1 : y ≤ 9998) : nearv y m wd ≤ 3068036 := by
  have e := ends_year h
  have r := near_low (wd := wd) (⟨by have := h.1; omega, by omega, h.2.2⟩ : MonthOk (y + 1) m)
  have q := nears_year (wd := wd) h
  omega

end Go.Proofs.YtfjckgnclhpmcaaDoor.Em
