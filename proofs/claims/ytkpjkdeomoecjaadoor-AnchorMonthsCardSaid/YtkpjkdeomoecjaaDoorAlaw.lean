/- Plain facts for the laws of layer 13; nothing of the program. -/
import Derived.Test.YtkpjkdeomoecjaaDoorJmath
namespace Go.Proofs.YtkpjkdeomoecjaaDoor.Am
set_option linter.unusedSimpArgs false
set_option linter.unusedVariables false
open Go.Proofs.YtkpjkdeomoecjaaDoor.Cm Go.Proofs.YtkpjkdeomoecjaaDoor.Em

/-- a year of weeks -/
theorem weeks_year {c : CalZ} {y a b : Int} (h : KindOk c) (k : c.k ≠ 6) (y0 : 1601 ≤ y) (y1 : y ≤ 9997) (ha : a = yend c (y - 1)) (hb : b = yend c y) :
    0 ≤ a ∧ a + 364 ≤ b ∧ b ≤ 3068036 ∧ ((b - a) / 7 = 52 ∨ (b - a) / 7 = 53) ∧ b - a = 7 * ((b - a) / 7) ∧ wday (a + 1) = c.d % 7 + 1 ∧ wday b = c.d := by
  have s := yend_step h (y := y - 1) (by omega) (by omega)
  have bd := yend_bd h (y := y - 1) (by omega) (by omega)
  have bz := yend_bd h (y := y) (by omega) y1
  have wa := yend_wday (y := y - 1) h k
  have wb := yend_wday (y := y) h k
  rw [show y - 1 + 1 = y by omega] at s
  rw [← ha] at s bd wa
  rw [← hb] at s bz wb
  refine ⟨by omega, by omega, by omega, by omega, by omega, ?_, wb⟩
  unfold wday at wa ⊢; omega

theorem dec_end (y : Int) : mend y 12 = dby (y + 1) - 1 := by
  have e : mlen y 12 = 31 := by simp [mlen]
  have c : cum y 12 = 334 + lp y := by simp [cum]
  have d := dby_succ y
  unfold mend num; omega
theorem iso_end (y : Int) : nearv y 12 7 = fm (y + 1) - 1 := by
  have e := dec_end y
  unfold nearv mback
  rw [e]
  unfold fm wday
  split <;> omega
/-- an ISO year's first day, and its last one -/
theorem iso_first {y : Int} (y0 : 1601 ≤ y) (y1 : y ≤ 9997) : IsoRes (nearv (y - 1) 12 7 + 1) y 1 1 0 := by
  have e := iso_end (y - 1)
  rw [show y - 1 + 1 = y by omega] at e
  have b := fm_bd (y := y) (by omega) (by omega)
  have b1 := fm_mono (a := 1600) (b := y) (by omega)
  have s := fm_step y
  rw [fm_first] at b1
  have k : inum y 1 1 = nearv (y - 1) 12 7 + 1 := by unfold inum; omega
  exact .inl ⟨by omega, by omega, ⟨by omega, by omega, by omega, by omega, by omega, by omega, by omega, by omega⟩, k, rfl⟩
theorem iso_last {y : Int} (y0 : 1601 ≤ y) (y1 : y ≤ 9997) : IsoRes (nearv y 12 7) y (many y) 7 0 := by
  have e := iso_end y
  have b := fm_bd (y := y + 1) (by omega) (by omega)
  have b1 := fm_mono (a := 1600) (b := y) (by omega)
  have s := fm_step y
  have m := many_7 y
  rw [fm_first] at b1
  have k : inum y (many y) 7 = nearv y 12 7 := by unfold inum; omega
  exact .inl ⟨by omega, by omega, ⟨by omega, by omega, by omega, by omega, by omega, by omega, by omega, by omega⟩, k, rfl⟩

/-- the day behind a month's last one -/
theorem after_end {y m : Int} (h : MonthOk y m) (k : mend y m ≤ 3068035) : ∃ z, OfRes (mend y m + 1) z (m % 12 + 1) 1 0 := by
  have n := next_date (end_ok h) rfl k
  have l := mlen_bd y m
  have b := h.2.2
  rcases n with ⟨h1, _⟩ | ⟨_, h2, h3⟩ | ⟨_, h2, h3⟩
  · omega
  · refine ⟨y, ?_⟩
    rw [show m % 12 + 1 = m + 1 by omega]; exact h3
  · refine ⟨y + 1, ?_⟩
    rw [show m % 12 + 1 = 1 by omega]; exact h3

end Go.Proofs.YtkpjkdeomoecjaaDoor.Am
