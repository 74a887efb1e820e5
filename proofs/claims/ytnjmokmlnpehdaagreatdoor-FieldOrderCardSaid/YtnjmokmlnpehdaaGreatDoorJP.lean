/- Texts that are joined: Cmath, Claw, Emath, Elaw, Zmath, Zlaw, Zlaw2, Zlaw3, Zlaw4, Amath, Jmath, Alaw, Hmath, Hlaw, Imath, Ilaw, Jlaw, Dmath, Mmath, Mlaw, Mlaw2, Mlaw3, Umath. -/
import Derived.WalkKit
import Derived.Lib.ItoaNum
namespace Go.Proofs.YtnjmokmlnpehdaaGreatDoor.Cm
set_option linter.unusedSimpArgs false
set_option linter.unusedVariables false

/-- one more day in February -/
def lpB (y : Int) : Bool := decide (y % 4 = 0) && (!decide (y % 100 = 0) || decide (y % 400 = 0))
def lp (y : Int) : Int := if y % 4 = 0 ∧ (y % 100 ≠ 0 ∨ y % 400 = 0) then 1 else 0
/-- days ahead of a year -/
def dby (y : Int) : Int := 365 * (y - 1600) + ((y - 1) / 4 - 399) - ((y - 1) / 100 - 15) + ((y - 1) / 400 - 3)
/-- days of a month -/
def mlen (y m : Int) : Int :=
  if m = 2 then 28 + lp y else if m = 4 ∨ m = 6 ∨ m = 9 ∨ m = 11 then 30 else 31
/-- days of a year ahead of a month -/
def cum (y m : Int) : Int :=
  if m = 1 then 0 else if m = 2 then 31 else if m = 3 then 59 + lp y else if m = 4 then 90 + lp y else if m = 5 then 120 + lp y else if m = 6 then 151 + lp y
  else if m = 7 then 181 + lp y else if m = 8 then 212 + lp y else if m = 9 then 243 + lp y else if m = 10 then 273 + lp y else if m = 11 then 304 + lp y else if m = 12 then 334 + lp y else 365 + lp y
/-- is there such a month, such a day? -/
def MonthOk (y m : Int) : Prop := 1600 ≤ y ∧ y ≤ 9999 ∧ 1 ≤ m ∧ m ≤ 12
def DateOk (y m d : Int) : Prop := MonthOk y m ∧ 1 ≤ d ∧ d ≤ mlen y m
def num (y m d : Int) : Int := dby y + cum y m + d - 1

theorem lp_01 (y : Int) : 0 ≤ lp y ∧ lp y ≤ 1 := by unfold lp; split <;> omega
theorem lp_of {y : Int} : lp y = if lpB y = true then 1 else 0 := by
  unfold lp lpB; simp
theorem dby_succ (y : Int) : dby (y + 1) = dby y + 365 + lp y := by unfold dby lp; split <;> omega
theorem dby_400 (y : Int) : dby (y + 400) = dby y + 146097 := by unfold dby; omega
theorem dby_first : dby 1600 = 0 := by decide
theorem dby_last : dby 10000 = 3068037 := by decide
theorem dby_mono {a b : Int} (h : a ≤ b) : dby a ≤ dby b := by unfold dby; omega
theorem dby_bd {t : Int} (h0 : 1600 ≤ t) (h1 : t ≤ 10000) : 0 ≤ dby t ∧ dby t ≤ 3068037 := by
  have b := dby_mono (a := 1600) (b := t) h0
  have c := dby_mono (a := t) (b := 10000) h1
  rw [dby_first] at b; rw [dby_last] at c
  exact ⟨b, c⟩
theorem dby_lt {a b n : Int} (h : dby a ≤ n) (k : n < dby (b + 1)) : a ≤ b := by
  by_cases c : a ≤ b
  · exact c
  · have := dby_mono (a := b + 1) (b := a) (by omega); omega
theorem dby_step {a b : Int} (h : a < b) : dby a + 365 + lp a ≤ dby b := by
  have := dby_succ a
  have := dby_mono (a := a + 1) (b := b) (by omega)
  omega
theorem mlen_bd (y m : Int) : 28 ≤ mlen y m ∧ mlen y m ≤ 31 := by
  have := lp_01 y
  unfold mlen; repeat' split <;> omega
theorem cum_succ (y m : Int) (h1 : 1 ≤ m) (h2 : m ≤ 12) : cum y (m + 1) = cum y m + mlen y m := by
  have h : m = 1 ∨ m = 2 ∨ m = 3 ∨ m = 4 ∨ m = 5 ∨ m = 6 ∨ m = 7 ∨ m = 8 ∨ m = 9 ∨ m = 10 ∨ m = 11 ∨ m = 12 := by omega
  rcases h with rfl | rfl | rfl | rfl | rfl | rfl | rfl | rfl | rfl | rfl | rfl | rfl <;> simp [cum, mlen] <;> omega
theorem cum_one (y : Int) : cum y 1 = 0 := by simp [cum]
theorem cum_end (y : Int) : cum y 13 = 365 + lp y := by simp [cum]
theorem cum_bd (y m : Int) (_ : 1 ≤ m) (_ : m ≤ 13) : 0 ≤ cum y m ∧ cum y m ≤ 365 + lp y := by
  have := lp_01 y
  unfold cum; repeat' split <;> omega
theorem cum_mono (y : Int) {a b : Int} (h1 : 1 ≤ a) (h : a ≤ b) (h2 : b ≤ 13) : cum y a ≤ cum y b := by
  have e : ∀ k : Nat, a + k ≤ 13 → cum y a ≤ cum y (a + k) := by
    intro k
    induction k with
    | zero => intro _; simp
    | succ n ih =>
      intro hk
      have := ih (by omega)
      have h3 := cum_succ y (a + n) (by omega) (by omega)
      have := mlen_bd y (a + n)
      have e1 : a + ((n + 1 : Nat) : Int) = a + n + 1 := by omega
      rw [e1]; omega
  have := e (b - a).toNat (by omega)
  have e2 : a + ((b - a).toNat : Int) = b := by omega
  rwa [e2] at this
theorem cum_step (y : Int) {a b : Int} (h1 : 1 ≤ a) (h : a < b) (h2 : b ≤ 13) : cum y a + mlen y a ≤ cum y b := by
  have := cum_succ y a h1 (by omega)
  have := cum_mono y (a := a + 1) (b := b) (by omega) (by omega) h2
  omega

theorem num_bd {y m d : Int} (h : DateOk y m d) : dby y ≤ num y m d ∧ num y m d < dby (y + 1) := by
  obtain ⟨⟨h1, h2, h3, h4⟩, h5, h6⟩ := h
  have a := dby_succ y
  have b := cum_bd y m h3 (by omega)
  have c := cum_step y h3 (b := 13) (by omega) (by omega)
  rw [cum_end] at c
  unfold num; omega
theorem num_range {y m d : Int} (h : DateOk y m d) : 0 ≤ num y m d ∧ num y m d ≤ 3068036 := by
  have a := num_bd h
  have b := dby_mono (a := 1600) (b := y) h.1.1
  have c := dby_mono (a := y + 1) (b := 10000) (by have := h.1.2.1; omega)
  rw [dby_first] at b; rw [dby_last] at c
  omega
/-- days go up as years, months and days do -/
theorem num_lt {y m d y' m' d' : Int} (h : DateOk y m d) (h' : DateOk y' m' d') (l : y < y' ∨ (y = y' ∧ (m < m' ∨ (m = m' ∧ d < d')))) : num y m d < num y' m' d' := by
  rcases l with l | ⟨rfl, l | ⟨rfl, l⟩⟩
  · have a := num_bd h
    have b := num_bd h'
    have c := dby_mono (a := y + 1) (b := y') (by omega)
    omega
  · have c := cum_step y h.1.2.2.1 l (by have := h'.1.2.2.2; omega)
    have := h.2.2
    have := h'.2.1
    unfold num; omega
  · unfold num; omega
theorem num_inj {y m d y' m' d' : Int} (h : DateOk y m d) (h' : DateOk y' m' d') (e : num y m d = num y' m' d') : y = y' ∧ m = m' ∧ d = d' := by
  rcases Int.lt_trichotomy y y' with l | l | l
  · have := num_lt h h' (.inl l); omega
  · rcases Int.lt_trichotomy m m' with k | k | k
    · have := num_lt h h' (.inr ⟨l, .inl k⟩); omega
    · rcases Int.lt_trichotomy d d' with j | j | j
      · have := num_lt h h' (.inr ⟨l, .inr ⟨k, j⟩⟩); omega
      · exact ⟨l, k, j⟩
      · have := num_lt h' h (.inr ⟨l.symm, .inr ⟨k.symm, j⟩⟩); omega
    · have := num_lt h' h (.inr ⟨l.symm, .inl k⟩); omega
  · have := num_lt h' h (.inl l); omega
theorem num_less {y m d y' m' d' : Int} (h : DateOk y m d) (h' : DateOk y' m' d') : num y m d < num y' m' d' ↔ (y < y' ∨ (y = y' ∧ (m < m' ∨ (m = m' ∧ d < d')))) := by
  constructor
  · intro l
    rcases Int.lt_trichotomy y y' with a | a | a
    · exact .inl a
    · rcases Int.lt_trichotomy m m' with k | k | k
      · exact .inr ⟨a, .inl k⟩
      · rcases Int.lt_trichotomy d d' with j | j | j
        · exact .inr ⟨a, .inr ⟨k, j⟩⟩
        · subst a k j; omega
        · have := num_lt h' h (.inr ⟨a.symm, .inr ⟨k.symm, j⟩⟩); omega
      · have := num_lt h' h (.inr ⟨a.symm, .inl k⟩); omega
    · have := num_lt h' h (.inl a); omega
  · exact num_lt h h'

/-- each number in range is a day's -/
theorem num_ex {n : Int} (h0 : 0 ≤ n) (h1 : n ≤ 3068036) : ∃ y m d, DateOk y m d ∧ num y m d = n := by
  have year : ∀ k : Nat, k ≤ 8400 → n < dby (1600 + k) → ∃ y : Int, 1600 ≤ y ∧ y < 1600 + k ∧ dby y ≤ n ∧ n < dby (y + 1) := by
    intro k
    induction k with
    | zero => intro _ h; rw [show (1600 : Int) + (0 : Nat) = 1600 by omega, dby_first] at h; omega
    | succ j ih =>
      intro hk h
      by_cases c : n < dby (1600 + j)
      · obtain ⟨y, a, b, c1, d⟩ := ih (by omega) c
        exact ⟨y, a, by omega, c1, d⟩
      · exact ⟨1600 + j, by omega, by omega, by omega, by rw [show (1600 : Int) + j + 1 = 1600 + ((j + 1 : Nat) : Int) by omega]; exact h⟩
  obtain ⟨y, y0, y1, ya, yb⟩ := year 8400 (by omega) (by rw [show (1600 : Int) + (8400 : Nat) = 10000 by omega, dby_last]; omega)
  have ys := dby_succ y
  have month : ∀ k : Nat, k ≤ 12 → n - dby y < cum y (1 + k) → ∃ m : Int, 1 ≤ m ∧ m < 1 + k ∧ cum y m ≤ n - dby y ∧ n - dby y < cum y (m + 1) := by
    intro k
    induction k with
    | zero => intro _ h; rw [show (1 : Int) + (0 : Nat) = 1 by omega, cum_one] at h; omega
    | succ j ih =>
      intro hk h
      by_cases c : n - dby y < cum y (1 + j)
      · obtain ⟨m, a, b, c1, d⟩ := ih (by omega) c
        exact ⟨m, a, by omega, c1, d⟩
      · exact ⟨1 + j, by omega, by omega, by omega, by rw [show (1 : Int) + j + 1 = 1 + ((j + 1 : Nat) : Int) by omega]; exact h⟩
  obtain ⟨m, m0, m1, ma, mb⟩ := month 12 (by omega) (by rw [show (1 : Int) + (12 : Nat) = 13 by omega, cum_end]; omega)
  have ms := cum_succ y m m0 (by omega)
  exact ⟨y, m, n - dby y - cum y m + 1, ⟨⟨y0, by omega, m0, by omega⟩, by omega, by omega⟩, by unfold num; omega⟩

/-- the weekday of a number: 0 is a Saturday -/
def wday (n : Int) : Int := (n + 5) % 7 + 1

/-- what Length, Check, Day, Of, Weekday and Add answer -/
def LenRes (y m v er : Int) : Prop := (MonthOk y m ∧ v = mlen y m ∧ er = 0) ∨ (¬ MonthOk y m ∧ v = 0 ∧ er = 4)
def ChkRes (y m d er : Int) : Prop := (DateOk y m d ∧ er = 0) ∨ (¬ DateOk y m d ∧ er = 4)
def DayRes (y m d v er : Int) : Prop := (DateOk y m d ∧ v = num y m d ∧ er = 0) ∨ (¬ DateOk y m d ∧ v = 0 ∧ er = 4)
def OfRes (n y m d er : Int) : Prop := (0 ≤ n ∧ n ≤ 3068036 ∧ DateOk y m d ∧ num y m d = n ∧ er = 0) ∨ (¬ (0 ≤ n ∧ n ≤ 3068036) ∧ y = 0 ∧ m = 0 ∧ d = 0 ∧ er = 4)
def WkdRes (n v er : Int) : Prop := (0 ≤ n ∧ n ≤ 3068036 ∧ v = wday n ∧ er = 0) ∨ (¬ (0 ≤ n ∧ n ≤ 3068036) ∧ v = 0 ∧ er = 4)
def AddRes (a n v er : Int) : Prop := (0 ≤ a ∧ a ≤ 3068036 ∧ 0 ≤ a + n ∧ a + n ≤ 3068036 ∧ v = a + n ∧ er = 0) ∨ (¬ (0 ≤ a ∧ a ≤ 3068036 ∧ 0 ≤ a + n ∧ a + n ≤ 3068036) ∧ v = 0 ∧ er = 4)

theorem lenres_ex (y m : Int) : ∃ v er, LenRes y m v er := by
  by_cases h : MonthOk y m
  · exact ⟨_, 0, .inl ⟨h, rfl, rfl⟩⟩
  · exact ⟨0, 4, .inr ⟨h, rfl, rfl⟩⟩
theorem chkres_ex (y m d : Int) : ∃ er, ChkRes y m d er := by
  by_cases h : DateOk y m d
  · exact ⟨0, .inl ⟨h, rfl⟩⟩
  · exact ⟨4, .inr ⟨h, rfl⟩⟩
theorem dayres_ex (y m d : Int) : ∃ v er, DayRes y m d v er := by
  by_cases h : DateOk y m d
  · exact ⟨_, 0, .inl ⟨h, rfl, rfl⟩⟩
  · exact ⟨0, 4, .inr ⟨h, rfl, rfl⟩⟩
theorem ofres_ex (n : Int) : ∃ y m d er, OfRes n y m d er := by
  by_cases h : 0 ≤ n ∧ n ≤ 3068036
  · obtain ⟨y, m, d, h1, h2⟩ := num_ex h.1 h.2
    exact ⟨y, m, d, 0, .inl ⟨h.1, h.2, h1, h2, rfl⟩⟩
  · exact ⟨0, 0, 0, 4, .inr ⟨h, rfl, rfl, rfl, rfl⟩⟩
theorem wkdres_ex (n : Int) : ∃ v er, WkdRes n v er := by
  by_cases h : 0 ≤ n ∧ n ≤ 3068036
  · exact ⟨_, 0, .inl ⟨h.1, h.2, rfl, rfl⟩⟩
  · exact ⟨0, 4, .inr ⟨h, rfl, rfl⟩⟩
theorem addres_ex (a n : Int) : ∃ v er, AddRes a n v er := by
  by_cases h : 0 ≤ a ∧ a ≤ 3068036 ∧ 0 ≤ a + n ∧ a + n ≤ 3068036
  · exact ⟨_, 0, .inl ⟨h.1, h.2.1, h.2.2.1, h.2.2.2, rfl, rfl⟩⟩
  · exact ⟨0, 4, .inr ⟨h, rfl, rfl⟩⟩

end Go.Proofs.YtnjmokmlnpehdaaGreatDoor.Cm

namespace Go.Proofs.YtnjmokmlnpehdaaGreatDoor.Cm
set_option linter.unusedSimpArgs false
set_option linter.unusedVariables false

theorem next_date {n y m d : Int} (ok : DateOk y m d) (hn : num y m d = n) (h : n ≤ 3068035) :
    (d < mlen y m ∧ OfRes (n + 1) y m (d + 1) 0) ∨ (d = mlen y m ∧ m < 12 ∧ OfRes (n + 1) y (m + 1) 1 0) ∨ (d = mlen y m ∧ m = 12 ∧ OfRes (n + 1) (y + 1) 1 1 0) := by
  have r := num_range ok
  rw [hn] at r
  obtain ⟨⟨h0, h1, h2, h3⟩, h4, h5⟩ := ok
  have hn' : dby y + cum y m + d - 1 = n := hn
  by_cases c : d < mlen y m
  · exact .inl ⟨c, .inl ⟨by omega, by omega, ⟨⟨h0, h1, h2, h3⟩, by omega, by omega⟩, by unfold num; omega, rfl⟩⟩
  · have cs := cum_succ y m h2 h3
    by_cases k : m < 12
    · have := mlen_bd y (m + 1)
      exact .inr (.inl ⟨by omega, k, .inl ⟨by omega, by omega, ⟨⟨h0, h1, by omega, by omega⟩, by omega, by omega⟩, by unfold num; omega, rfl⟩⟩)
    · obtain rfl : m = 12 := by omega
      have ce := cum_end y
      have ds := dby_succ y
      have cs' : cum y 13 = cum y 12 + mlen y 12 := cs
      have hl : dby (y + 1) = n + 1 := by omega
      have y1 : y + 1 ≤ 9999 := by
        by_cases q : y + 1 ≤ 9999
        · exact q
        · obtain rfl : y = 9999 := by omega
          have : dby (9999 + 1) = 3068037 := dby_last
          omega
      have := mlen_bd (y + 1) 1
      exact .inr (.inr ⟨by omega, rfl, .inl ⟨by omega, by omega, ⟨⟨by omega, y1, by omega, by omega⟩, by omega, by omega⟩, by unfold num; rw [cum_one]; omega, rfl⟩⟩)

theorem year_400 {y m d : Int} (ok : DateOk y m d) (h : y + 400 ≤ 9999) : DateOk (y + 400) m d ∧ num (y + 400) m d = num y m d + 146097 ∧ lp (y + 400) = lp y := by
  have l : lp (y + 400) = lp y := by unfold lp; congr 1; simp only [eq_iff_iff]; omega
  have e : mlen (y + 400) m = mlen y m := by unfold mlen; rw [l]
  have c : cum (y + 400) m = cum y m := by unfold cum; rw [l]
  obtain ⟨⟨h0, h1, h2, h3⟩, h4, h5⟩ := ok
  exact ⟨⟨⟨by omega, h, h2, h3⟩, h4, by rw [e]; exact h5⟩, by unfold num; rw [dby_400, c]; omega, l⟩
theorem wday_400 (n : Int) : wday (n + 146097) = wday n := by unfold wday; omega
theorem year_first {y : Int} (h0 : 1600 ≤ y) (h1 : y ≤ 9999) : DateOk y 1 1 ∧ num y 1 1 = dby y := by
  have := mlen_bd y 1
  exact ⟨⟨⟨h0, h1, by omega, by omega⟩, by omega, by omega⟩, by unfold num; rw [cum_one]; omega⟩
theorem year_last {y : Int} (h0 : 1600 ≤ y) (h1 : y ≤ 9999) : DateOk y 12 31 ∧ num y 12 31 = dby y + 364 + lp y := by
  have e : mlen y 12 = 31 := by simp [mlen]
  have c : cum y 12 = 334 + lp y := by simp [cum]
  exact ⟨⟨⟨h0, h1, by omega, by omega⟩, by omega, by omega⟩, by unfold num; rw [c]; omega⟩

end Go.Proofs.YtnjmokmlnpehdaaGreatDoor.Cm

namespace Go.Proofs.YtnjmokmlnpehdaaGreatDoor.Em
set_option linter.unusedSimpArgs false
set_option linter.unusedVariables false
open Go.Proofs.YtnjmokmlnpehdaaGreatDoor.Cm

/-- the Monday of the week that has January 4 in it -/
def fm (y : Int) : Int := dby y + 3 - (dby y + 8) % 7
theorem fm_mod (y : Int) : fm y % 7 = 2 := by unfold fm; omega
theorem fm_near (y : Int) : dby y - 3 ≤ fm y ∧ fm y ≤ dby y + 3 := by unfold fm; omega
theorem fm_succ (y : Int) : fm (y + 1) = fm y + 364 ∨ fm (y + 1) = fm y + 371 := by
  have a := dby_succ y
  have b := lp_01 y
  unfold fm; omega
theorem fm_step (y : Int) : fm y + 364 ≤ fm (y + 1) := by rcases fm_succ y with h | h <;> omega
theorem fm_mono {a b : Int} (h : a ≤ b) : fm a ≤ fm b := by
  by_cases e : a = b
  · subst e; omega
  · have := dby_step (a := a) (b := b) (by omega)
    have := fm_near a
    have := fm_near b
    have := lp_01 a
    omega
theorem fm_lt {a b n : Int} (h : fm a ≤ n) (k : n < fm (b + 1)) : a ≤ b := by
  by_cases c : a ≤ b
  · exact c
  · have := fm_mono (a := b + 1) (b := a) (by omega); omega
theorem dby_0 : dby 1599 = -365 := by decide
theorem fm_0 : fm 1599 = -362 := by decide
theorem fm_first : fm 1600 = 2 := by decide
theorem fm_last : fm 10000 = 3068039 := by decide
/-- a week is of the year of its Thursday -/
theorem monday_year {y m : Int} (h : m % 7 = 2) : fm y ≤ m ↔ dby y ≤ m + 3 := by
  constructor <;> intro k <;> unfold fm at * <;> omega

def inum (y w d : Int) : Int := fm y + 7 * (w - 1) + d - 1
/-- is there such a day? -/
def IsoOk (y w d : Int) : Prop := 1599 ≤ y ∧ y ≤ 9999 ∧ 1 ≤ w ∧ 7 * w ≤ fm (y + 1) - fm y ∧ 1 ≤ d ∧ d ≤ 7 ∧ 0 ≤ inum y w d ∧ inum y w d ≤ 3068036
def many (y : Int) : Int := (fm (y + 1) - fm y) / 7
theorem many_53 (y : Int) : many y = 52 ∨ many y = 53 := by unfold many; rcases fm_succ y with h | h <;> omega
theorem many_7 (y : Int) : 7 * many y = fm (y + 1) - fm y := by unfold many; rcases fm_succ y with h | h <;> omega
theorem weeks_le {y w d : Int} (h : IsoOk y w d) : w ≤ 53 := by
  have := fm_succ y
  have := h.2.2.2.1
  omega
theorem wday_inum {y w d : Int} (h : IsoOk y w d) : wday (inum y w d) = d := by
  have := fm_mod y
  have := h.2.2.2.2.1
  have := h.2.2.2.2.2.1
  unfold wday inum; omega
theorem inum_monday {y w d : Int} (h : IsoOk y w d) : fm y ≤ inum y w d - (d - 1) ∧ inum y w d - (d - 1) < fm (y + 1) ∧ (inum y w d - (d - 1)) % 7 = 2 := by
  have := fm_mod y
  obtain ⟨_, _, h2, h3, _⟩ := h
  unfold inum; omega
theorem iso_inj {y w d y' w' d' : Int} (h : IsoOk y w d) (h' : IsoOk y' w' d') (e : inum y w d = inum y' w' d') : y = y' ∧ w = w' ∧ d = d' := by
  have a := wday_inum h
  have b := wday_inum h'
  rw [e] at a
  have ed : d = d' := by omega
  subst ed
  obtain ⟨m0, m1, _⟩ := inum_monday h
  obtain ⟨n0, n1, _⟩ := inum_monday h'
  rw [e] at m0 m1
  have y1 := fm_lt m0 n1
  have y2 := fm_lt n0 m1
  obtain rfl : y = y' := by omega
  unfold inum at e
  exact ⟨rfl, by omega, rfl⟩
/-- the year of a day's week, told by the week's Thursday -/
theorem iso_of {n y : Int} (h0 : 0 ≤ n) (h1 : n ≤ 3068036) (y0 : 1599 ≤ y) (y1 : y ≤ 9999) (a : dby y ≤ n - (wday n - 1) + 3) (b : n - (wday n - 1) + 3 < dby (y + 1)) :
    IsoOk y ((n - (wday n - 1) - fm y) / 7 + 1) (wday n) ∧ inum y ((n - (wday n - 1) - fm y) / 7 + 1) (wday n) = n := by
  have wd : 1 ≤ wday n ∧ wday n ≤ 7 ∧ (n - (wday n - 1)) % 7 = 2 := by unfold wday; omega
  obtain ⟨w0, w1, w2⟩ := wd
  have k := (monday_year w2).2 a
  have l : n - (wday n - 1) < fm (y + 1) := by
    by_cases c : n - (wday n - 1) < fm (y + 1)
    · exact c
    · have := (monday_year (y := y + 1) w2).1 (by omega); omega
  have e0 := fm_mod y
  have e1 := fm_mod (y + 1)
  have e : inum y ((n - (wday n - 1) - fm y) / 7 + 1) (wday n) = n := by unfold inum; omega
  exact ⟨⟨y0, y1, by omega, by omega, w0, w1, by omega, by omega⟩, e⟩
/-- each day's week has a Thursday of the calendar, or the first days have one ahead of it -/
theorem thursday_year {n : Int} (h0 : 0 ≤ n) (h1 : n ≤ 3068036) :
    (n - (wday n - 1) + 3 < 0 ∧ -365 ≤ n - (wday n - 1) + 3) ∨ (0 ≤ n - (wday n - 1) + 3 ∧ n - (wday n - 1) + 3 ≤ 3068036 ∧ ∃ y m d, DateOk y m d ∧ num y m d = n - (wday n - 1) + 3) := by
  have wd : 1 ≤ wday n ∧ wday n ≤ 7 ∧ (n - (wday n - 1)) % 7 = 2 := by unfold wday; omega
  by_cases c : n - (wday n - 1) + 3 < 0
  · exact .inl (by omega)
  · have a : n - (wday n - 1) + 3 ≤ 3068036 := by omega
    exact .inr ⟨by omega, a, num_ex (by omega) a⟩
theorem iso_ex {n : Int} (h0 : 0 ≤ n) (h1 : n ≤ 3068036) : ∃ y w d, IsoOk y w d ∧ inum y w d = n := by
  rcases thursday_year h0 h1 with ⟨a, b⟩ | ⟨_, _, y, m, d, ok, e⟩
  · exact ⟨1599, _, _, iso_of h0 h1 (by omega) (by omega) (by rw [dby_0]; exact b) (by rw [show (1599 : Int) + 1 = 1600 by omega, dby_first]; exact a)⟩
  · have b := num_bd ok
    rw [e] at b
    exact ⟨y, _, _, iso_of h0 h1 (by have := ok.1.1; omega) ok.1.2.1 b.1 b.2⟩

/-! what the functions answer -/
def IsoRes (n y w d er : Int) : Prop := (0 ≤ n ∧ n ≤ 3068036 ∧ IsoOk y w d ∧ inum y w d = n ∧ er = 0) ∨ (¬ (0 ≤ n ∧ n ≤ 3068036) ∧ y = 0 ∧ w = 0 ∧ d = 0 ∧ er = 4)
def IDayRes (y w d v er : Int) : Prop := (IsoOk y w d ∧ v = inum y w d ∧ er = 0) ∨ (¬ IsoOk y w d ∧ v = 0 ∧ er = 4)
def ManyRes (y v er : Int) : Prop := (1600 ≤ y ∧ y ≤ 9999 ∧ v = many y ∧ er = 0) ∨ (¬ (1600 ≤ y ∧ y ≤ 9999) ∧ v = 0 ∧ er = 4)
/-- a month's last day, and how many days the last one of a weekday is ahead of it -/
def mend (y m : Int) : Int := num y m (mlen y m)
def mback (y m wd : Int) : Int := (wday (mend y m) - wd) % 7
def LastRes (y m wd v er : Int) : Prop :=
  (MonthOk y m ∧ 1 ≤ wd ∧ wd ≤ 7 ∧ v = mend y m - mback y m wd ∧ er = 0) ∨ (MonthOk y m ∧ ¬ (1 ≤ wd ∧ wd ≤ 7) ∧ v = 0 ∧ er = 1) ∨ (¬ MonthOk y m ∧ v = 0 ∧ er = 4)
def nearv (y m wd : Int) : Int := if 3 < mback y m wd then mend y m - (mback y m wd - 7) else mend y m - mback y m wd
def NearRes (y m wd v er : Int) : Prop :=
  (MonthOk y m ∧ 1 ≤ wd ∧ wd ≤ 7 ∧ nearv y m wd ≤ 3068036 ∧ v = nearv y m wd ∧ er = 0) ∨ (MonthOk y m ∧ 1 ≤ wd ∧ wd ≤ 7 ∧ 3068036 < nearv y m wd ∧ v = 0 ∧ er = 4) ∨
  (MonthOk y m ∧ ¬ (1 ≤ wd ∧ wd ≤ 7) ∧ v = 0 ∧ er = 1) ∨ (¬ MonthOk y m ∧ v = 0 ∧ er = 4)

theorem isores_ex (n : Int) : ∃ y w d er, IsoRes n y w d er := by
  by_cases h : 0 ≤ n ∧ n ≤ 3068036
  · obtain ⟨y, w, d, h1, h2⟩ := iso_ex h.1 h.2
    exact ⟨y, w, d, 0, .inl ⟨h.1, h.2, h1, h2, rfl⟩⟩
  · exact ⟨0, 0, 0, 4, .inr ⟨h, rfl, rfl, rfl, rfl⟩⟩
theorem idayres_ex (y w d : Int) : ∃ v er, IDayRes y w d v er := by
  by_cases h : IsoOk y w d
  · exact ⟨_, 0, .inl ⟨h, rfl, rfl⟩⟩
  · exact ⟨0, 4, .inr ⟨h, rfl, rfl⟩⟩
theorem manyres_ex (y : Int) : ∃ v er, ManyRes y v er := by
  by_cases h : 1600 ≤ y ∧ y ≤ 9999
  · exact ⟨_, 0, .inl ⟨h.1, h.2, rfl, rfl⟩⟩
  · exact ⟨0, 4, .inr ⟨h, rfl, rfl⟩⟩
theorem lastres_ex (y m wd : Int) : ∃ v er, LastRes y m wd v er := by
  by_cases h : MonthOk y m
  · by_cases k : 1 ≤ wd ∧ wd ≤ 7
    · exact ⟨_, 0, .inl ⟨h, k.1, k.2, rfl, rfl⟩⟩
    · exact ⟨0, 1, .inr (.inl ⟨h, k, rfl, rfl⟩)⟩
  · exact ⟨0, 4, .inr (.inr ⟨h, rfl, rfl⟩)⟩
theorem nearres_ex (y m wd : Int) : ∃ v er, NearRes y m wd v er := by
  by_cases h : MonthOk y m
  · by_cases k : 1 ≤ wd ∧ wd ≤ 7
    · by_cases l : nearv y m wd ≤ 3068036
      · exact ⟨_, 0, .inl ⟨h, k.1, k.2, l, rfl, rfl⟩⟩
      · exact ⟨0, 4, .inr (.inl ⟨h, k.1, k.2, by omega, rfl, rfl⟩)⟩
    · exact ⟨0, 1, .inr (.inr (.inl ⟨h, k, rfl, rfl⟩))⟩
  · exact ⟨0, 4, .inr (.inr (.inr ⟨h, rfl, rfl⟩))⟩

/-! months' ends -/
theorem end_ok {y m : Int} (h : MonthOk y m) : DateOk y m (mlen y m) := ⟨h, by have := mlen_bd y m; omega, by omega⟩
theorem end_range {y m : Int} (h : MonthOk y m) : 30 ≤ mend y m ∧ mend y m ≤ 3068036 := by
  have a := num_range (end_ok h)
  refine ⟨?_, a.2⟩
  have := cum_step y h.2.2.1 (b := m + 1) (by omega) (by have := h.2.2.2; omega)
  have b := cum_succ y m h.2.2.1 h.2.2.2
  have c := dby_mono (a := 1600) (b := y) h.1
  rw [dby_first] at c
  have d := cum_mono y (a := 2) (b := m + 1) (by omega) (by have := h.2.2.1; omega) (by have := h.2.2.2; omega)
  have e : cum y 2 = 31 := by simp [cum]
  unfold mend num; omega
theorem back_bd (y m wd : Int) : 0 ≤ mback y m wd ∧ mback y m wd ≤ 6 := by unfold mback; omega
theorem near_low {y m wd : Int} (h : MonthOk y m) : 0 ≤ nearv y m wd ∧ nearv y m wd ≤ 3068039 := by
  have a := end_range h
  have b := back_bd y m wd
  unfold nearv; split <;> omega
theorem wday_bd (n : Int) : 1 ≤ wday n ∧ wday n ≤ 7 := by unfold wday; omega
theorem back_wday {y m wd : Int} (h0 : 1 ≤ wd) (h1 : wd ≤ 7) : wday (mend y m - mback y m wd) = wd := by
  unfold mback wday; omega

/-- the year of the day n, or the one ahead of the calendar -/
def YearAt (n y : Int) : Prop := (n < 0 ∧ y = 1599) ∨ (0 ≤ n ∧ n ≤ 3068036 ∧ ∃ m d, DateOk y m d ∧ num y m d = n)
theorem iso_year {n y w d : Int} (ok : IsoOk y w d) (hn : inum y w d = n) : YearAt (n - (d - 1) + 3) y ∧ w = (n - (d - 1) - fm y) / 7 + 1 ∧ fm y ≤ n - (d - 1) ∧ d = wday n := by
  have wd := wday_inum ok
  obtain ⟨m0, m1, m2⟩ := inum_monday ok
  have a0 : 0 ≤ inum y w d := ok.2.2.2.2.2.2.1
  have a1 : inum y w d ≤ 3068036 := ok.2.2.2.2.2.2.2
  rw [hn] at wd m0 m1 m2 a0 a1
  have k0 := (monday_year m2).1 m0
  have k1 : n - (d - 1) + 3 < dby (y + 1) := by
    by_cases c : n - (d - 1) + 3 < dby (y + 1)
    · exact c
    · have := (monday_year (y := y + 1) m2).2 (by omega); omega
  refine ⟨?_, by unfold inum at hn; omega, m0, wd.symm⟩
  have t := thursday_year a0 a1
  rw [wd] at t
  rcases t with ⟨t0, t1⟩ | ⟨t0, t1, y', m', d', ok', e⟩
  · refine .inl ⟨t0, ?_⟩
    have : y ≤ 1599 := dby_lt (n := n - (d - 1) + 3) k0 (by rw [show (1599 : Int) + 1 = 1600 by omega, dby_first]; exact t0)
    have := ok.1
    omega
  · have b := num_bd ok'
    rw [e] at b
    have y1 := dby_lt b.1 k1
    have y2 := dby_lt k0 b.2
    obtain rfl : y = y' := by omega
    exact .inr ⟨t0, t1, m', d', ok', e⟩
def FirstRes (y v er : Int) : Prop := (1599 ≤ y ∧ y ≤ 9999 ∧ v = fm y ∧ er = 0) ∨ (¬ (1599 ≤ y ∧ y ≤ 9999) ∧ v = 0 ∧ er = 4)
theorem fm_bd {y : Int} (h0 : 1599 ≤ y) (h1 : y ≤ 9999) : -362 ≤ fm y ∧ fm y ≤ 3067675 := by
  have a := fm_mono h0
  have b := fm_mono h1
  have c := fm_step 9999
  have d : fm (9999 + 1) = 3068039 := fm_last
  rw [fm_0] at a
  omega
/-- what endOf answers -/
def EndRes (y m wd v b er : Int) : Prop :=
  (MonthOk y m ∧ 1 ≤ wd ∧ wd ≤ 7 ∧ v = mend y m ∧ b = mback y m wd ∧ er = 0) ∨ (MonthOk y m ∧ ¬ (1 ≤ wd ∧ wd ≤ 7) ∧ v = 0 ∧ b = 0 ∧ er = 1) ∨ (¬ MonthOk y m ∧ v = 0 ∧ b = 0 ∧ er = 4)

end Go.Proofs.YtnjmokmlnpehdaaGreatDoor.Em

namespace Go.Proofs.YtnjmokmlnpehdaaGreatDoor.Em
set_option linter.unusedSimpArgs false
set_option linter.unusedVariables false
open Go.Proofs.YtnjmokmlnpehdaaGreatDoor.Cm

theorem next_iso {n y w d : Int} (ok : IsoOk y w d) (hn : inum y w d = n) (h : n ≤ 3068035) :
    (d < 7 ∧ IsoRes (n + 1) y w (d + 1) 0) ∨ (d = 7 ∧ y < 1600 ∧ IsoRes (n + 1) 1600 1 1 0) ∨
    (d = 7 ∧ 1600 ≤ y ∧ w < many y ∧ IsoRes (n + 1) y (w + 1) 1 0) ∨ (d = 7 ∧ 1600 ≤ y ∧ w = many y ∧ y + 1 ≤ 9999 ∧ IsoRes (n + 1) (y + 1) 1 1 0) := by
  have e7 := many_7 y
  have n0 : 0 ≤ n := hn ▸ ok.2.2.2.2.2.2.1
  obtain ⟨y0, y1, w0, w1, d0, d1, _, _⟩ := ok
  unfold inum at hn
  by_cases c : d < 7
  · have k : inum y w (d + 1) = n + 1 := by unfold inum; omega
    exact .inl ⟨c, .inl ⟨by omega, by omega, ⟨y0, y1, w0, w1, by omega, by omega, by omega, by omega⟩, k, rfl⟩⟩
  · obtain rfl : d = 7 := by omega
    by_cases c2 : y < 1600
    · obtain rfl : y = 1599 := by omega
      have a := fm_0
      have b := fm_first
      have b' : fm (1599 + 1) = 2 := b
      have s := fm_succ 1600
      have k : inum 1600 1 1 = n + 1 := by unfold inum; omega
      exact .inr (.inl ⟨rfl, c2, .inl ⟨by omega, by omega, ⟨by omega, by omega, by omega, by rcases s with s | s <;> omega, by omega, by omega, by omega, by omega⟩, k, rfl⟩⟩)
    · by_cases c3 : w < many y
      · have k : inum y (w + 1) 1 = n + 1 := by unfold inum; omega
        exact .inr (.inr (.inl ⟨rfl, by omega, c3, .inl ⟨by omega, by omega, ⟨y0, y1, by omega, by omega, by omega, by omega, by omega, by omega⟩, k, rfl⟩⟩))
      · have k : inum (y + 1) 1 1 = n + 1 := by unfold inum; omega
        have s := fm_succ (y + 1)
        have y2 : y + 1 ≤ 9999 := by
          by_cases q : y + 1 ≤ 9999
          · exact q
          · obtain rfl : y = 9999 := by omega
            have l : fm (9999 + 1) = 3068039 := fm_last
            unfold inum at k
            omega
        exact .inr (.inr (.inr ⟨rfl, by omega, by omega, y2, .inl ⟨by omega, by omega, ⟨by omega, y2, by omega, by rcases s with s | s <;> omega, by omega, by omega, by omega, by omega⟩, k, rfl⟩⟩))

/-- January 4 is of week 1, December 28 of the last one -/
theorem first_ok {y : Int} (h0 : 1600 ≤ y) (h1 : y ≤ 9999) :
    DateOk y 1 4 ∧ num y 1 4 = dby y + 3 ∧ IsoRes (dby y + 3) y 1 (wday (dby y + 3)) 0 := by
  have l := mlen_bd y 1
  have b := dby_bd (t := y) h0 (by omega)
  have c := dby_step (a := y) (b := 10000) (by omega)
  rw [dby_last] at c
  have s := fm_succ y
  have lb := lp_01 y
  have k : inum y 1 (wday (dby y + 3)) = dby y + 3 := by unfold inum fm wday; omega
  have d := wday_bd (dby y + 3)
  exact ⟨⟨⟨h0, h1, by omega, by omega⟩, by omega, by omega⟩, by unfold num; rw [cum_one]; omega,
    .inl ⟨by omega, by omega, ⟨by omega, h1, by omega, by rcases s with s | s <;> omega, d.1, d.2, by omega, by omega⟩, k, rfl⟩⟩
theorem last_ok {y : Int} (h0 : 1600 ≤ y) (h1 : y ≤ 9999) :
    DateOk y 12 28 ∧ num y 12 28 = dby (y + 1) - 4 ∧ IsoRes (dby (y + 1) - 4) y (many y) (wday (dby (y + 1) - 4)) 0 := by
  have e : mlen y 12 = 31 := by simp [mlen]
  have c : cum y 12 = 334 + lp y := by simp [cum]
  have ds := dby_succ y
  have b := dby_bd (t := y + 1) (by omega) (by omega)
  have b0 := dby_bd (t := y) h0 (by omega)
  have m7 := many_7 y
  have lb := lp_01 y
  have k : inum y (many y) (wday (dby (y + 1) - 4)) = dby (y + 1) - 4 := by
    have z : inum y (many y) (wday (dby (y + 1) - 4)) = fm (y + 1) - 7 + wday (dby (y + 1) - 4) - 1 := by unfold inum; omega
    rw [z]; unfold fm wday; omega
  have d := wday_bd (dby (y + 1) - 4)
  have m53 := many_53 y
  exact ⟨⟨⟨h0, h1, by omega, by omega⟩, by omega, by omega⟩, by unfold num; rw [c]; omega,
    .inl ⟨by omega, by omega, ⟨by omega, h1, by omega, by omega, d.1, d.2, by omega, by omega⟩, k, rfl⟩⟩
theorem weeks_53 (y : Int) : many y = 53 ↔ (wday (dby y) = 4 ∨ wday (dby (y + 1) - 1) = 4) := by
  have ds := dby_succ y
  have lb := lp_01 y
  have m7 := many_7 y
  unfold fm at m7
  unfold wday
  constructor
  · intro h; omega
  · intro h; omega

/-- a month's last days -/
theorem last_date {y m wd : Int} (h : MonthOk y m) (h0 : 1 ≤ wd) (h1 : wd ≤ 7) :
    OfRes (mend y m - mback y m wd) y m (mlen y m - mback y m wd) 0 ∧ WkdRes (mend y m - mback y m wd) wd 0 := by
  have a := end_range h
  have b := back_bd y m wd
  have c := mlen_bd y m
  refine ⟨.inl ⟨by omega, by omega, ⟨h, by omega, by omega⟩, ?_, rfl⟩, .inl ⟨by omega, by omega, (back_wday h0 h1).symm, rfl⟩⟩
  unfold mend num; omega

/-- a month's ends, a year apart -/
theorem ends_year {y m : Int} (h : MonthOk y m) : mend (y + 1) m = mend y m + 365 ∨ mend (y + 1) m = mend y m + 366 := by
  have c := cum_succ y m h.2.2.1 h.2.2.2
  have c' := cum_succ (y + 1) m h.2.2.1 h.2.2.2
  have d := dby_succ y
  have l := lp_01 y
  have l' := lp_01 (y + 1)
  have hm : m = 1 ∨ (2 ≤ m) := by have := h.2.2.1; omega
  have e : cum y (m + 1) = cum 1601 (m + 1) + (if m = 1 then 0 else lp y) ∧ cum (y + 1) (m + 1) = cum 1601 (m + 1) + (if m = 1 then 0 else lp (y + 1)) := by
    have z : lp 1601 = 0 := by decide
    have hm : m = 1 ∨ m = 2 ∨ m = 3 ∨ m = 4 ∨ m = 5 ∨ m = 6 ∨ m = 7 ∨ m = 8 ∨ m = 9 ∨ m = 10 ∨ m = 11 ∨ m = 12 := by have := h.2.2; omega
    rcases hm with rfl | rfl | rfl | rfl | rfl | rfl | rfl | rfl | rfl | rfl | rfl | rfl <;> simp [cum, z]
  obtain ⟨e1, e2⟩ := e
  unfold mend num
  split at e1 <;> split at e2 <;> omega
theorem lasts_year {y m wd : Int} (h : MonthOk y m) : mend (y + 1) m - mback (y + 1) m wd - (mend y m - mback y m wd) = 364 ∨ mend (y + 1) m - mback (y + 1) m wd - (mend y m - mback y m wd) = 371 := by
  have e := ends_year h
  unfold mback wday
  omega
theorem nears_year {y m wd : Int} (h : MonthOk y m) : nearv (y + 1) m wd - nearv y m wd = 364 ∨ nearv (y + 1) m wd - nearv y m wd = 371 := by
  have e := ends_year h
  have a : (mend (y + 1) m - mback (y + 1) m wd - (mend y m - mback y m wd)) % 7 = 0 := by unfold mback wday; omega
  have b := back_bd y m wd
  have b' := back_bd (y + 1) m wd
  unfold nearv
  split <;> split <;> omega
theorem near_early {y m wd : Int} (h : MonthOk y m) (h1 : y ≤ 9998) : nearv y m wd ≤ 3068036 := by
  have e := ends_year h
  have r := near_low (wd := wd) (⟨by have := h.1; omega, by omega, h.2.2⟩ : MonthOk (y + 1) m)
  have q := nears_year (wd := wd) h
  omega

end Go.Proofs.YtnjmokmlnpehdaaGreatDoor.Em

namespace Go.Proofs.YtnjmokmlnpehdaaGreatDoor.Zm
set_option linter.unusedSimpArgs false
set_option linter.unusedVariables false

def letter (c : UInt8) : Bool := decide (97 ≤ c.toNat) && decide (c.toNat ≤ 122)
def digit (c : UInt8) : Bool := decide (48 ≤ c.toNat) && decide (c.toNat ≤ 57)
def inner (c : UInt8) : Bool := letter c || digit c || decide (c.toNat = 45)
def blank (c : UInt8) : Bool := decide (c.toNat = 32) || decide (c.toNat = 9) || decide (c.toNat = 10)
def onLine (c : UInt8) : Bool := !decide (c.toNat = 10)
def val (l : List UInt8) : Nat := l.foldl (fun n c => 10 * n + (c.toNat - 48)) 0

/-- a token: its kind, place, number and name -/
structure Tk where
  k : Nat
  a : Nat
  n : Nat
  s : List UInt8

inductive Step where
  | skip (n : Nat)
  | wrong
  | err (e off : Nat)
  | tok (k n : Nat) (s : List UInt8) (len : Nat)

def startsInner : List UInt8 → Bool
  | [] => false
  | c :: _ => inner c

/-- what stands at a byte c, r behind it -/
def step (c : UInt8) (r : List UInt8) : Step :=
  if blank c then .skip 1
  else if c.toNat = 35 then .skip ((r.takeWhile onLine).length + 1)
  else if letter c then
    if 16 < (r.takeWhile inner).length + 1 then .err 6 0 else .tok 1 0 (c :: r.takeWhile inner) ((r.takeWhile inner).length + 1)
  else if digit c then
    if 9 < (r.takeWhile digit).length + 1 then .err 6 0
    else if c.toNat = 48 ∧ 1 < (r.takeWhile digit).length + 1 then .err 5 0
    else if startsInner (r.drop (r.takeWhile digit).length) then .err 5 ((r.takeWhile digit).length + 1)
    else .tok 2 (val (c :: r.takeWhile digit)) [] ((r.takeWhile digit).length + 1)
  else if c.toNat = 123 then .tok 3 0 [] 1
  else if c.toNat = 125 then .tok 4 0 [] 1
  else if c.toNat = 59 then .tok 5 0 [] 1
  else .wrong

theorem takeWhile_le {p : UInt8 → Bool} (r : List UInt8) : (r.takeWhile p).length ≤ r.length := by
  induction r with
  | nil => simp
  | cons c r ih => by_cases h : p c <;> simp [List.takeWhile_cons, h] <;> omega

/-- cnt tokens stand ahead, p is the place of the first byte -/
def cut (l : List UInt8) (cnt p : Nat) : Except (Nat × Nat) (List Tk) :=
  match l with
  | [] => .ok []
  | c :: r =>
    match step c r with
    | .skip n => cut (r.drop (n - 1)) cnt (p + n)
    | .wrong => .error (5, p)
    | .err e o => if cnt = 8192 then .error (6, p) else .error (e, p + o)
    | .tok k n s len =>
      if cnt = 8192 then .error (6, p)
      else match cut (r.drop (len - 1)) (cnt + 1) (p + len) with
        | .ok a => .ok (⟨k, p, n, s⟩ :: a)
        | .error x => .error x
  termination_by l.length
  decreasing_by all_goals (simp; omega)

theorem cut_nil (cnt p : Nat) : cut [] cnt p = .ok [] := by rw [cut]

theorem cut_skip {c : UInt8} {r : List UInt8} {n : Nat} (cnt p : Nat) (h : step c r = .skip n) : cut (c :: r) cnt p = cut (r.drop (n - 1)) cnt (p + n) := by rw [cut]; simp only [h]

theorem cut_wrong {c : UInt8} {r : List UInt8} (cnt p : Nat) (h : step c r = .wrong) : cut (c :: r) cnt p = .error (5, p) := by rw [cut]; simp only [h]

theorem cut_err {c : UInt8} {r : List UInt8} {e o : Nat} (cnt p : Nat) (h : step c r = .err e o) : cut (c :: r) cnt p = if cnt = 8192 then .error (6, p) else .error (e, p + o) := by rw [cut]; simp only [h]

theorem cut_tok {c : UInt8} {r : List UInt8} {k n len : Nat} {s : List UInt8} (cnt p : Nat) (h : step c r = .tok k n s len) :
    cut (c :: r) cnt p = if cnt = 8192 then .error (6, p) else (cut (r.drop (len - 1)) (cnt + 1) (p + len)).map (⟨k, p, n, s⟩ :: ·) := by
  rw [cut]; simp only [h]; split
  · rfl
  · cases cut (r.drop (len - 1)) (cnt + 1) (p + len) <;> rfl

/-- with what was cut ahead of it -/
def tot (l : List UInt8) (p : Nat) (acc : List Tk) : Except (Nat × Nat) (List Tk) := (cut l acc.length p).map (acc ++ ·)

theorem tot_nil (p : Nat) (acc : List Tk) : tot [] p acc = .ok acc := by simp [tot, cut_nil, Except.map]

theorem tot_skip {c : UInt8} {r : List UInt8} {n : Nat} (p : Nat) (acc : List Tk) (h : step c r = .skip n) : tot (c :: r) p acc = tot (r.drop (n - 1)) (p + n) acc := by rw [tot, cut_skip _ _ h]; rfl

theorem tot_wrong {c : UInt8} {r : List UInt8} (p : Nat) (acc : List Tk) (h : step c r = .wrong) : tot (c :: r) p acc = .error (5, p) := by rw [tot, cut_wrong _ _ h]; rfl

theorem tot_full {c : UInt8} {r : List UInt8} (p : Nat) (acc : List Tk) (hn : ∀ n, step c r ≠ .skip n) (hw : step c r ≠ .wrong) (ha : acc.length = 8192) : tot (c :: r) p acc = .error (6, p) := by
  rw [tot, ha]
  cases h : step c r with
  | skip n => exact absurd h (hn n)
  | wrong => exact absurd h hw
  | err e o => rw [cut_err _ _ h]; rfl
  | tok k n s len => rw [cut_tok _ _ h]; rfl

theorem tot_err {c : UInt8} {r : List UInt8} {e o : Nat} (p : Nat) (acc : List Tk) (h : step c r = .err e o) (ha : acc.length ≠ 8192) : tot (c :: r) p acc = .error (e, p + o) := by
  rw [tot, cut_err _ _ h, if_neg ha]; rfl

theorem tot_tok {c : UInt8} {r : List UInt8} {k n len : Nat} {s : List UInt8} (p : Nat) (acc : List Tk) (h : step c r = .tok k n s len) (ha : acc.length ≠ 8192) :
    tot (c :: r) p acc = tot (r.drop (len - 1)) (p + len) (acc ++ [⟨k, p, n, s⟩]) := by
  rw [tot, cut_tok _ _ h, if_neg ha, tot]
  simp only [List.length_append, List.length_cons, List.length_nil, Nat.zero_add]
  cases cut (r.drop (len - 1)) (acc.length + 1) (p + len) <;> simp [Except.map]

/-! ## Lengths -/
theorem step_skip_le {c : UInt8} {r : List UInt8} {n : Nat} (h : step c r = .skip n) : 1 ≤ n ∧ n ≤ r.length + 1 := by
  have a := takeWhile_le (p := onLine) r
  unfold step at h
  repeat' split at h
  all_goals first
    | (injection h with h; omega)
    | cases h

theorem step_tok_le {c : UInt8} {r : List UInt8} {k n len : Nat} {s : List UInt8} (h : step c r = .tok k n s len) : 1 ≤ len ∧ len ≤ r.length + 1 := by
  have a := takeWhile_le (p := inner) r
  have b := takeWhile_le (p := digit) r
  unfold step at h
  repeat' split at h
  all_goals first
    | (injection h with h1 h2 h3 h4; omega)
    | cases h

theorem step_err_le {c : UInt8} {r : List UInt8} {e o : Nat} (h : step c r = .err e o) : o ≤ r.length := by
  have b := takeWhile_le (p := digit) r
  unfold step at h
  repeat' split at h
  all_goals first
    | (injection h with h1 h2; omega)
    | (injection h with h1 h2
       rename_i hs
       rcases Nat.lt_or_ge (r.takeWhile digit).length r.length with g | g
       · omega
       · rw [List.drop_eq_nil_of_le g] at hs; cases hs)
    | cases h

/-! ## A line's end behind a text -/
theorem takeWhile_more {p : UInt8 → Bool} {b : UInt8} (hb : p b = false) (r t : List UInt8) : (r ++ b :: t).takeWhile p = r.takeWhile p := by
  induction r with
  | nil => simp [List.takeWhile_cons, hb]
  | cons c r ih => by_cases h : p c <;> simp [List.takeWhile_cons, h, ih]

theorem starts_more {b : UInt8} (hb : inner b = false) (l t : List UInt8) : startsInner (l ++ b :: t) = startsInner l := by
  cases l <;> simp [startsInner, hb]

/-- a byte b that no name goes on with; a remark is not open, or b ends it -/
theorem step_more {c b : UInt8} (r t : List UInt8) (hb : inner b = false) (ho : c.toNat = 35 → (r ++ b :: t).takeWhile onLine = r.takeWhile onLine) : step c (r ++ b :: t) = step c r := by
  have hd : digit b = false := by
    unfold inner at hb; cases h : digit b
    · rfl
    · simp [h] at hb
  unfold step
  rw [takeWhile_more hb, takeWhile_more hd, List.drop_append_of_le_length (takeWhile_le r), starts_more hb]
  by_cases h : c.toNat = 35
  · rw [ho h]
  · simp [h]

theorem step_line {c : UInt8} (r t : List UInt8) : step c (r ++ 10 :: t) = step c r :=
  step_more r t (by decide) (fun _ => takeWhile_more (by decide) r t)

theorem cut_line_aux (m : Nat) : ∀ (l t : List UInt8) (cnt p : Nat), l.length ≤ m →
    (∀ x, cut l cnt p = .error x → cut (l ++ 10 :: t) cnt p = .error x) ∧
    (∀ a, cut l cnt p = .ok a → cut (l ++ 10 :: t) cnt p = (cut (10 :: t) (cnt + a.length) (p + l.length)).map (a ++ ·)) := by
  induction m with
  | zero =>
    intro l t cnt p hl
    cases l with
    | nil =>
      refine ⟨fun x h => (by rw [cut_nil] at h; cases h), fun a h => ?_⟩
      rw [cut_nil] at h; injection h with h; subst h
      simp only [List.nil_append, List.length_nil, Nat.add_zero]
      cases cut (10 :: t) cnt p <;> rfl
    | cons c r => simp at hl
  | succ m ih =>
    intro l t cnt p hl
    cases l with
    | nil =>
      refine ⟨fun x h => (by rw [cut_nil] at h; cases h), fun a h => ?_⟩
      rw [cut_nil] at h; injection h with h; subst h
      simp only [List.nil_append, List.length_nil, Nat.add_zero]
      cases cut (10 :: t) cnt p <;> rfl
    | cons c r =>
      have hs := step_line (c := c) r t
      simp only [List.length_cons] at hl
      cases h : step c r with
      | skip n =>
        rw [h] at hs
        have hn := step_skip_le h
        obtain ⟨i1, i2⟩ := ih (r.drop (n - 1)) t cnt (p + n) (by simp; omega)
        rw [List.cons_append, cut_skip _ _ hs, cut_skip _ _ h, List.drop_append_of_le_length (by omega)]
        refine ⟨i1, fun a ha => (i2 a ha).trans ?_⟩
        rw [show p + n + (r.drop (n - 1)).length = p + (c :: r).length by simp; omega]
      | wrong =>
        rw [h] at hs
        rw [List.cons_append, cut_wrong _ _ hs, cut_wrong _ _ h]
        exact ⟨fun x hx => hx, fun a ha => by cases ha⟩
      | err e o =>
        rw [h] at hs
        rw [List.cons_append, cut_err _ _ hs, cut_err _ _ h]
        exact ⟨fun x hx => hx, fun a ha => by split at ha <;> cases ha⟩
      | tok k n s len =>
        rw [h] at hs
        have hn := step_tok_le h
        rw [List.cons_append, cut_tok _ _ hs, cut_tok _ _ h]
        by_cases hc : cnt = 8192
        · rw [if_pos hc, if_pos hc]
          exact ⟨fun x hx => hx, fun a ha => by cases ha⟩
        · rw [if_neg hc, if_neg hc, List.drop_append_of_le_length (by omega)]
          obtain ⟨i1, i2⟩ := ih (r.drop (len - 1)) t (cnt + 1) (p + len) (by simp; omega)
          cases hr : cut (r.drop (len - 1)) (cnt + 1) (p + len) with
          | error x =>
            rw [i1 x hr]
            exact ⟨fun x hx => hx, fun a ha => by cases ha⟩
          | ok a =>
            rw [i2 a hr]
            refine ⟨fun x hx => (by cases hx), fun b hb => ?_⟩
            injection hb with hb; subst hb
            rw [show p + len + (r.drop (len - 1)).length = p + (c :: r).length by simp; omega,
              show cnt + 1 + a.length = cnt + (Tk.mk k p n s :: a).length by simp; omega]
            cases cut (10 :: t) (cnt + (Tk.mk k p n s :: a).length) (p + (c :: r).length) <;> rfl

/-- what is wrong stays wrong, at its place -/
theorem cut_line_error {l : List UInt8} {cnt p : Nat} {x : Nat × Nat} (t : List UInt8) (h : cut l cnt p = .error x) : cut (l ++ 10 :: t) cnt p = .error x := (cut_line_aux _ l t cnt p (Nat.le_refl _)).1 x h

theorem cut_line_ok {l : List UInt8} {cnt p : Nat} {a : List Tk} (t : List UInt8) (h : cut l cnt p = .ok a) :
    cut (l ++ 10 :: t) cnt p = (cut t (cnt + a.length) (p + l.length + 1)).map (a ++ ·) := by
  rw [(cut_line_aux _ l t cnt p (Nat.le_refl _)).2 a h, cut_skip (n := 1) _ _ (by unfold step; rw [if_pos (by decide)])]; rfl

end Go.Proofs.YtnjmokmlnpehdaaGreatDoor.Zm

namespace Go.Proofs.YtnjmokmlnpehdaaGreatDoor.Zm
set_option linter.unusedSimpArgs false
set_option linter.unusedVariables false
open Go.Lib (decDigits)

/-! ## Digits -/
theorem val_snoc (l : List UInt8) (c : UInt8) : val (l ++ [c]) = 10 * val l + (c.toNat - 48) := by simp [val]

theorem ofNat_toNat {k : Nat} (h : k < 10) : (UInt8.ofNat (48 + k)).toNat = 48 + k := by
  rw [UInt8.toNat_ofNat']; omega

theorem dec_eq (u : Nat) : decDigits u = if u < 10 then [UInt8.ofNat (48 + u)] else decDigits (u / 10) ++ [UInt8.ofNat (48 + u % 10)] := by
  rw [decDigits]; split <;> rfl

theorem val_dec (u : Nat) : val (decDigits u) = u := by
  induction u using Nat.strongRecOn with
  | _ u ih =>
    rw [dec_eq]
    by_cases h : u < 10
    · rw [if_pos h]; simp only [val, List.foldl]; rw [ofNat_toNat h]; omega
    · rw [if_neg h, val_snoc, ih _ (by omega), ofNat_toNat (by omega)]; omega

/-- digits alone, and the first is no 0, but 0 itself -/
def IsNum (l : List UInt8) : Prop := l ≠ [] ∧ (∀ c ∈ l, digit c = true) ∧ (∀ r, l = 48 :: r → r = [])

theorem digit_ofNat {k : Nat} (h : k < 10) : digit (UInt8.ofNat (48 + k)) = true := by
  unfold digit; rw [ofNat_toNat h]; simp; omega

theorem dec_num (u : Nat) : IsNum (decDigits u) ∧ (1 ≤ u → ∀ c r, decDigits u = c :: r → c ≠ 48) := by
  induction u using Nat.strongRecOn with
  | _ u ih =>
    rw [dec_eq]
    by_cases h : u < 10
    · rw [if_pos h]
      refine ⟨⟨by simp, fun c hc => ?_, fun r hr => by injection hr with _ hr; exact hr.symm⟩, fun hu c r hr hc => ?_⟩
      · rw [List.mem_singleton.1 hc]; exact digit_ofNat h
      · injection hr with hr _
        have := congrArg UInt8.toNat (hr.trans hc)
        rw [ofNat_toNat h] at this
        have : (48 : UInt8).toNat = 48 := by decide
        omega
    · rw [if_neg h]
      obtain ⟨⟨i1, i2, i3⟩, i4⟩ := ih (u / 10) (by omega)
      have i5 := i4 (by omega)
      obtain ⟨d, l, hd⟩ : ∃ d l, decDigits (u / 10) = d :: l := by
        cases hq : decDigits (u / 10) with
        | nil => exact absurd hq i1
        | cons d l => exact ⟨d, l, rfl⟩
      have i6 := i5 d l hd
      refine ⟨⟨by simp, fun c hc => ?_, fun r hr => ?_⟩, fun _ c r hr => ?_⟩
      · rcases List.mem_append.1 hc with hc | hc
        · exact i2 c hc
        · rw [List.mem_singleton.1 hc]; exact digit_ofNat (by omega)
      · rw [hd] at hr; injection hr with hr _; exact absurd hr i6
      · rw [hd] at hr; injection hr with hr _; rw [← hr]; exact i6

theorem digit_bd {c : UInt8} (h : digit c = true) : 48 ≤ c.toNat ∧ c.toNat ≤ 57 := by
  unfold digit at h; simpa using h

theorem val_lt (l : List UInt8) (h : ∀ c ∈ l, digit c = true) : val l < 10 ^ l.length := by
  induction hn : l.length generalizing l with
  | zero => rw [List.eq_nil_of_length_eq_zero hn]; decide
  | succ n ih =>
    obtain ⟨m, c, rfl⟩ : ∃ m c, l = m ++ [c] := ⟨l.dropLast, l.getLast (by intro e; simp [e] at hn), (List.dropLast_concat_getLast _).symm⟩
    have := ih m (fun c hc => h c (by simp [hc])) (by simpa using hn)
    have := digit_bd (h c (by simp))
    rw [val_snoc, Nat.pow_succ]; omega

theorem val_pos (l : List UInt8) (h : ∀ c ∈ l, digit c = true) (h0 : ∀ c r, l = c :: r → c ≠ 48) (hn : l ≠ []) : 1 ≤ val l := by
  induction hk : l.length generalizing l with
  | zero => exact absurd (List.eq_nil_of_length_eq_zero hk) hn
  | succ n ih =>
    obtain ⟨m, c, rfl⟩ : ∃ m c, l = m ++ [c] := ⟨l.dropLast, l.getLast (by intro e; simp [e] at hk), (List.dropLast_concat_getLast _).symm⟩
    rw [val_snoc]
    by_cases hm : m = []
    · subst hm
      have a := digit_bd (h c (by simp))
      have b := h0 c [] rfl
      have : c.toNat ≠ 48 := fun e => b (UInt8.toNat_inj.1 (e.trans (by decide)))
      omega
    · have := ih m (fun c hc => h c (by simp [hc])) (fun d r hr => h0 d (r ++ [c]) (by rw [hr]; rfl)) hm (by simpa using hk)
      omega

theorem dec_val (l : List UInt8) (hl : IsNum l) : decDigits (val l) = l := by
  obtain ⟨h1, h2, h3⟩ := hl
  induction hk : l.length generalizing l with
  | zero => exact absurd (List.eq_nil_of_length_eq_zero hk) h1
  | succ n ih =>
    obtain ⟨m, c, rfl⟩ : ∃ m c, l = m ++ [c] := ⟨l.dropLast, l.getLast (by intro e; simp [e] at hk), (List.dropLast_concat_getLast _).symm⟩
    have a := digit_bd (h2 c (by simp))
    have hc : UInt8.ofNat (48 + (c.toNat - 48)) = c := by rw [show 48 + (c.toNat - 48) = c.toNat by omega]; simp
    rw [dec_eq, val_snoc]
    by_cases hm : m = []
    · subst hm
      rw [if_pos (by simp [val]; omega)]
      rw [show 10 * val ([] : List UInt8) + (c.toNat - 48) = c.toNat - 48 by simp [val], hc]; rfl
    · have n0 : ∀ d r, m = d :: r → d ≠ 48 := by
        intro d r hr hd
        have := h3 (r ++ [c]) (by rw [hr, hd]; rfl)
        simp at this
      have hp := val_pos m (fun c hc => h2 c (by simp [hc])) n0 hm
      rw [if_neg (by omega), show (10 * val m + (c.toNat - 48)) / 10 = val m by omega, show (10 * val m + (c.toNat - 48)) % 10 = c.toNat - 48 by omega, hc,
        ih m hm (fun c hc => h2 c (by simp [hc])) (fun r hr => absurd rfl (n0 48 r hr)) (by simpa using hk)]

theorem dec_len {u k : Nat} (h : u < 10 ^ k) (hk : 1 ≤ k) : (decDigits u).length ≤ k := by
  induction k generalizing u with
  | zero => omega
  | succ k ih =>
    rw [dec_eq]
    by_cases hu : u < 10
    · rw [if_pos hu]; simp
    · rw [if_neg hu]
      rcases Nat.eq_zero_or_pos k with h0 | h0
      · subst h0; omega
      · have := ih (u := u / 10) (by rw [Nat.pow_succ] at h; omega) h0
        simp; omega

/-! ## Names, and texts of tokens -/
def name : List UInt8 → Bool
  | [] => false
  | c :: r => letter c && r.all inner && decide (r.length + 1 ≤ 16)

def text (t : Tk) : List UInt8 :=
  if t.k = 1 then t.s else if t.k = 2 then decDigits t.n else if t.k = 3 then [123] else if t.k = 4 then [125] else [59]

def Fine (t : Tk) : Prop :=
  (t.k = 1 ∧ t.n = 0 ∧ name t.s = true) ∨ (t.k = 2 ∧ t.s = [] ∧ t.n ≤ 999999999) ∨ ((t.k = 3 ∨ t.k = 4 ∨ t.k = 5) ∧ t.s = [] ∧ t.n = 0)

theorem takeWhile_all {p : UInt8 → Bool} (l m : List UInt8) (h : ∀ c ∈ l, p c = true) (hm : ∀ c r, m = c :: r → p c = false) : (l ++ m).takeWhile p = l := by
  induction l with
  | nil => cases m with
    | nil => rfl
    | cons c r => simp [List.takeWhile_cons, hm c r rfl]
  | cons c l ih => simp [List.takeWhile_cons, h c (by simp), ih (fun d hd => h d (by simp [hd]))]

theorem letter_facts {c : UInt8} (h : letter c = true) : blank c = false ∧ c.toNat ≠ 35 ∧ digit c = false := by
  unfold letter at h; unfold blank digit; simp at *; omega
theorem digit_facts {c : UInt8} (h : digit c = true) : blank c = false ∧ c.toNat ≠ 35 ∧ letter c = false := by
  unfold digit at h; unfold blank letter; simp at *; omega

theorem starts_not {m : List UInt8} (h : startsInner m = false) : ∀ c r, m = c :: r → inner c = false := by
  intro c r e; subst e; exact h
theorem not_digit {c : UInt8} (h : inner c = false) : digit c = false := by
  unfold inner at h; cases e : digit c
  · rfl
  · simp [e] at h

theorem step_name {c : UInt8} {r m : List UInt8} (h : name (c :: r) = true) (hm : startsInner m = false) : step c (r ++ m) = .tok 1 0 (c :: r) (r.length + 1) := by
  simp only [name, Bool.and_eq_true, decide_eq_true_eq, List.all_eq_true] at h
  obtain ⟨⟨h1, h2⟩, h3⟩ := h
  obtain ⟨f1, f2, f3⟩ := letter_facts h1
  unfold step
  rw [takeWhile_all r m h2 (starts_not hm), f1, h1]
  simp only [Bool.false_eq_true, if_false, if_neg f2, if_true]
  rw [if_neg (by omega)]

theorem step_num {c : UInt8} {r m : List UInt8} (h : IsNum (c :: r)) (h9 : r.length + 1 ≤ 9) (hm : startsInner m = false) : step c (r ++ m) = .tok 2 (val (c :: r)) [] (r.length + 1) := by
  obtain ⟨h1, h2, h3⟩ := h
  have hc := h2 c (by simp)
  obtain ⟨f1, f2, f3⟩ := digit_facts hc
  have e := takeWhile_all (p := digit) r m (fun d hd => h2 d (by simp [hd])) (fun d q hd => not_digit (starts_not hm d q hd))
  unfold step
  rw [e, f1, f3, hc]
  simp only [Bool.false_eq_true, if_false, if_neg f2, if_true]
  rw [if_neg (by omega), if_neg, if_neg]
  · simp [hm]
  · rintro ⟨g1, g2⟩
    have : c = 48 := UInt8.toNat_inj.1 (g1.trans (by decide))
    have := h3 r (by rw [this])
    simp [this] at g2

/-- a token's text, behind which nothing stands that goes on with it, is cut into it -/
theorem cut_text {t : Tk} {m : List UInt8} (cnt p : Nat) (ht : Fine t) (hm : t.k ≤ 2 → startsInner m = false) (hc : cnt ≠ 8192) :
    cut (text t ++ m) cnt p = (cut m (cnt + 1) (p + (text t).length)).map (⟨t.k, p, t.n, t.s⟩ :: ·) := by
  obtain ⟨k, a, n, s⟩ := t
  rcases ht with ⟨hk, hn, hs⟩ | ⟨hk, hs, hn⟩ | ⟨hk, hs, hn⟩
  · simp only at hk hn hs; subst hk; subst hn
    simp only [text, if_true]
    cases s with
    | nil => simp [name] at hs
    | cons c r =>
      rw [List.cons_append, cut_tok _ _ (step_name hs (hm (by simp))), if_neg hc]
      simp [Nat.add_assoc]
  · simp only at hk hn hs; subst hk; subst hs
    simp only [text, if_true, if_neg (show ¬ (2 : Nat) = 1 by decide)]
    have hl := dec_len (u := n) (k := 9) (by omega) (by omega)
    have hi := (dec_num n).1
    have hv := val_dec n
    cases hd : decDigits n with
    | nil => exact absurd hd hi.1
    | cons c r =>
      rw [hd] at hl hi hv
      rw [List.cons_append, cut_tok _ _ (step_num hi (by simpa using hl) (hm (by simp))), if_neg hc, hv]
      simp [Nat.add_assoc]
  · simp only at hk hn hs; subst hs; subst hn
    rcases hk with hk | hk | hk <;> subst hk
    · exact (cut_tok (c := 123) (r := m) (k := 3) (n := 0) (len := 1) (s := []) cnt p rfl).trans (by rw [if_neg hc]; rfl)
    · exact (cut_tok (c := 125) (r := m) (k := 4) (n := 0) (len := 1) (s := []) cnt p rfl).trans (by rw [if_neg hc]; rfl)
    · exact (cut_tok (c := 59) (r := m) (k := 5) (n := 0) (len := 1) (s := []) cnt p rfl).trans (by rw [if_neg hc]; rfl)

/-! ## Join -/
def join : List Tk → List UInt8
  | [] => []
  | [t] => text t
  | t :: u :: l => text t ++ 32 :: join (u :: l)

/-- a token but for its place -/
def bare (t : Tk) : Nat × Nat × List UInt8 := (t.k, t.n, t.s)

theorem cut_blank {c : UInt8} (h : blank c = true) (r : List UInt8) (cnt p : Nat) : cut (c :: r) cnt p = cut r cnt (p + 1) := by
  rw [cut_skip (n := 1) cnt p (by unfold step; rw [h]; rfl)]; rfl

/-- P8.4: what was put together is cut into the same tokens -/
theorem cut_join (l : List Tk) (hl : ∀ t ∈ l, Fine t) (cnt p : Nat) (hc : cnt + l.length ≤ 8192) : ∃ b, cut (join l) cnt p = .ok b ∧ b.map bare = l.map bare := by
  induction l generalizing cnt p with
  | nil => exact ⟨[], cut_nil _ _, rfl⟩
  | cons t l ih =>
    simp only [List.length_cons] at hc
    cases l with
    | nil =>
      have := cut_text (m := []) cnt p (hl t (by simp)) (fun _ => rfl) (by omega)
      rw [List.append_nil, cut_nil] at this
      exact ⟨_, this, rfl⟩
    | cons u l =>
      obtain ⟨b, hb, hm⟩ := ih (fun t ht => hl t (by simp [ht])) (cnt + 1) (p + (text t).length + 1) (by simp at hc ⊢; omega)
      refine ⟨⟨t.k, p, t.n, t.s⟩ :: b, ?_, ?_⟩
      · rw [join, cut_text cnt p (hl t (by simp)) (fun _ => rfl) (by omega), cut_blank (by decide), hb]; rfl
      · rw [List.map_cons, hm]; rfl

end Go.Proofs.YtnjmokmlnpehdaaGreatDoor.Zm

namespace Go.Proofs.YtnjmokmlnpehdaaGreatDoor.Zm
set_option linter.unusedSimpArgs false
set_option linter.unusedVariables false
open Go.Lib (decDigits)

theorem take_takeWhile {p : UInt8 → Bool} (r : List UInt8) : r.take (r.takeWhile p).length = r.takeWhile p := by
  induction r with
  | nil => rfl
  | cons c r ih => by_cases h : p c <;> simp [List.takeWhile_cons, h, ih]

theorem drop_takeWhile {p : UInt8 → Bool} (r : List UInt8) : ∀ c m, r.drop (r.takeWhile p).length = c :: m → p c = false := by
  induction r with
  | nil => intro c m h; simp at h
  | cons d r ih =>
    intro c m h
    by_cases hd : p d
    · simp [List.takeWhile_cons, hd] at h; exact ih c m h
    · simp [List.takeWhile_cons, hd] at h; obtain ⟨rfl, _⟩ := h; simpa using hd

theorem mem_takeWhile {p : UInt8 → Bool} (r : List UInt8) : ∀ c ∈ r.takeWhile p, p c = true := by
  induction r with
  | nil => intro c h; simp at h
  | cons d r ih =>
    intro c h
    by_cases hd : p d
    · simp [List.takeWhile_cons, hd] at h
      rcases h with rfl | h
      · exact hd
      · exact ih c h
    · simp [List.takeWhile_cons, hd] at h

theorem starts_drop (r : List UInt8) : startsInner (r.drop (r.takeWhile inner).length) = false := by
  cases h : r.drop (r.takeWhile inner).length with
  | nil => rfl
  | cons c m => exact drop_takeWhile r c m h

theorem num_of {c : UInt8} {r : List UInt8} (h : digit c = true) (h0 : ¬ (c.toNat = 48 ∧ 1 < (r.takeWhile digit).length + 1)) : IsNum (c :: r.takeWhile digit) := by
  refine ⟨by simp, fun d hd => ?_, fun q hq => ?_⟩
  · rcases List.mem_cons.1 hd with rfl | hd
    · exact h
    · exact mem_takeWhile r d hd
  · injection hq with h1 h2
    subst h1; subst h2
    by_cases e : (r.takeWhile digit).length = 0
    · exact List.eq_nil_of_length_eq_zero e
    · exact absurd ⟨by decide, by omega⟩ h0

/-- what a step tells as a token is one, its text is what it read, and it could not have read on -/
theorem step_tok {c : UInt8} {r : List UInt8} {k n len : Nat} {s : List UInt8} (p : Nat) (h : step c r = .tok k n s len) :
    Fine ⟨k, p, n, s⟩ ∧ text ⟨k, p, n, s⟩ = (c :: r).take len ∧ (k ≤ 2 → startsInner (r.drop (len - 1)) = false) := by
  unfold step at h
  by_cases h1 : blank c = true
  · rw [if_pos h1] at h; cases h
  rw [if_neg h1] at h
  by_cases h2 : c.toNat = 35
  · rw [if_pos h2] at h; cases h
  rw [if_neg h2] at h
  by_cases h3 : letter c = true
  · rw [if_pos h3] at h
    by_cases h4 : 16 < (r.takeWhile inner).length + 1
    · rw [if_pos h4] at h; cases h
    · rw [if_neg h4] at h
      injection h with e1 e2 e3 e4
      subst e1; subst e2; subst e3; subst e4
      refine ⟨.inl ⟨rfl, rfl, ?_⟩, ?_, fun _ => starts_drop r⟩
      · simp only [name, Bool.and_eq_true, decide_eq_true_eq, List.all_eq_true]
        exact ⟨⟨h3, fun d hd => mem_takeWhile r d hd⟩, by omega⟩
      · simp [text, take_takeWhile]
  rw [if_neg h3] at h
  by_cases h5 : digit c = true
  · rw [if_pos h5] at h
    by_cases h6 : 9 < (r.takeWhile digit).length + 1
    · rw [if_pos h6] at h; cases h
    rw [if_neg h6] at h
    by_cases h7 : c.toNat = 48 ∧ 1 < (r.takeWhile digit).length + 1
    · rw [if_pos h7] at h; cases h
    rw [if_neg h7] at h
    by_cases h8 : startsInner (r.drop (r.takeWhile digit).length) = true
    · rw [if_pos h8] at h; cases h
    rw [if_neg h8] at h
    injection h with e1 e2 e3 e4
    subst e1; subst e2; subst e3; subst e4
    have hi := num_of h5 h7
    have hb := val_lt _ hi.2.1
    have hp : 10 ^ (c :: r.takeWhile digit).length ≤ 10 ^ 9 := Nat.pow_le_pow_right (by decide) (by simp; omega)
    refine ⟨.inr (.inl ⟨rfl, rfl, by simp only; omega⟩), ?_, fun _ => by simpa using h8⟩
    simp only [text, if_true, if_neg (show ¬ (2 : Nat) = 1 by decide)]
    rw [dec_val _ hi]; simp [take_takeWhile]
  rw [if_neg h5] at h
  by_cases h6 : c.toNat = 123
  · rw [if_pos h6] at h
    injection h with e1 e2 e3 e4
    subst e1; subst e2; subst e3; subst e4
    obtain rfl : c = 123 := UInt8.toNat_inj.1 (h6.trans (by decide))
    exact ⟨.inr (.inr ⟨.inl rfl, rfl, rfl⟩), rfl, fun hk => absurd hk (by decide)⟩
  rw [if_neg h6] at h
  by_cases h7 : c.toNat = 125
  · rw [if_pos h7] at h
    injection h with e1 e2 e3 e4
    subst e1; subst e2; subst e3; subst e4
    obtain rfl : c = 125 := UInt8.toNat_inj.1 (h7.trans (by decide))
    exact ⟨.inr (.inr ⟨.inr (.inl rfl), rfl, rfl⟩), rfl, fun hk => absurd hk (by decide)⟩
  rw [if_neg h7] at h
  by_cases h8 : c.toNat = 59
  · rw [if_pos h8] at h
    injection h with e1 e2 e3 e4
    subst e1; subst e2; subst e3; subst e4
    obtain rfl : c = 59 := UInt8.toNat_inj.1 (h8.trans (by decide))
    exact ⟨.inr (.inr ⟨.inr (.inr rfl), rfl, rfl⟩), rfl, fun hk => absurd hk (by decide)⟩
  · rw [if_neg h8] at h; cases h

/-- what is passed over: a blank, or a remark to its line's end -/
theorem step_skip {c : UInt8} {r : List UInt8} {n : Nat} (h : step c r = .skip n) :
    (blank c = true ∧ n = 1) ∨ (c.toNat = 35 ∧ blank c = false ∧ n = (r.takeWhile onLine).length + 1) := by
  unfold step at h
  by_cases h1 : blank c = true
  · rw [if_pos h1] at h; injection h with h; exact .inl ⟨h1, h.symm⟩
  rw [if_neg h1] at h
  by_cases h2 : c.toNat = 35
  · rw [if_pos h2] at h; injection h with h; exact .inr ⟨h2, by simpa using h1, h.symm⟩
  rw [if_neg h2] at h
  repeat' split at h
  all_goals cases h

theorem line_end {l : List UInt8} (h : ∀ c m, l = c :: m → onLine c = false) : l = [] ∨ ∃ z, l = 10 :: z := by
  cases l with
  | nil => exact .inl rfl
  | cons c m =>
    have := h c m rfl
    unfold onLine at this
    simp at this
    obtain rfl : c = 10 := UInt8.toNat_inj.1 (this.trans (by decide))
    exact .inr ⟨m, rfl⟩

theorem skip_rest {c : UInt8} {r : List UInt8} {n : Nat} (h : step c r = .skip n) (hc : blank c = false) : r.drop (n - 1) = [] ∨ ∃ z, r.drop (n - 1) = 10 :: z := by
  rcases step_skip h with ⟨hb, _⟩ | ⟨_, _, rfl⟩
  · rw [hc] at hb; cases hb
  · exact line_end (fun d m hd => drop_takeWhile r d m hd)

/-- what is passed over is so ahead of another rest, too -/
theorem cut_skipped {c : UInt8} {r : List UInt8} {n : Nat} (h : step c r = .skip n) (x : List UInt8) (hx : blank c = false → x = [] ∨ ∃ z, x = 10 :: z) (cnt p : Nat) :
    cut ((c :: r).take n ++ x) cnt p = cut x cnt (p + n) := by
  rcases step_skip h with ⟨hb, rfl⟩ | ⟨h1, h2, rfl⟩
  · exact cut_blank hb x cnt p
  · rw [List.take_succ_cons, take_takeWhile, List.cons_append]
    have e : (r.takeWhile onLine ++ x).takeWhile onLine = r.takeWhile onLine := by
      refine takeWhile_all _ _ (fun d hd => mem_takeWhile r d hd) (fun d m hd => ?_)
      rcases hx h2 with rfl | ⟨z, rfl⟩
      · cases hd
      · injection hd with hd _; rw [← hd]; decide
    rw [cut_skip (n := (r.takeWhile onLine).length + 1) cnt p (by unfold step; rw [if_neg (by simp [h2]), if_pos h1, e])]
    rw [Nat.add_sub_cancel, List.drop_append_of_le_length (Nat.le_refl _), List.drop_length, List.nil_append]

/-- all tokens are tokens, there are not too many, and they begin behind p -/
theorem cut_tokens (m : Nat) : ∀ (l : List UInt8) (cnt p : Nat) (a : List Tk), l.length ≤ m → cut l cnt p = .ok a →
    (∀ t ∈ a, Fine t ∧ p ≤ t.a) ∧ a.length ≤ l.length ∧ (cnt ≤ 8192 → cnt + a.length ≤ 8192) := by
  induction m with
  | zero =>
    intro l cnt p a hl h
    rw [List.eq_nil_of_length_eq_zero (Nat.le_zero.1 hl), cut_nil] at h
    injection h with h; subst h; simp
  | succ m ih =>
    intro l cnt p a hl h
    cases l with
    | nil => rw [cut_nil] at h; injection h with h; subst h; simp
    | cons c r =>
      simp only [List.length_cons] at hl
      cases hs : step c r with
      | skip n =>
        rw [cut_skip _ _ hs] at h
        have hn := step_skip_le hs
        obtain ⟨i1, i2, i3⟩ := ih _ _ _ _ (by simp; omega) h
        simp at i2
        exact ⟨fun t ht => ⟨(i1 t ht).1, by have := (i1 t ht).2; omega⟩, by simp; omega, i3⟩
      | wrong => rw [cut_wrong _ _ hs] at h; cases h
      | err e o => rw [cut_err _ _ hs] at h; split at h <;> cases h
      | tok k n s len =>
        rw [cut_tok _ _ hs] at h
        have hn := step_tok_le hs
        split at h
        · cases h
        · rename_i hc
          cases hr : cut (r.drop (len - 1)) (cnt + 1) (p + len) with
          | error x => rw [hr] at h; cases h
          | ok b =>
            rw [hr] at h; injection h with h; subst h
            obtain ⟨i1, i2, i3⟩ := ih _ _ _ _ (by simp; omega) hr
            simp at i2
            refine ⟨fun t ht => ?_, by simp; omega, fun hc' => by have := i3 (by omega); simp; omega⟩
            rcases List.mem_cons.1 ht with rfl | ht
            · exact ⟨(step_tok p hs).1, Nat.le_refl _⟩
            · exact ⟨(i1 t ht).1, by have := (i1 t ht).2; omega⟩

/-- places, and how many tokens stand ahead, change nothing else -/
theorem cut_shift (m : Nat) : ∀ (l : List UInt8) (cnt p cnt' p' : Nat) (a : List Tk), l.length ≤ m → cut l cnt p = .ok a → cnt' + a.length ≤ 8192 →
    ∃ b, cut l cnt' p' = .ok b ∧ b.map bare = a.map bare := by
  induction m with
  | zero =>
    intro l cnt p cnt' p' a hl h _
    have e := List.eq_nil_of_length_eq_zero (Nat.le_zero.1 hl)
    rw [e, cut_nil] at h
    injection h with h; subst h; exact ⟨[], by rw [e, cut_nil], rfl⟩
  | succ m ih =>
    intro l cnt p cnt' p' a hl h ha
    cases l with
    | nil => rw [cut_nil] at h; injection h with h; subst h; exact ⟨[], by rw [cut_nil], rfl⟩
    | cons c r =>
      simp only [List.length_cons] at hl
      cases hs : step c r with
      | skip n =>
        rw [cut_skip _ _ hs] at h ⊢
        have hn := step_skip_le hs
        exact ih _ _ _ _ _ _ (by simp; omega) h ha
      | wrong => rw [cut_wrong _ _ hs] at h; cases h
      | err e o => rw [cut_err _ _ hs] at h; split at h <;> cases h
      | tok k n s len =>
        rw [cut_tok _ _ hs] at h ⊢
        have hn := step_tok_le hs
        split at h
        · cases h
        · cases hr : cut (r.drop (len - 1)) (cnt + 1) (p + len) with
          | error x => rw [hr] at h; cases h
          | ok b =>
            rw [hr] at h; injection h with h; subst h
            simp only [List.length_cons] at ha
            obtain ⟨b', hb, hm⟩ := ih _ _ _ (cnt' + 1) (p' + len) _ (by simp; omega) hr (by omega)
            rw [if_neg (by omega), hb]
            exact ⟨_, rfl, by rw [List.map_cons, List.map_cons, hm]; rfl⟩

/-! ## Ahead of a token -/
theorem cut_before (m : Nat) : ∀ (l : List UInt8) (cnt p : Nat) (a1 : List Tk) (t : Tk) (a2 : List Tk), l.length ≤ m → cut l cnt p = .ok (a1 ++ t :: a2) →
    ∃ j, j < l.length ∧ t.a = p + j ∧ (∀ x, cut (l.take j ++ 32 :: x) cnt p = (cut x (cnt + a1.length) (p + j + 1)).map (a1 ++ ·)) ∧ cut (l.drop j) (cnt + a1.length) (p + j) = .ok (t :: a2) := by
  induction m with
  | zero =>
    intro l cnt p a1 t a2 hl h
    rw [List.eq_nil_of_length_eq_zero (Nat.le_zero.1 hl), cut_nil] at h
    injection h with h; simp at h
  | succ m ih =>
    intro l cnt p a1 t a2 hl h
    cases l with
    | nil => rw [cut_nil] at h; injection h with h; simp at h
    | cons c r =>
      simp only [List.length_cons] at hl
      cases hs : step c r with
      | skip n =>
        rw [cut_skip _ _ hs] at h
        have hn := step_skip_le hs
        obtain ⟨j, hj, ht, hx, hd⟩ := ih _ _ _ _ _ _ (by simp; omega) h
        simp at hj
        have hdrop : (c :: r).drop (n + j) = (r.drop (n - 1)).drop j := by
          obtain ⟨n, rfl⟩ : ∃ q, n = q + 1 := ⟨n - 1, by omega⟩
          rw [List.drop_drop, show n + 1 + j = (n + 1 - 1 + j) + 1 by omega, List.drop_succ_cons]
        have htake : (c :: r).take (n + j) = (c :: r).take n ++ (r.drop (n - 1)).take j := by
          obtain ⟨n, rfl⟩ : ∃ q, n = q + 1 := ⟨n - 1, by omega⟩
          rw [List.take_add]; simp
        have hj1 : blank c = false → ∃ z, (r.drop (n - 1)).take j = 10 :: z := by
          intro hb
          rcases skip_rest hs hb with e | ⟨z, e⟩
          · rw [e, cut_nil] at h; injection h with h; simp at h
          · rw [e]
            cases j with
            | zero =>
              exfalso
              rw [e, cut_blank (by decide)] at h
              have := (cut_tokens _ _ _ _ _ (Nat.le_refl _) h).1 t (by simp)
              omega
            | succ j => exact ⟨z.take j, rfl⟩
        refine ⟨n + j, by simp; omega, by omega, fun x => ?_, ?_⟩
        · rw [htake, List.append_assoc, cut_skipped hs _ (fun hb => by obtain ⟨z, e⟩ := hj1 hb; exact .inr ⟨z ++ 32 :: x, by rw [e]; rfl⟩), hx x, show p + n + j + 1 = p + (n + j) + 1 by omega]
        · rw [hdrop, show p + (n + j) = p + n + j by omega]; exact hd
      | wrong => rw [cut_wrong _ _ hs] at h; cases h
      | err e o => rw [cut_err _ _ hs] at h; split at h <;> cases h
      | tok k n s len =>
        have h' := h
        rw [cut_tok _ _ hs] at h
        have hn := step_tok_le hs
        obtain ⟨g1, g2, g3⟩ := step_tok p hs
        split at h
        · cases h
        · rename_i hc
          cases hr : cut (r.drop (len - 1)) (cnt + 1) (p + len) with
          | error x => rw [hr] at h; cases h
          | ok b =>
            rw [hr] at h; injection h with h
            cases a1 with
            | nil =>
              injection h with h1 h2
              subst h1
              refine ⟨0, by simp, rfl, fun x => ?_, h'⟩
              rw [List.take_zero, List.nil_append, cut_blank (by decide)]
              simp only [List.length_nil, Nat.add_zero, List.nil_append]
              cases cut x cnt (p + 1) <;> rfl
            | cons t0 a1 =>
              injection h with h1 h2
              subst h1
              rw [h2] at hr
              obtain ⟨j, hj, ht, hx, hd⟩ := ih _ _ _ _ _ _ (by simp; omega) hr
              simp at hj
              have hdrop : (c :: r).drop (len + j) = (r.drop (len - 1)).drop j := by
                obtain ⟨len, rfl⟩ : ∃ q, len = q + 1 := ⟨len - 1, by omega⟩
                rw [List.drop_drop, show len + 1 + j = (len + 1 - 1 + j) + 1 by omega, List.drop_succ_cons]
              have htake : (c :: r).take (len + j) = (c :: r).take len ++ (r.drop (len - 1)).take j := by
                obtain ⟨len, rfl⟩ : ∃ q, len = q + 1 := ⟨len - 1, by omega⟩
                rw [List.take_add]; simp
              have hlen : (text ⟨k, p, n, s⟩).length = len := by rw [g2, List.length_take]; simp; omega
              refine ⟨len + j, by simp; omega, by omega, fun x => ?_, ?_⟩
              · rw [htake, List.append_assoc, ← g2, cut_text cnt p g1 (fun hk => ?_) hc, hlen, hx x]
                · rw [show cnt + 1 + a1.length = cnt + (a1.length + 1) by omega, show p + len + j + 1 = p + (len + j) + 1 by omega]
                  simp only [List.length_cons]
                  cases cut x (cnt + (a1.length + 1)) (p + (len + j) + 1) <;> rfl
                · have := g3 hk
                  cases hq : r.drop (len - 1) with
                  | nil => simp [startsInner]; decide
                  | cons d q =>
                    rw [hq] at this
                    cases j with
                    | zero => exact (by decide : inner 32 = false)
                    | succ j => exact this
              · rw [hdrop, show cnt + (Tk.mk k p n s :: a1).length = cnt + 1 + a1.length by simp; omega, show p + (len + j) = p + len + j by omega]; exact hd

end Go.Proofs.YtnjmokmlnpehdaaGreatDoor.Zm

namespace Go.Proofs.YtnjmokmlnpehdaaGreatDoor.Zm
set_option linter.unusedSimpArgs false
set_option linter.unusedVariables false
open Go.Lib (decDigits)

theorem drop_more {c : UInt8} {r : List UInt8} {n : Nat} (j : Nat) (hn : 1 ≤ n) : (c :: r).drop (n + j) = (r.drop (n - 1)).drop j := by
  obtain ⟨n, rfl⟩ : ∃ q, n = q + 1 := ⟨n - 1, by omega⟩
  rw [List.drop_drop, show n + 1 + j = (n + 1 - 1 + j) + 1 by omega, List.drop_succ_cons]

theorem take_more {c : UInt8} {r : List UInt8} {n : Nat} (j : Nat) (hn : 1 ≤ n) : (c :: r).take (n + j) = (c :: r).take n ++ (r.drop (n - 1)).take j := by
  obtain ⟨n, rfl⟩ : ∃ q, n = q + 1 := ⟨n - 1, by omega⟩
  rw [List.take_add]; simp

theorem step_err {c : UInt8} {r : List UInt8} {e o : Nat} (h : step c r = .err e o) :
    (e = 6 ∨ e = 5) ∧ (o = 0 ∨ ∃ k n s, step c (r.take (o - 1)) = .tok k n s o ∧ o - 1 < r.length ∧ 1 ≤ o) := by
  have hd := step_err_le h
  unfold step at h
  by_cases h1 : blank c = true
  · rw [if_pos h1] at h; cases h
  rw [if_neg h1] at h
  by_cases h2 : c.toNat = 35
  · rw [if_pos h2] at h; cases h
  rw [if_neg h2] at h
  by_cases h3 : letter c = true
  · rw [if_pos h3] at h
    by_cases h4 : 16 < (r.takeWhile inner).length + 1
    · rw [if_pos h4] at h; injection h with e1 e2; exact ⟨.inl e1.symm, .inl e2.symm⟩
    · rw [if_neg h4] at h; cases h
  rw [if_neg h3] at h
  by_cases h5 : digit c = true
  · rw [if_pos h5] at h
    by_cases h6 : 9 < (r.takeWhile digit).length + 1
    · rw [if_pos h6] at h; injection h with e1 e2; exact ⟨.inl e1.symm, .inl e2.symm⟩
    rw [if_neg h6] at h
    by_cases h7 : c.toNat = 48 ∧ 1 < (r.takeWhile digit).length + 1
    · rw [if_pos h7] at h; injection h with e1 e2; exact ⟨.inr e1.symm, .inl e2.symm⟩
    rw [if_neg h7] at h
    by_cases h8 : startsInner (r.drop (r.takeWhile digit).length) = true
    · rw [if_pos h8] at h; injection h with e1 e2
      refine ⟨.inr e1.symm, .inr ?_⟩
      subst e2
      have hi := num_of h5 h7
      refine ⟨2, val (c :: r.takeWhile digit), [], ?_, by omega, by omega⟩
      rw [Nat.add_sub_cancel, take_takeWhile]
      have := step_num (m := []) hi (by omega) rfl
      rw [List.append_nil] at this; exact this
    · rw [if_neg h8] at h; cases h
  rw [if_neg h5] at h
  repeat' split at h
  all_goals cases h

/-- of what stands ahead of the place that is told, nothing is wrong -/
theorem cut_ahead (m : Nat) : ∀ (l : List UInt8) (cnt p e q : Nat), l.length ≤ m → cut l cnt p = .error (e, q) →
    ∃ j, j < l.length ∧ q = p + j ∧ (e = 5 ∨ e = 6) ∧ ∃ a, cut (l.take j) cnt p = .ok a := by
  induction m with
  | zero =>
    intro l cnt p e q hl h
    rw [List.eq_nil_of_length_eq_zero (Nat.le_zero.1 hl), cut_nil] at h; cases h
  | succ m ih =>
    intro l cnt p e q hl h
    cases l with
    | nil => rw [cut_nil] at h; cases h
    | cons c r =>
      simp only [List.length_cons] at hl
      cases hs : step c r with
      | skip n =>
        rw [cut_skip _ _ hs] at h
        have hn := step_skip_le hs
        obtain ⟨j, hj, hq, he, a, ha⟩ := ih _ _ _ _ _ (by simp; omega) h
        simp at hj
        refine ⟨n + j, by simp; omega, by omega, he, a, ?_⟩
        rw [take_more j hn.1, cut_skipped hs _ (fun hb => ?_)]
        · exact ha
        · rcases skip_rest hs hb with e | ⟨z, e⟩
          · rw [e]; simp
          · rw [e]; cases j with
            | zero => exact .inl rfl
            | succ j => exact .inr ⟨z.take j, rfl⟩
      | wrong =>
        rw [cut_wrong _ _ hs] at h; injection h with h; injection h with h1 h2
        exact ⟨0, by simp, h2.symm, .inl h1.symm, [], cut_nil _ _⟩
      | err e' o =>
        rw [cut_err _ _ hs] at h
        split at h
        · injection h with h; injection h with h1 h2
          exact ⟨0, by simp, h2.symm, .inr h1.symm, [], cut_nil _ _⟩
        · rename_i hc
          injection h with h; injection h with h1 h2
          obtain ⟨g1, g2⟩ := step_err hs
          subst h1
          refine ⟨o, by have := step_err_le hs; simp; omega, h2.symm, g1.symm, ?_⟩
          rcases g2 with rfl | ⟨k, n, s, g2, g3, g4⟩
          · exact ⟨[], cut_nil _ _⟩
          · obtain ⟨o, rfl⟩ : ∃ q, o = q + 1 := ⟨o - 1, by omega⟩
            rw [List.take_succ_cons]
            rw [Nat.add_sub_cancel] at g2
            rw [cut_tok _ _ g2, if_neg hc]
            have : (r.take o).drop (o + 1 - 1) = [] := by simp
            rw [this, cut_nil]
            exact ⟨_, rfl⟩
      | tok k n s len =>
        rw [cut_tok _ _ hs] at h
        have hn := step_tok_le hs
        obtain ⟨g1, g2, g3⟩ := step_tok p hs
        split at h
        · injection h with h; injection h with h1 h2
          exact ⟨0, by simp, h2.symm, .inr h1.symm, [], cut_nil _ _⟩
        · rename_i hc
          cases hr : cut (r.drop (len - 1)) (cnt + 1) (p + len) with
          | ok b => rw [hr] at h; cases h
          | error x =>
            rw [hr] at h; injection h with h; subst h
            obtain ⟨j, hj, hq, he, a, ha⟩ := ih _ _ _ _ _ (by simp; omega) hr
            simp at hj
            have hlen : (text ⟨k, p, n, s⟩).length = len := by rw [g2, List.length_take]; simp; omega
            refine ⟨len + j, by simp; omega, by omega, he, ⟨k, p, n, s⟩ :: a, ?_⟩
            rw [take_more j hn.1, ← g2, cut_text cnt p g1 (fun hk => ?_) hc, hlen, ha]
            · rfl
            · have := g3 hk
              cases hq : r.drop (len - 1) with
              | nil => simp [startsInner]
              | cons d q =>
                rw [hq] at this
                cases j with
                | zero => rfl
                | succ j => exact this

/-! ## Between tokens -/
def freeB : Bool → List UInt8 → Bool
  | _, [] => true
  | x, c :: r =>
    if c.toNat = 10 then freeB false r
    else if c.toNat = 35 then freeB true r
    else if x = false ∧ c.toNat ≠ 32 ∧ c.toNat ≠ 9 then false
    else freeB x r

theorem free_line (w x : List UInt8) (h : ∀ c ∈ w, onLine c = true) : freeB true (w ++ x) = freeB true x := by
  induction w with
  | nil => rfl
  | cons c w ih =>
    have hc := h c (by simp)
    unfold onLine at hc
    simp at hc
    rw [List.cons_append, freeB, if_neg hc]
    by_cases e : c.toNat = 35
    · rw [if_pos e]; exact ih (fun d hd => h d (by simp [hd]))
    · rw [if_neg e, if_neg (by simp)]; exact ih (fun d hd => h d (by simp [hd]))

theorem free_end (x : List UInt8) (h : x = [] ∨ ∃ z, x = 10 :: z) : freeB true x = freeB false x := by
  rcases h with rfl | ⟨z, rfl⟩
  · rfl
  · rfl

theorem free_skip {c : UInt8} {r : List UInt8} {n : Nat} (h : step c r = .skip n) (x : List UInt8) (hx : blank c = false → x = [] ∨ ∃ z, x = 10 :: z) :
    freeB false ((c :: r).take n ++ x) = freeB false x := by
  rcases step_skip h with ⟨hb, rfl⟩ | ⟨h1, h2, rfl⟩
  · show freeB false (c :: x) = freeB false x
    unfold blank at hb
    simp at hb
    rw [freeB]
    by_cases e : c.toNat = 10
    · rw [if_pos e]
    · rw [if_neg e, if_neg (by omega), if_neg (by omega)]
  · rw [List.take_succ_cons, take_takeWhile, List.cons_append, freeB, if_neg (by omega), if_pos h1, free_line _ _ (fun d hd => mem_takeWhile r d hd), free_end _ (hx h2)]

/-- tokens stand in order, each at its place, and between them is nothing else -/
def Places : List UInt8 → Nat → List Tk → Prop
  | l, _, [] => freeB false l = true
  | l, e, t :: a => ∃ j, t.a = e + j ∧ freeB false (l.take j) = true ∧ (text t).length + j ≤ l.length ∧ 1 ≤ (text t).length ∧ (l.drop j).take (text t).length = text t ∧ Places (l.drop (j + (text t).length)) (e + j + (text t).length) a

theorem cut_places (m : Nat) : ∀ (l : List UInt8) (cnt p : Nat) (a : List Tk), l.length ≤ m → cut l cnt p = .ok a → Places l p a := by
  induction m with
  | zero =>
    intro l cnt p a hl h
    have e := List.eq_nil_of_length_eq_zero (Nat.le_zero.1 hl)
    rw [e, cut_nil] at h
    injection h with h; subst h; rw [e]; exact rfl
  | succ m ih =>
    intro l cnt p a hl h
    cases l with
    | nil => rw [cut_nil] at h; injection h with h; subst h; exact rfl
    | cons c r =>
      simp only [List.length_cons] at hl
      cases hs : step c r with
      | skip n =>
        rw [cut_skip _ _ hs] at h
        have hn := step_skip_le hs
        have i := ih _ _ _ _ (by simp; omega) h
        have hall : (c :: r) = (c :: r).take n ++ r.drop (n - 1) := by
          have e1 := List.take_append_drop n (c :: r)
          have e2 := drop_more (c := c) (r := r) (n := n) 0 hn.1
          rw [Nat.add_zero, List.drop_zero] at e2
          rw [e2] at e1; exact e1.symm
        cases a with
        | nil =>
          show freeB false (c :: r) = true
          rw [hall, free_skip hs _ (fun hb => skip_rest hs hb)]; exact i
        | cons t a =>
          obtain ⟨j, i1, i2, i3, i4, i5, i6⟩ := i
          simp at i3
          refine ⟨n + j, by omega, ?_, by simp; omega, i4, ?_, ?_⟩
          · rw [take_more j hn.1, free_skip hs _ (fun hb => ?_)]
            · exact i2
            · rcases skip_rest hs hb with e | ⟨z, e⟩
              · rw [e]; simp
              · rw [e]; cases j with
                | zero => exact .inl rfl
                | succ j => exact .inr ⟨z.take j, rfl⟩
          · rw [drop_more j hn.1]; exact i5
          · rw [show n + j + (text t).length = n + (j + (text t).length) by omega, drop_more _ hn.1, show p + (n + j) + (text t).length = p + n + j + (text t).length by omega]; exact i6
      | wrong => rw [cut_wrong _ _ hs] at h; cases h
      | err e o => rw [cut_err _ _ hs] at h; split at h <;> cases h
      | tok k n s len =>
        rw [cut_tok _ _ hs] at h
        have hn := step_tok_le hs
        obtain ⟨g1, g2, g3⟩ := step_tok p hs
        split at h
        · cases h
        · cases hr : cut (r.drop (len - 1)) (cnt + 1) (p + len) with
          | error x => rw [hr] at h; cases h
          | ok b =>
            rw [hr] at h; injection h with h; subst h
            have i := ih _ _ _ _ (by simp; omega) hr
            have hlen : (text ⟨k, p, n, s⟩).length = len := by rw [g2, List.length_take]; simp; omega
            refine ⟨0, rfl, rfl, ?_, ?_, ?_, ?_⟩
            · rw [hlen]; simp; omega
            · rw [hlen]; exact hn.1
            · rw [hlen, g2]; rfl
            · rw [hlen, Nat.zero_add, show len = len + 0 by rfl, drop_more 0 hn.1]; exact i

/-! ## Names -/
theorem name_cut (l : List UInt8) : name l = true ↔ cut l 0 0 = .ok [⟨1, 0, 0, l⟩] := by
  constructor
  · intro h
    have := cut_text (t := ⟨1, 0, 0, l⟩) (m := []) 0 0 (.inl ⟨rfl, rfl, h⟩) (fun _ => rfl) (by decide)
    rw [List.append_nil, cut_nil] at this; exact this
  · intro h
    have := ((cut_tokens _ _ _ _ _ (Nat.le_refl _) h).1 _ (List.mem_singleton.2 rfl)).1
    rcases this with ⟨_, _, h⟩ | ⟨h, _⟩ | ⟨h, _⟩
    · exact h
    · simp at h
    · simp at h

theorem text_len {t : Tk} (h : Fine t) : (text t).length ≤ 16 := by
  obtain ⟨k, a, n, s⟩ := t
  rcases h with ⟨hk, hn, hs⟩ | ⟨hk, hs, hn⟩ | ⟨hk, hs, hn⟩
  · simp only at hk hs; subst hk
    simp only [text, if_true]
    cases s with
    | nil => simp
    | cons c r => simp only [name, Bool.and_eq_true, decide_eq_true_eq] at hs; simp; omega
  · simp only at hk hn; subst hk
    have := dec_len (u := n) (k := 9) (by omega) (by decide)
    simp only [text, if_true, if_neg (show ¬ (2 : Nat) = 1 by decide)]; omega
  · simp only at hk; rcases hk with hk | hk | hk <;> subst hk <;> simp [text]

theorem join_len (l : List Tk) (h : ∀ t ∈ l, Fine t) : (join l).length ≤ 17 * l.length := by
  induction l with
  | nil => decide
  | cons t l ih =>
    have a := text_len (h t (by simp))
    cases l with
    | nil => simp [join]; omega
    | cons u l =>
      have := ih (fun x hx => h x (by simp [hx]))
      simp [join] at this ⊢; omega

end Go.Proofs.YtnjmokmlnpehdaaGreatDoor.Zm

namespace Go.Proofs.YtnjmokmlnpehdaaGreatDoor.Zm
set_option linter.unusedSimpArgs false
set_option linter.unusedVariables false
open Go.Lib (decDigits)

/-! ## Passing over -/
theorem tot_blanks (k : Nat) : ∀ (l : List UInt8) (p : Nat) (acc : List Tk), (l.takeWhile blank).length = k → tot l p acc = tot (l.drop k) (p + k) acc := by
  induction k with
  | zero => intro l p acc _; rfl
  | succ k ih =>
    intro l p acc h
    cases l with
    | nil => simp at h
    | cons c r =>
      by_cases hc : blank c = true
      · rw [List.takeWhile_cons, if_pos hc] at h
        simp only [List.length_cons, Nat.add_right_cancel_iff] at h
        rw [tot_skip (n := 1) p acc (by unfold step; rw [if_pos hc])]
        show tot r (p + 1) acc = _
        rw [ih r (p + 1) acc h, List.drop_succ_cons]
        congr 1; omega
      · rw [List.takeWhile_cons, if_neg hc] at h; simp at h

theorem tot_remark {c : UInt8} {r : List UInt8} (p : Nat) (acc : List Tk) (h : c.toNat = 35) : tot (c :: r) p acc = tot ((c :: r).drop ((c :: r).takeWhile onLine).length) (p + ((c :: r).takeWhile onLine).length) acc := by
  have hc : onLine c = true := by unfold onLine; rw [h]; rfl
  have hb : blank c = false := by unfold blank; rw [h]; rfl
  rw [List.takeWhile_cons, if_pos hc]
  rw [tot_skip (n := (r.takeWhile onLine).length + 1) p acc (by unfold step; rw [hb, if_neg (by simp), if_pos h])]
  simp

/-- what a first byte says of a token's kind: 0, none -/
def kindB (c : UInt8) : Nat := if letter c then 1 else if digit c then 2 else if c.toNat = 123 then 3 else if c.toNat = 125 then 4 else if c.toNat = 59 then 5 else 0

theorem kindB_cases (c : UInt8) : (kindB c = 1 ∧ letter c = true) ∨ (kindB c = 2 ∧ letter c = false ∧ digit c = true) ∨ (kindB c = 3 ∧ c.toNat = 123) ∨ (kindB c = 4 ∧ c.toNat = 125) ∨ (kindB c = 5 ∧ c.toNat = 59) ∨
    (kindB c = 0 ∧ letter c = false ∧ digit c = false ∧ c.toNat ≠ 123 ∧ c.toNat ≠ 125 ∧ c.toNat ≠ 59) := by
  unfold kindB
  cases h1 : letter c
  · cases h2 : digit c
    · by_cases h3 : c.toNat = 123
      · simp [h3]
      · by_cases h4 : c.toNat = 125
        · simp [h4]
        · by_cases h5 : c.toNat = 59
          · simp [h5]
          · simp [h3, h4, h5]
    · simp
  · simp

section
variable {c : UInt8} {r : List UInt8}
theorem step_wrong (hb : blank c = false) (h35 : c.toNat ≠ 35) (hk : kindB c = 0) : step c r = .wrong := by
  rcases kindB_cases c with ⟨h, _⟩ | ⟨h, _⟩ | ⟨h, _⟩ | ⟨h, _⟩ | ⟨h, _⟩ | ⟨_, h1, h2, h3, h4, h5⟩
  all_goals first | (rw [hk] at h; cases h) | skip
  unfold step; simp [hb, h35, h1, h2, h3, h4, h5]
theorem step_not_skip (hb : blank c = false) (h35 : c.toNat ≠ 35) (n : Nat) : step c r ≠ .skip n := by
  intro h
  rcases step_skip h with ⟨h, _⟩ | ⟨h, _⟩
  · rw [hb] at h; cases h
  · exact h35 h
theorem step_not_wrong (hk : kindB c ≠ 0) : step c r ≠ .wrong := by
  intro h
  unfold step at h
  unfold kindB at hk
  repeat' split at h
  all_goals first | (cases h; done) | simp_all
theorem step_letter (h1 : letter c = true) : step c r = if 16 < (r.takeWhile inner).length + 1 then .err 6 0 else .tok 1 0 (c :: r.takeWhile inner) ((r.takeWhile inner).length + 1) := by
  obtain ⟨f1, f2, f3⟩ := letter_facts h1
  unfold step; simp [f1, f2, h1]
theorem step_digit (h1 : digit c = true) : step c r = if 9 < (r.takeWhile digit).length + 1 then .err 6 0
    else if c.toNat = 48 ∧ 1 < (r.takeWhile digit).length + 1 then .err 5 0
    else if startsInner (r.drop (r.takeWhile digit).length) then .err 5 ((r.takeWhile digit).length + 1)
    else .tok 2 (val (c :: r.takeWhile digit)) [] ((r.takeWhile digit).length + 1) := by
  obtain ⟨f1, f2, f3⟩ := digit_facts h1
  unfold step; rw [f1, f3, h1]; simp only [Bool.false_eq_true, if_false, if_neg f2, if_true]
theorem step_sign (h3 : 3 ≤ kindB c) : step c r = .tok (kindB c) 0 [] 1 := by
  rcases kindB_cases c with ⟨h, _⟩ | ⟨h, _⟩ | ⟨h, e⟩ | ⟨h, e⟩ | ⟨h, e⟩ | ⟨h, _⟩
  · omega
  · omega
  · obtain rfl : c = 123 := UInt8.toNat_inj.1 (e.trans (by decide)); rfl
  · obtain rfl : c = 125 := UInt8.toNat_inj.1 (e.trans (by decide)); rfl
  · obtain rfl : c = 59 := UInt8.toNat_inj.1 (e.trans (by decide)); rfl
  · omega
theorem kindB_letter (h : letter c = true) : kindB c = 1 := by unfold kindB; rw [if_pos h]
theorem kindB_digit (h : digit c = true) : kindB c = 2 := by unfold kindB; rw [if_neg (by rw [(digit_facts h).2.2]; decide), if_pos h]
theorem kind1 (h : kindB c = 1) : letter c = true := by rcases kindB_cases c with ⟨_, x⟩ | ⟨g, _⟩ | ⟨g, _⟩ | ⟨g, _⟩ | ⟨g, _⟩ | ⟨g, _⟩ <;> first | exact x | (rw [h] at g; cases g)
theorem kind2 (h : kindB c = 2) : digit c = true := by rcases kindB_cases c with ⟨g, _⟩ | ⟨_, _, x⟩ | ⟨g, _⟩ | ⟨g, _⟩ | ⟨g, _⟩ | ⟨g, _⟩ <;> first | exact x | (rw [h] at g; cases g)
end

/-! ## Put together one by one -/
theorem join_snoc (l : List Tk) (t : Tk) : join (l ++ [t]) = if l = [] then text t else join l ++ 32 :: text t := by
  induction l with
  | nil => rfl
  | cons u l ih =>
    cases l with
    | nil => rfl
    | cons v l =>
      rw [if_neg (by simp)] at ih ⊢
      show text u ++ 32 :: join (v :: l ++ [t]) = (text u ++ 32 :: join (v :: l)) ++ 32 :: text t
      rw [ih]; simp

end Go.Proofs.YtnjmokmlnpehdaaGreatDoor.Zm

namespace Go.Proofs.YtnjmokmlnpehdaaGreatDoor.Am
set_option linter.unusedSimpArgs false
set_option linter.unusedVariables false
open Go.Proofs.YtnjmokmlnpehdaaGreatDoor.Cm Go.Proofs.YtnjmokmlnpehdaaGreatDoor.Em
open Go.Proofs.YtnjmokmlnpehdaaGreatDoor.Zm (name)

/-- a calendar's parts: name, kind, weekday, month, shift, shape, pattern, cycle, extra, first, last, policy -/
structure CalZ where
  nm : ByteArray
  k : Int
  d : Int
  m : Int
  s : Int
  sh : Int
  p0 : Int
  p1 : Int
  p2 : Int
  cy : Int
  ex : Int
  fi : Int
  la : Int
  po : Int

/-- how many periods a year has that is cut as it may be -/
def per (c : CalZ) : Int := if c.sh = 2 then 13 else if c.sh = 3 then 52 / c.cy else 12
def CutOk (c : CalZ) : Prop :=
  (c.sh = 1 ∧ ((c.p0 = 5 ∧ c.p1 = 4 ∧ c.p2 = 4) ∨ (c.p0 = 4 ∧ c.p1 = 5 ∧ c.p2 = 4) ∨ (c.p0 = 4 ∧ c.p1 = 4 ∧ c.p2 = 5)) ∧ c.cy = 0 ∧ 1 ≤ c.ex ∧ c.ex ≤ 12) ∨
  (c.sh = 2 ∧ c.p0 = 0 ∧ c.p1 = 0 ∧ c.p2 = 0 ∧ c.cy = 0 ∧ 1 ≤ c.ex ∧ c.ex ≤ 13) ∨
  (c.sh = 3 ∧ c.p0 = 0 ∧ c.p1 = 0 ∧ c.p2 = 0 ∧ ((c.cy = 1 ∧ 1 ≤ c.ex ∧ c.ex ≤ 52) ∨ (c.cy = 2 ∧ 1 ≤ c.ex ∧ c.ex ≤ 26) ∨ (c.cy = 4 ∧ 1 ≤ c.ex ∧ c.ex ≤ 13)))
def KindOk (c : CalZ) : Prop :=
  ((c.k = 1 ∨ c.k = 2) ∧ 1 ≤ c.d ∧ c.d ≤ 7 ∧ 1 ≤ c.m ∧ c.m ≤ 12 ∧ 0 ≤ c.s ∧ c.s ≤ 1 ∧ CutOk c) ∨
  (c.k = 3 ∧ c.d = 6 ∧ c.m = 1 ∧ c.s = 1 ∧ c.sh = 1 ∧ c.p0 = 4 ∧ c.p1 = 5 ∧ c.p2 = 4 ∧ c.cy = 0 ∧ c.ex = 12) ∨
  (c.k = 4 ∧ c.d = 7 ∧ c.m = 12 ∧ c.s = 0 ∧ c.sh = 4 ∧ c.p0 = 0 ∧ c.p1 = 0 ∧ c.p2 = 0 ∧ c.cy = 0 ∧ c.ex = 12) ∨
  (c.k = 5 ∧ c.d = 7 ∧ c.m = 12 ∧ c.s = 0 ∧ CutOk c) ∨
  (c.k = 6 ∧ c.d = 0 ∧ 1 ≤ c.m ∧ c.m ≤ 12 ∧ 0 ≤ c.s ∧ c.s ≤ 1 ∧ c.sh = 5 ∧ c.p0 = 0 ∧ c.p1 = 0 ∧ c.p2 = 0 ∧ c.cy = 0 ∧ c.ex = 0)
def YearsOk (c : CalZ) : Prop := 1602 ≤ c.fi ∧ c.la ≤ 9996 ∧ c.fi ≤ c.la ∧ c.la - c.fi < 400
def PolOk (c : CalZ) : Prop := 1 ≤ c.po ∧ c.po ≤ 4 ∧ (c.po = 4 ↔ c.k = 6)
def CalOk (c : CalZ) : Prop := KindOk c ∧ name c.nm.data.toList = true ∧ YearsOk c ∧ PolOk c
def ChkA (c : CalZ) (er : Int) : Prop := (CalOk c ∧ er = 0) ∨ (¬ CalOk c ∧ er = 1)

theorem kind_bd {c : CalZ} (h : KindOk c) : 1 ≤ c.m ∧ c.m ≤ 12 ∧ 0 ≤ c.s ∧ c.s ≤ 1 ∧ 1 ≤ c.k ∧ c.k ≤ 6 ∧ (c.k ≠ 6 → 1 ≤ c.d ∧ c.d ≤ 7) ∧ (c.k = 4 → c.m = 12 ∧ c.d = 7 ∧ c.s = 0) ∧ (c.k = 5 → c.m = 12 ∧ c.d = 7 ∧ c.s = 0) ∧ (c.k = 3 → c.m = 1 ∧ c.d = 6 ∧ c.s = 1) := by
  rcases h with h | h | h | h | h <;> (refine ⟨?_, ?_, ?_, ?_, ?_, ?_, ?_, ?_, ?_, ?_⟩ <;> omega)

/-- where a year ends -/
def yend (c : CalZ) (y : Int) : Int :=
  if c.k = 1 ∨ c.k = 4 then mend (y + c.s) c.m - mback (y + c.s) c.m c.d else if c.k = 6 then mend (y + c.s) c.m else nearv (y + c.s) c.m c.d

theorem near_bd (y m wd : Int) : mend y m - 3 ≤ nearv y m wd ∧ nearv y m wd ≤ mend y m + 3 := by
  have b := back_bd y m wd
  unfold nearv; split <;> omega
theorem near_wday {y m wd : Int} (h0 : 1 ≤ wd) (h1 : wd ≤ 7) : wday (nearv y m wd) = wd := by
  have a := back_wday (y := y) (m := m) h0 h1
  unfold nearv
  split
  · unfold wday at *; omega
  · exact a
theorem mon_ok {c : CalZ} {y : Int} (h : KindOk c) (y0 : 1600 ≤ y) (y1 : y ≤ 9998) : MonthOk (y + c.s) c.m := by
  have b := kind_bd h
  exact ⟨by omega, by omega, b.1, b.2.1⟩

theorem yend_bd {c : CalZ} {y : Int} (h : KindOk c) (y0 : 1600 ≤ y) (y1 : y ≤ 9997) : 0 ≤ yend c y ∧ yend c y ≤ 3068036 := by
  have ok := mon_ok h y0 (by omega)
  have b := kind_bd h
  have e := end_range ok
  have k := back_bd (y + c.s) c.m c.d
  have n := near_low (wd := c.d) ok
  have n1 := near_early (wd := c.d) ok (by omega)
  unfold yend
  split
  · omega
  · split <;> omega
theorem yend_step {c : CalZ} {y : Int} (h : KindOk c) (y0 : 1600 ≤ y) (y1 : y ≤ 9998) :
    (c.k ≠ 6 ∧ (yend c (y + 1) = yend c y + 364 ∨ yend c (y + 1) = yend c y + 371)) ∨ (c.k = 6 ∧ (yend c (y + 1) = yend c y + 365 ∨ yend c (y + 1) = yend c y + 366)) := by
  have ok := mon_ok h y0 y1
  have a := ends_year ok
  have l := lasts_year (wd := c.d) ok
  have n := nears_year (wd := c.d) ok
  have e : y + 1 + c.s = y + c.s + 1 := by omega
  unfold yend
  rw [e]
  by_cases k1 : c.k = 1 ∨ c.k = 4
  · rw [if_pos k1, if_pos k1]; omega
  · rw [if_neg k1, if_neg k1]
    by_cases k6 : c.k = 6
    · rw [if_pos k6, if_pos k6]; omega
    · rw [if_neg k6, if_neg k6]; omega
theorem yend_lt {c : CalZ} {a b : Int} (h : KindOk c) (a0 : 1600 ≤ a) (l : a < b) (b1 : b ≤ 9998) : yend c a + 364 * (b - a) ≤ yend c b ∧ yend c b ≤ yend c a + 371 * (b - a) := by
  have e : ∀ k : Nat, a + k ≤ 9998 → yend c a + 364 * k ≤ yend c (a + k) ∧ yend c (a + k) ≤ yend c a + 371 * k := by
    intro k
    induction k with
    | zero => intro _; simp
    | succ n ih =>
      intro hk
      have := ih (by omega)
      have s := yend_step h (y := a + n) (by omega) (by omega)
      have e1 : a + ((n + 1 : Nat) : Int) = a + n + 1 := by omega
      rw [e1]; omega
  have := e (b - a).toNat (by omega)
  have e2 : a + ((b - a).toNat : Int) = b := by omega
  rw [e2] at this
  omega
theorem yend_wday {c : CalZ} {y : Int} (h : KindOk c) (k : c.k ≠ 6) : wday (yend c y) = c.d := by
  have b := kind_bd h
  have d := b.2.2.2.2.2.2.1 k
  unfold yend
  by_cases k1 : c.k = 1 ∨ c.k = 4
  · rw [if_pos k1]; exact back_wday d.1 d.2
  · rw [if_neg k1, if_neg k]; exact near_wday d.1 d.2

/-! what the functions answer -/
def EndA (c : CalZ) (y v er : Int) : Prop :=
  (CalOk c ∧ 1600 ≤ y ∧ y ≤ 9997 ∧ v = yend c y ∧ er = 0) ∨ (CalOk c ∧ ¬ (1600 ≤ y ∧ y ≤ 9997) ∧ v = 0 ∧ er = 11) ∨ (¬ CalOk c ∧ v = 0 ∧ er = 1)
def StartA (c : CalZ) (y v er : Int) : Prop :=
  (CalOk c ∧ 1601 ≤ y ∧ y ≤ 9997 ∧ v = yend c (y - 1) + 1 ∧ er = 0) ∨ (CalOk c ∧ ¬ (1601 ≤ y ∧ y ≤ 9997) ∧ v = 0 ∧ er = 11) ∨ (¬ CalOk c ∧ v = 0 ∧ er = 1)
def DaysA (c : CalZ) (y v er : Int) : Prop :=
  (CalOk c ∧ 1601 ≤ y ∧ y ≤ 9997 ∧ v = yend c y - yend c (y - 1) ∧ er = 0) ∨ (CalOk c ∧ ¬ (1601 ≤ y ∧ y ≤ 9997) ∧ v = 0 ∧ er = 11) ∨ (¬ CalOk c ∧ v = 0 ∧ er = 1)
def WeeksA (c : CalZ) (y v er : Int) : Prop :=
  (CalOk c ∧ c.k ≠ 6 ∧ 1601 ≤ y ∧ y ≤ 9997 ∧ v = (yend c y - yend c (y - 1)) / 7 ∧ er = 0) ∨ (CalOk c ∧ c.k ≠ 6 ∧ ¬ (1601 ≤ y ∧ y ≤ 9997) ∧ v = 0 ∧ er = 11) ∨ ((¬ CalOk c ∨ c.k = 6) ∧ v = 0 ∧ er = 1)
theorem enda_ex (c : CalZ) (y : Int) : ∃ v er, EndA c y v er := by
  by_cases h : CalOk c
  · by_cases k : 1600 ≤ y ∧ y ≤ 9997
    · exact ⟨_, 0, .inl ⟨h, k.1, k.2, rfl, rfl⟩⟩
    · exact ⟨0, 11, .inr (.inl ⟨h, k, rfl, rfl⟩)⟩
  · exact ⟨0, 1, .inr (.inr ⟨h, rfl, rfl⟩)⟩
theorem starta_ex (c : CalZ) (y : Int) : ∃ v er, StartA c y v er := by
  by_cases h : CalOk c
  · by_cases k : 1601 ≤ y ∧ y ≤ 9997
    · exact ⟨_, 0, .inl ⟨h, k.1, k.2, rfl, rfl⟩⟩
    · exact ⟨0, 11, .inr (.inl ⟨h, k, rfl, rfl⟩)⟩
  · exact ⟨0, 1, .inr (.inr ⟨h, rfl, rfl⟩)⟩
theorem daysa_ex (c : CalZ) (y : Int) : ∃ v er, DaysA c y v er := by
  by_cases h : CalOk c
  · by_cases k : 1601 ≤ y ∧ y ≤ 9997
    · exact ⟨_, 0, .inl ⟨h, k.1, k.2, rfl, rfl⟩⟩
    · exact ⟨0, 11, .inr (.inl ⟨h, k, rfl, rfl⟩)⟩
  · exact ⟨0, 1, .inr (.inr ⟨h, rfl, rfl⟩)⟩
theorem weeksa_ex (c : CalZ) (y : Int) : ∃ v er, WeeksA c y v er := by
  by_cases h : CalOk c
  · by_cases k6 : c.k = 6
    · exact ⟨0, 1, .inr (.inr ⟨.inr k6, rfl, rfl⟩)⟩
    · by_cases k : 1601 ≤ y ∧ y ≤ 9997
      · exact ⟨_, 0, .inl ⟨h, k6, k.1, k.2, rfl, rfl⟩⟩
      · exact ⟨0, 11, .inr (.inl ⟨h, k6, k, rfl, rfl⟩)⟩
  · exact ⟨0, 1, .inr (.inr ⟨.inl h, rfl, rfl⟩)⟩
theorem chka_ex (c : CalZ) : ∃ er, ChkA c er := by
  by_cases h : CalOk c
  · exact ⟨0, .inl ⟨h, rfl⟩⟩
  · exact ⟨1, .inr ⟨h, rfl⟩⟩

/-- the year n days behind the first one's beginning: from which one on it is looked for -/
theorem year_from {c : CalZ} {n Y s : Int} (h : KindOk c) (Y0 : 1600 ≤ Y) (Y1 : Y ≤ 9999) (a : dby Y ≤ n) (b : n < dby (Y + 1)) (hs : s = max (Y - 1 - c.s) 1600) :
    (1600 < s → s ≤ 9998 ∧ yend c (s - 1) < n) ∧ 1600 ≤ s ∧ s ≤ 9998 := by
  have k := kind_bd h
  have hm : 1600 ≤ s ∧ (1600 < s → s = Y - 1 - c.s) := by omega
  refine ⟨fun g => ⟨by omega, ?_⟩, hm.1, by omega⟩
  have e := hm.2 g
  have ok := mon_ok h (y := s - 1) (by omega) (by omega)
  have t : s - 1 + c.s = Y - 2 := by omega
  rw [t] at ok
  have nb := near_bd (Y - 2) c.m c.d
  have bb := back_bd (Y - 2) c.m c.d
  have u := num_bd (end_ok ok)
  have d := dby_succ (Y - 1)
  have l := lp_01 (Y - 1)
  have e2 : Y - 2 + 1 = Y - 1 := by omega
  have e3 : Y - 1 + 1 = Y := by omega
  rw [e2] at u
  rw [e3] at d
  have z : yend c (s - 1) ≤ mend (Y - 2) c.m + 3 := by
    unfold yend; rw [t]; split
    · omega
    · split <;> omega
  unfold mend at z
  omega

end Go.Proofs.YtnjmokmlnpehdaaGreatDoor.Am

namespace Go.Proofs.YtnjmokmlnpehdaaGreatDoor.Am
set_option linter.unusedSimpArgs false
set_option linter.unusedVariables false
open Go.Proofs.YtnjmokmlnpehdaaGreatDoor.Cm Go.Proofs.YtnjmokmlnpehdaaGreatDoor.Em

def OfA (c : CalZ) (n y er : Int) : Prop :=
  (CalOk c ∧ 0 ≤ n ∧ n ≤ 3068036 ∧ 1601 ≤ y ∧ y ≤ 9997 ∧ yend c (y - 1) < n ∧ n ≤ yend c y ∧ er = 0) ∨
  (CalOk c ∧ 0 ≤ n ∧ n ≤ 3068036 ∧ (n ≤ yend c 1600 ∨ yend c 9997 < n) ∧ y = 0 ∧ er = 11) ∨
  (CalOk c ∧ ¬ (0 ≤ n ∧ n ≤ 3068036) ∧ y = 0 ∧ er = 4) ∨ (¬ CalOk c ∧ y = 0 ∧ er = 1)
theorem year_ex {c : CalZ} {n : Int} (h : KindOk c) (a : yend c 1600 < n) (b : n ≤ yend c 9997) : ∃ y, 1601 ≤ y ∧ y ≤ 9997 ∧ yend c (y - 1) < n ∧ n ≤ yend c y := by
  have e : ∀ k : Nat, k ≤ 8397 → n ≤ yend c (1600 + k) → ∃ y : Int, 1601 ≤ y ∧ y ≤ 1600 + k ∧ yend c (y - 1) < n ∧ n ≤ yend c y := by
    intro k
    induction k with
    | zero => intro _ h; simp at h; omega
    | succ j ih =>
      intro hk h
      by_cases q : n ≤ yend c (1600 + j)
      · obtain ⟨y, a, b, c1, d⟩ := ih (by omega) q
        exact ⟨y, a, by omega, c1, d⟩
      · refine ⟨1600 + ((j + 1 : Nat) : Int), by omega, by omega, ?_, h⟩
        have t : 1600 + ((j + 1 : Nat) : Int) - 1 = 1600 + j := by omega
        rw [t]; omega
  obtain ⟨y, y0, y1, y2, y3⟩ := e 8397 (by omega) b
  exact ⟨y, y0, by omega, y2, y3⟩
theorem year_uniq {c : CalZ} {n y z : Int} (h : KindOk c) (y0 : 1601 ≤ y) (y1 : y ≤ 9997) (ya : yend c (y - 1) < n) (yb : n ≤ yend c y) (z0 : 1601 ≤ z) (z1 : z ≤ 9997) (za : yend c (z - 1) < n) (zb : n ≤ yend c z) : y = z := by
  rcases Int.lt_trichotomy y z with l | l | l
  · by_cases e : y = z - 1
    · subst e; omega
    · have := yend_lt h (a := y) (b := z - 1) (by omega) (by omega) (by omega); omega
  · exact l
  · by_cases e : z = y - 1
    · subst e; omega
    · have := yend_lt h (a := z) (b := y - 1) (by omega) (by omega) (by omega); omega
theorem ofa_ex (c : CalZ) (n : Int) : ∃ y er, OfA c n y er := by
  by_cases h : CalOk c
  · by_cases k : 0 ≤ n ∧ n ≤ 3068036
    · by_cases a : yend c 1600 < n ∧ n ≤ yend c 9997
      · obtain ⟨y, q⟩ := year_ex h.1 a.1 a.2
        exact ⟨y, 0, .inl ⟨h, k.1, k.2, q.1, q.2.1, q.2.2.1, q.2.2.2, rfl⟩⟩
      · exact ⟨0, 11, .inr (.inl ⟨h, k.1, k.2, by omega, rfl, rfl⟩)⟩
    · exact ⟨0, 4, .inr (.inr (.inl ⟨h, k, rfl, rfl⟩))⟩
  · exact ⟨0, 1, .inr (.inr (.inr ⟨h, rfl, rfl⟩))⟩
/-- the fiscal year is near to the civil one -/
theorem year_near {c : CalZ} {n Y y : Int} (h : KindOk c) (a : dby Y ≤ n) (b : n < dby (Y + 1)) (y0 : 1601 ≤ y) (y1 : y ≤ 9997) (ya : yend c (y - 1) < n) (yb : n ≤ yend c y) : Y - 1 ≤ y + c.s ∧ y + c.s ≤ Y + 1 := by
  have k := kind_bd h
  have ok := mon_ok h (y := y) (by omega) (by omega)
  have ok1 := mon_ok h (y := y - 1) (by omega) (by omega)
  have z0 := near_bd (y + c.s) c.m c.d
  have z1 := back_bd (y + c.s) c.m c.d
  have z2 := near_bd (y - 1 + c.s) c.m c.d
  have z3 := back_bd (y - 1 + c.s) c.m c.d
  have u := num_bd (end_ok ok)
  have u1 := num_bd (end_ok ok1)
  have e0 : yend c y ≤ mend (y + c.s) c.m + 3 := by
    unfold yend; split
    · omega
    · split <;> omega
  have e1 : mend (y - 1 + c.s) c.m - 6 ≤ yend c (y - 1) := by
    unfold yend; split
    · omega
    · split <;> omega
  have m1 : dby (y - 1 + c.s) + 27 ≤ mend (y - 1 + c.s) c.m := by
    have := cum_bd (y - 1 + c.s) c.m k.1 (by omega)
    have := mlen_bd (y - 1 + c.s) c.m
    unfold mend num; omega
  unfold mend at e0
  constructor
  · by_cases q : Y - 1 ≤ y + c.s
    · exact q
    · have := dby_mono (a := y + c.s + 1) (b := Y - 1) (by omega)
      have d5 := dby_succ (Y - 1)
      have := lp_01 (Y - 1)
      have t : Y - 1 + 1 = Y := by omega
      rw [t] at d5
      omega
  · by_cases q : y + c.s ≤ Y + 1
    · exact q
    · have := dby_mono (a := Y + 1) (b := y - 1 + c.s) (by omega)
      omega
def NthA (c : CalZ) (n v er : Int) : Prop := ∃ y, OfA c n y er ∧ (er = 0 → v = n - yend c (y - 1)) ∧ (er ≠ 0 → v = 0)
def BoundsA (c : CalZ) (a b er : Int) : Prop := (CalOk c ∧ a = yend c (c.fi - 1) + 1 ∧ b = yend c c.la ∧ er = 0) ∨ (¬ CalOk c ∧ a = 0 ∧ b = 0 ∧ er = 1)
def ServedA (c : CalZ) (n v er : Int) : Prop := ∃ y e0, OfA c n y e0 ∧ ((e0 ≠ 0 ∧ v = 0 ∧ er = e0) ∨ (e0 = 0 ∧ c.fi ≤ y ∧ y ≤ c.la ∧ v = y ∧ er = 0) ∨ (e0 = 0 ∧ ¬ (c.fi ≤ y ∧ y ≤ c.la) ∧ v = 0 ∧ er = 11))
theorem ntha_ex (c : CalZ) (n : Int) : ∃ v er, NthA c n v er := by
  obtain ⟨y, er, h⟩ := ofa_ex c n
  by_cases e : er = 0
  · exact ⟨_, er, y, h, fun _ => rfl, fun k => absurd e k⟩
  · exact ⟨0, er, y, h, fun k => absurd k e, fun _ => rfl⟩
theorem boundsa_ex (c : CalZ) : ∃ a b er, BoundsA c a b er := by
  by_cases h : CalOk c
  · exact ⟨_, _, 0, .inl ⟨h, rfl, rfl, rfl⟩⟩
  · exact ⟨0, 0, 1, .inr ⟨h, rfl, rfl, rfl⟩⟩
theorem serveda_ex (c : CalZ) (n : Int) : ∃ v er, ServedA c n v er := by
  obtain ⟨y, e0, h⟩ := ofa_ex c n
  by_cases e : e0 = 0
  · by_cases k : c.fi ≤ y ∧ y ≤ c.la
    · exact ⟨y, 0, y, e0, h, .inr (.inl ⟨e, k.1, k.2, rfl, rfl⟩)⟩
    · exact ⟨0, 11, y, e0, h, .inr (.inr ⟨e, k, rfl, rfl⟩)⟩
  · exact ⟨0, e0, y, e0, h, .inl ⟨e, rfl, rfl⟩⟩

end Go.Proofs.YtnjmokmlnpehdaaGreatDoor.Am

namespace Go.Proofs.YtnjmokmlnpehdaaGreatDoor.Am
set_option linter.unusedSimpArgs false
set_option linter.unusedVariables false
open Go.Proofs.YtnjmokmlnpehdaaGreatDoor.Cm Go.Proofs.YtnjmokmlnpehdaaGreatDoor.Em

/-- a year of weeks -/
theorem weeks_year {c : CalZ} {y a b : Int} (h : KindOk c) (k : c.k ≠ 6) (y0 : 1601 ≤ y) (y1 : y ≤ 9997) (ha : a = yend c (y - 1)) (hb : b = yend c y) :
    0 ≤ a ∧ a + 364 ≤ b ∧ b ≤ 3068036 ∧ ((b - a) / 7 = 52 ∨ (b - a) / 7 = 53) ∧ b - a = 7 * ((b - a) / 7) ∧ wday (a + 1) = c.d % 7 + 1 ∧ wday b = c.d := by
  have s := yend_step h (y := y - 1) (by omega) (by omega)
  have bd := yend_bd h (y := y - 1) (by omega) (by omega)
  have bz := yend_bd h (y := y) (by omega) y1
  have wa := yend_wday (y := y - 1) h k
  have wb := yend_wday (y := y) h k
  rw [show y - 1 + 1 = y by omega] at s
  rw [← ha] at s bd wa
  rw [← hb] at s bz wb
  refine ⟨by omega, by omega, by omega, by omega, by omega, ?_, wb⟩
  unfold wday at wa ⊢; omega

theorem dec_end (y : Int) : mend y 12 = dby (y + 1) - 1 := by
  have e : mlen y 12 = 31 := by simp [mlen]
  have c : cum y 12 = 334 + lp y := by simp [cum]
  have d := dby_succ y
  unfold mend num; omega
theorem iso_end (y : Int) : nearv y 12 7 = fm (y + 1) - 1 := by
  have e := dec_end y
  unfold nearv mback
  rw [e]
  unfold fm wday
  split <;> omega
/-- an ISO year's first day, and its last one -/
theorem iso_first {y : Int} (y0 : 1601 ≤ y) (y1 : y ≤ 9997) : IsoRes (nearv (y - 1) 12 7 + 1) y 1 1 0 := by
  have e := iso_end (y - 1)
  rw [show y - 1 + 1 = y by omega] at e
  have b := fm_bd (y := y) (by omega) (by omega)
  have b1 := fm_mono (a := 1600) (b := y) (by omega)
  have s := fm_step y
  rw [fm_first] at b1
  have k : inum y 1 1 = nearv (y - 1) 12 7 + 1 := by unfold inum; omega
  exact .inl ⟨by omega, by omega, ⟨by omega, by omega, by omega, by omega, by omega, by omega, by omega, by omega⟩, k, rfl⟩
theorem iso_last {y : Int} (y0 : 1601 ≤ y) (y1 : y ≤ 9997) : IsoRes (nearv y 12 7) y (many y) 7 0 := by
  have e := iso_end y
  have b := fm_bd (y := y + 1) (by omega) (by omega)
  have b1 := fm_mono (a := 1600) (b := y) (by omega)
  have s := fm_step y
  have m := many_7 y
  rw [fm_first] at b1
  have k : inum y (many y) 7 = nearv y 12 7 := by unfold inum; omega
  exact .inl ⟨by omega, by omega, ⟨by omega, by omega, by omega, by omega, by omega, by omega, by omega, by omega⟩, k, rfl⟩

/-- the day behind a month's last one -/
theorem after_end {y m : Int} (h : MonthOk y m) (k : mend y m ≤ 3068035) : ∃ z, OfRes (mend y m + 1) z (m % 12 + 1) 1 0 := by
  have n := next_date (end_ok h) rfl k
  have l := mlen_bd y m
  have b := h.2.2
  rcases n with ⟨h1, _⟩ | ⟨_, h2, h3⟩ | ⟨_, h2, h3⟩
  · omega
  · refine ⟨y, ?_⟩
    rw [show m % 12 + 1 = m + 1 by omega]; exact h3
  · refine ⟨y + 1, ?_⟩
    rw [show m % 12 + 1 = 1 by omega]; exact h3

end Go.Proofs.YtnjmokmlnpehdaaGreatDoor.Am

namespace Go.Proofs.YtnjmokmlnpehdaaGreatDoor.Am
set_option linter.unusedSimpArgs false
set_option linter.unusedVariables false
open Go.Proofs.YtnjmokmlnpehdaaGreatDoor.Cm Go.Proofs.YtnjmokmlnpehdaaGreatDoor.Em

/-- how many weeks the first p periods have but for one that was added -/
def wcum (c : CalZ) (p : Int) : Int := if c.sh = 1 then 13 * (p / 3) + (if p % 3 = 0 then 0 else if p % 3 = 1 then c.p0 else c.p0 + c.p1) else if c.sh = 2 then 4 * p else c.cy * p
/-- how many weeks period p has but for one that was added -/
def pat (c : CalZ) (p : Int) : Int := if c.sh = 1 then (if (p - 1) % 3 = 0 then c.p0 else if (p - 1) % 3 = 1 then c.p1 else c.p2) else if c.sh = 2 then 4 else c.cy
def nweeks (c : CalZ) (y : Int) : Int := (yend c y - yend c (y - 1)) / 7
def wkp (c : CalZ) (y p : Int) : Int := pat c p + (if p = c.ex then nweeks c y - 52 else 0)
/-- the number of the month in which period p of a year by months lies -/
def mon (c : CalZ) (y p : Int) : Int := 12 * (y + c.s - 1) + c.m - 1 + p
def mendt (t : Int) : Int := mend (t / 12) (t % 12 + 1)
/-- the last day of period p; of period 0: the day ahead of the year -/
def pend (c : CalZ) (y p : Int) : Int :=
  if p ≤ 0 then yend c (y - 1) else if c.sh = 4 then mend y p - mback y p 7 else if c.sh = 5 then mendt (mon c y p)
  else yend c (y - 1) + 7 * (wcum c p + (if c.ex ≤ p then nweeks c y - 52 else 0))
/-- how many weeks period p has -/
def wks (c : CalZ) (y p : Int) : Int := (pend c y p - pend c y (p - 1) + 6) / 7

theorem shape_cases {c : CalZ} (h : KindOk c) : (c.k = 4 ∧ c.sh = 4 ∧ c.m = 12 ∧ c.d = 7 ∧ c.s = 0 ∧ c.ex = 12 ∧ per c = 12) ∨ (c.k = 6 ∧ c.sh = 5 ∧ c.ex = 0 ∧ per c = 12) ∨ (c.k ≠ 4 ∧ c.k ≠ 6 ∧ CutOk c) := by
  rcases h with ⟨hk, h⟩ | ⟨hk, h⟩ | ⟨hk, h⟩ | ⟨hk, h⟩ | ⟨hk, h⟩
  · exact .inr (.inr ⟨by omega, by omega, h.2.2.2.2.2.2⟩)
  · exact .inr (.inr ⟨by omega, by omega, .inl ⟨h.2.2.2.1, by omega, h.2.2.2.2.2.2.2.1, by omega, by omega⟩⟩)
  · exact .inl ⟨hk, h.2.2.2.1, h.2.1, h.1, h.2.2.1, by omega, by unfold per; simp [h.2.2.2.1]⟩
  · exact .inr (.inr ⟨by omega, by omega, h.2.2.2⟩)
  · exact .inr (.inl ⟨hk, h.2.2.2.2.2.1, by omega, by unfold per; simp [h.2.2.2.2.2.1]⟩)
/-- the seven ways in which a year of weeks is cut -/
theorem cut_cases {c : CalZ} (h : CutOk c) :
    (c.sh = 1 ∧ per c = 12 ∧ 4 ≤ c.p0 ∧ c.p0 ≤ 5 ∧ 4 ≤ c.p1 ∧ c.p1 ≤ 5 ∧ 4 ≤ c.p2 ∧ c.p2 ≤ 5 ∧ c.p0 + c.p1 + c.p2 = 13 ∧ 1 ≤ c.ex ∧ c.ex ≤ 12) ∨ (c.sh = 2 ∧ per c = 13 ∧ 1 ≤ c.ex ∧ c.ex ≤ 13) ∨
    (c.sh = 3 ∧ c.cy = 1 ∧ per c = 52 ∧ 1 ≤ c.ex ∧ c.ex ≤ 52) ∨ (c.sh = 3 ∧ c.cy = 2 ∧ per c = 26 ∧ 1 ≤ c.ex ∧ c.ex ≤ 26) ∨ (c.sh = 3 ∧ c.cy = 4 ∧ per c = 13 ∧ 1 ≤ c.ex ∧ c.ex ≤ 13) := by
  rcases h with ⟨h1, h2, h3, h4⟩ | ⟨h1, h2⟩ | ⟨h1, _, _, _, h | h | h⟩
  · exact .inl ⟨h1, by unfold per; simp [h1], by omega, by omega, by omega, by omega, by omega, by omega, by omega, h4⟩
  · exact .inr (.inl ⟨h1, by unfold per; simp [h1], h2.2.2.2.2⟩)
  · exact .inr (.inr (.inl ⟨h1, h.1, by unfold per; simp [h1, h.1], h.2⟩))
  · exact .inr (.inr (.inr (.inl ⟨h1, h.1, by unfold per; simp [h1, h.1], h.2⟩)))
  · exact .inr (.inr (.inr (.inr ⟨h1, h.1, by unfold per; simp [h1, h.1], h.2⟩)))
theorem per_bd {c : CalZ} (h : KindOk c) : 12 ≤ per c ∧ per c ≤ 52 ∧ (c.k ≠ 6 → 1 ≤ c.ex ∧ c.ex ≤ per c) := by
  rcases shape_cases h with h | h | ⟨_, _, h⟩
  · omega
  · omega
  · rcases cut_cases h with h | h | h | h | h <;> omega
theorem nweeks_01 {c : CalZ} {y : Int} (h : KindOk c) (k : c.k ≠ 6) (y0 : 1601 ≤ y) (y1 : y ≤ 9998) : (nweeks c y = 52 ∨ nweeks c y = 53) ∧ yend c y = yend c (y - 1) + 7 * nweeks c y := by
  have s := yend_step h (y := y - 1) (by omega) (by omega)
  rw [show y - 1 + 1 = y by omega] at s
  unfold nweeks; omega
theorem pend_zero (c : CalZ) (y : Int) : pend c y 0 = yend c (y - 1) := by unfold pend; simp

theorem mendt_succ (t : Int) : mendt t + 1 = num ((t + 1) / 12) ((t + 1) % 12 + 1) 1 ∧ mendt (t + 1) = mendt t + mlen ((t + 1) / 12) ((t + 1) % 12 + 1) := by
  have cs := cum_succ (t / 12) (t % 12 + 1) (by omega) (by omega)
  have m0 : (t % 12 + 1 < 12 ∧ (t + 1) / 12 = t / 12 ∧ (t + 1) % 12 + 1 = t % 12 + 1 + 1) ∨ (t % 12 + 1 = 12 ∧ (t + 1) / 12 = t / 12 + 1 ∧ (t + 1) % 12 + 1 = 1) := by omega
  unfold mendt mend num
  rcases m0 with ⟨a, e1, e2⟩ | ⟨a, e1, e2⟩
  · rw [e1, e2]; omega
  · have cs' : cum (t / 12) (12 + 1) = cum (t / 12) 12 + mlen (t / 12) 12 := by rw [a] at cs; exact cs
    have ce := cum_end (t / 12)
    have ds := dby_succ (t / 12)
    rw [e1, e2, a, cum_one]
    have ce' : cum (t / 12) (12 + 1) = 365 + lp (t / 12) := ce
    omega

theorem broad_step {y p : Int} (p0 : 1 ≤ p) (p1 : p ≤ 11) :
    mend y (p + 1) - mback y (p + 1) 7 = mend y p - mback y p 7 + 28 ∨ mend y (p + 1) - mback y (p + 1) 7 = mend y p - mback y p 7 + 35 := by
  have a := back_wday (y := y) (m := p) (wd := 7) (by omega) (by omega)
  have b := back_wday (y := y) (m := p + 1) (wd := 7) (by omega) (by omega)
  have c := back_bd y p 7
  have d := back_bd y (p + 1) 7
  have e := cum_succ y p p0 (by omega)
  have f := mlen_bd y (p + 1)
  have g : mend y (p + 1) = mend y p + mlen y (p + 1) := by unfold mend num; omega
  unfold wday at a b
  omega
theorem broad_first {y : Int} : mend y 1 - mback y 1 7 = mend (y - 1) 12 - mback (y - 1) 12 7 + 28 ∨ mend y 1 - mback y 1 7 = mend (y - 1) 12 - mback (y - 1) 12 7 + 35 := by
  have a := back_wday (y := y) (m := 1) (wd := 7) (by omega) (by omega)
  have b := back_wday (y := y - 1) (m := 12) (wd := 7) (by omega) (by omega)
  have c := back_bd y 1 7
  have d := back_bd (y - 1) 12 7
  have g : mend y 1 = mend (y - 1) 12 + mlen y 1 := by
    have := (mendt_succ (12 * (y - 1) + 11)).2
    unfold mendt at this
    rw [show 12 * (y - 1) + 11 + 1 = 12 * y by omega, show (12 * y) / 12 = y by omega, show (12 * y) % 12 + 1 = 1 by omega, show (12 * (y - 1) + 11) / 12 = y - 1 by omega, show (12 * (y - 1) + 11) % 12 + 1 = 12 by omega] at this
    exact this
  have f := mlen_bd y 1
  unfold wday at a b
  omega
/-- what stands between the ends of two periods -/
def StepOk (c : CalZ) (y p : Int) : Prop :=
  (c.sh = 4 ∧ (pend c y p = pend c y (p - 1) + 28 ∨ pend c y p = pend c y (p - 1) + 35) ∧ pend c y p = mend y p - mback y p 7) ∨
  (c.sh = 5 ∧ pend c y p = pend c y (p - 1) + mlen (mon c y p / 12) (mon c y p % 12 + 1) ∧ pend c y (p - 1) + 1 = num (mon c y p / 12) (mon c y p % 12 + 1) 1) ∨
  (c.sh ≠ 4 ∧ c.sh ≠ 5 ∧ c.k ≠ 6 ∧ pend c y p = pend c y (p - 1) + 7 * wkp c y p ∧ 1 ≤ pat c p ∧ pat c p ≤ 5)
theorem pend_step {c : CalZ} {y p : Int} (h : KindOk c) (y0 : 1601 ≤ y) (y1 : y ≤ 9997) (p0 : 1 ≤ p) (p1 : p ≤ per c) : StepOk c y p := by
  rcases shape_cases h with ⟨k4, s4, m12, d7, s0, e12, e⟩ | ⟨k6, s5, e0, e⟩ | ⟨k4, k6, cut⟩
  · refine .inl ⟨s4, ?_, by unfold pend; rw [if_neg (by omega), if_pos s4]⟩
    by_cases q : p = 1
    · subst q
      have b := broad_first (y := y)
      rw [show (1 : Int) - 1 = 0 by omega, pend_zero]
      unfold pend yend
      rw [if_neg (by omega), if_pos s4, if_pos (.inr k4), s0, m12, d7, show y - 1 + 0 = y - 1 by omega]
      exact b
    · have b := broad_step (y := y) (p := p - 1) (by omega) (by omega)
      rw [show p - 1 + 1 = p by omega] at b
      unfold pend
      rw [if_neg (by omega), if_pos s4, if_neg (by omega), if_pos s4]
      exact b
  · refine .inr (.inl ⟨s5, ?_⟩)
    have b := mendt_succ (mon c y (p - 1))
    have em : mon c y (p - 1) + 1 = mon c y p := by unfold mon; omega
    rw [em] at b
    have e1 : pend c y p = mendt (mon c y p) := by unfold pend; rw [if_neg (by omega), if_neg (by omega), if_pos s5]
    have e2 : pend c y (p - 1) = mendt (mon c y (p - 1)) := by
      by_cases q : p = 1
      · subst q
        rw [show (1 : Int) - 1 = 0 by omega, pend_zero]
        have kb := kind_bd h
        unfold yend mendt mon
        rw [if_neg (by omega), if_pos k6, show (12 * (y + c.s - 1) + c.m - 1 + 0) / 12 = y - 1 + c.s by omega, show (12 * (y + c.s - 1) + c.m - 1 + 0) % 12 + 1 = c.m by omega]
      · unfold pend; rw [if_neg (by omega), if_neg (by omega), if_pos s5]
    rw [e1, e2]
    exact ⟨b.2, b.1⟩
  · have cs := cut_cases cut
    have sh : c.sh ≠ 4 ∧ c.sh ≠ 5 := by omega
    have e1 : ∀ q : Int, 1 ≤ q → pend c y q = yend c (y - 1) + 7 * (wcum c q + (if c.ex ≤ q then nweeks c y - 52 else 0)) := fun q hq => by
      unfold pend; rw [if_neg (by omega), if_neg sh.1, if_neg sh.2]
    have z : wcum c 0 = 0 := by unfold wcum; simp
    have ex0 : 1 ≤ c.ex := by omega
    have e2 : pend c y (p - 1) = yend c (y - 1) + 7 * (wcum c (p - 1) + (if c.ex ≤ p - 1 then nweeks c y - 52 else 0)) := by
      by_cases q : p = 1
      · subst q; rw [show (1 : Int) - 1 = 0 by omega, pend_zero, z, if_neg (by omega)]; omega
      · exact e1 _ (by omega)
    have e3 : wcum c p = wcum c (p - 1) + pat c p := by
      unfold wcum pat
      rcases cs with h | h | h | h | h
      · rw [if_pos h.1, if_pos h.1, if_pos h.1]
        obtain ⟨_, _, a⟩ := h
        have m3 : p % 3 = 0 ∨ p % 3 = 1 ∨ p % 3 = 2 := by omega
        rcases m3 with m | m | m
        · rw [if_pos m, if_neg (by omega), if_neg (by omega), if_neg (by omega), if_neg (by omega)]; omega
        · rw [if_neg (by omega), if_pos m, if_pos (by omega), if_pos (by omega)]; omega
        · rw [if_neg (by omega), if_neg (by omega), if_neg (by omega), if_pos (by omega), if_neg (by omega), if_pos (by omega)]; omega
      · have n1 : ¬ c.sh = 1 := by omega
        simp only [if_neg n1, if_pos h.1]; omega
      all_goals
        have n1 : ¬ c.sh = 1 := by omega
        have n2 : ¬ c.sh = 2 := by omega
        simp only [if_neg n1, if_neg n2, h.2.1]; omega
    refine .inr (.inr ⟨sh.1, sh.2, k6, ?_, ?_⟩)
    · rw [e1 p p0, e2, e3]
      unfold wkp
      by_cases q : c.ex ≤ p - 1
      · rw [if_pos q, if_pos (by omega), if_neg (by omega)]; omega
      · by_cases q2 : p = c.ex
        · rw [if_neg q, if_pos (by omega), if_pos q2]; omega
        · rw [if_neg q, if_neg (by omega), if_neg q2]; omega
    · unfold pat
      rcases cs with h | h | h | h | h
      · rw [if_pos h.1]
        obtain ⟨_, _, a⟩ := h
        split
        · omega
        · split <;> omega
      · rw [if_neg (by omega), if_pos h.1]; omega
      all_goals rw [if_neg (by omega), if_neg (by omega)]; omega
/-- how long a period is -/
theorem step_bd {c : CalZ} {y p : Int} (h : KindOk c) (y0 : 1601 ≤ y) (y1 : y ≤ 9997) (p0 : 1 ≤ p) (p1 : p ≤ per c) :
    pend c y (p - 1) + 7 ≤ pend c y p ∧ pend c y p ≤ pend c y (p - 1) + 42 ∧ (c.k ≠ 6 → pend c y p = pend c y (p - 1) + 7 * wks c y p) := by
  rcases shape_cases h with ⟨k4, s4, _⟩ | ⟨k6, s5, e0, e⟩ | ⟨k4, k6, cut⟩
  all_goals
    rcases pend_step h y0 y1 p0 p1 with ⟨a, b, _⟩ | ⟨a, b, _⟩ | ⟨a1, a2, a3, b, b1, b2⟩
    all_goals first | (exfalso; omega) | skip
  · unfold wks; omega
  · have := mlen_bd (mon c y p / 12) (mon c y p % 12 + 1)
    refine ⟨by omega, by omega, fun q => absurd k6 q⟩
  · exfalso
    rcases cut_cases cut with h | h | h | h | h <;> omega
  · exfalso
    rcases cut_cases cut with h | h | h | h | h <;> omega
  · have n := nweeks_01 h k6 y0 (by omega)
    have w : wkp c y p = pat c p ∨ wkp c y p = pat c p + (nweeks c y - 52) := by unfold wkp; split <;> omega
    unfold wks
    omega
theorem pend_mono {c : CalZ} {y : Int} (h : KindOk c) (y0 : 1601 ≤ y) (y1 : y ≤ 9997) {a b : Int} (a0 : 0 ≤ a) (l : a ≤ b) (b1 : b ≤ per c) : pend c y a + 7 * (b - a) ≤ pend c y b := by
  have e : ∀ k : Nat, a + k ≤ per c → pend c y a + 7 * k ≤ pend c y (a + k) := by
    intro k
    induction k with
    | zero => intro _; simp
    | succ n ih =>
      intro hk
      have := ih (by omega)
      have s := (step_bd h y0 y1 (p := a + n + 1) (by omega) (by omega)).1
      rw [show a + (n : Int) + 1 - 1 = a + n by omega] at s
      have e1 : a + ((n + 1 : Nat) : Int) = a + n + 1 := by omega
      rw [e1]; omega
  have := e (b - a).toNat (by omega)
  have e2 : a + ((b - a).toNat : Int) = b := by omega
  rw [e2] at this
  omega
theorem pend_last {c : CalZ} {y : Int} (h : KindOk c) (y0 : 1601 ≤ y) (y1 : y ≤ 9997) : pend c y (per c) = yend c y := by
  rcases shape_cases h with ⟨k4, s4, m12, d7, s0, e12, e⟩ | ⟨k6, s5, e0, e⟩ | ⟨k4, k6, cut⟩
  · unfold pend yend
    rw [if_neg (by omega), if_pos s4, if_pos (.inr k4), e, s0, m12, d7, show y + 0 = y by omega]
  · have kb := kind_bd h
    unfold pend yend mendt mon
    rw [if_neg (by omega), if_neg (by omega), if_pos s5, if_neg (by omega), if_pos k6, e, show (12 * (y + c.s - 1) + c.m - 1 + 12) / 12 = y + c.s by omega, show (12 * (y + c.s - 1) + c.m - 1 + 12) % 12 + 1 = c.m by omega]
  · have n := nweeks_01 h k6 y0 (by omega)
    have cs := cut_cases cut
    unfold pend
    rw [if_neg (by omega), if_neg (by omega), if_neg (by omega), if_pos (by omega), n.2]
    have w : wcum c (per c) = 52 := by
      unfold wcum
      rcases cs with h | h | h | h | h
      · rw [if_pos h.1, h.2.1]; simp
      · rw [if_neg (by omega), if_pos h.1, h.2.1]; decide
      all_goals rw [if_neg (by omega), if_neg (by omega), h.2.1, h.2.2.1]; decide
    omega
theorem pend_bd {c : CalZ} {y p : Int} (h : KindOk c) (y0 : 1601 ≤ y) (y1 : y ≤ 9997) (p0 : 0 ≤ p) (p1 : p ≤ per c) : 0 ≤ pend c y p ∧ pend c y p ≤ 3068036 := by
  have a := pend_mono h y0 y1 (a := 0) (b := p) (by omega) p0 p1
  have b := pend_mono h y0 y1 (a := p) (b := per c) p0 p1 (by omega)
  have d := yend_bd h (y := y - 1) (by omega) (by omega)
  have e := yend_bd h (y := y) (by omega) (by omega)
  rw [pend_zero] at a
  rw [pend_last h y0 y1] at b
  omega

end Go.Proofs.YtnjmokmlnpehdaaGreatDoor.Am

namespace Go.Proofs.YtnjmokmlnpehdaaGreatDoor.Am
set_option linter.unusedSimpArgs false
set_option linter.unusedVariables false
open Go.Proofs.YtnjmokmlnpehdaaGreatDoor.Cm Go.Proofs.YtnjmokmlnpehdaaGreatDoor.Em

theorem per_is {c : CalZ} (h : KindOk c) : per c = 12 ∨ per c = 13 ∨ per c = 26 ∨ per c = 52 := by
  rcases shape_cases h with h | h | ⟨_, _, h⟩
  · omega
  · omega
  · rcases cut_cases h with h | h | h | h | h <;> omega
/-- in which quarter a period lies -/
def quar (n p : Int) : Int := if p ≤ n / 4 then 1 else if p ≤ n * 2 / 4 then 2 else if p ≤ n * 3 / 4 then 3 else 4
def PersA (c : CalZ) (v er : Int) : Prop := (CalOk c ∧ v = per c ∧ er = 0) ∨ (¬ CalOk c ∧ v = 0 ∧ er = 1)
def QuarA (c : CalZ) (p v er : Int) : Prop := (CalOk c ∧ 1 ≤ p ∧ p ≤ per c ∧ v = quar (per c) p ∧ er = 0) ∨ (CalOk c ∧ ¬ (1 ≤ p ∧ p ≤ per c) ∧ v = 0 ∧ er = 1) ∨ (¬ CalOk c ∧ v = 0 ∧ er = 1)
theorem persa_ex (c : CalZ) : ∃ v er, PersA c v er := by
  by_cases h : CalOk c
  · exact ⟨_, 0, .inl ⟨h, rfl, rfl⟩⟩
  · exact ⟨0, 1, .inr ⟨h, rfl, rfl⟩⟩
theorem quara_ex (c : CalZ) (p : Int) : ∃ v er, QuarA c p v er := by
  by_cases h : CalOk c
  · by_cases k : 1 ≤ p ∧ p ≤ per c
    · exact ⟨_, 0, .inl ⟨h, k.1, k.2, rfl, rfl⟩⟩
    · exact ⟨0, 1, .inr (.inl ⟨h, k, rfl, rfl⟩)⟩
  · exact ⟨0, 1, .inr (.inr ⟨h, rfl, rfl⟩)⟩

/-- the weeks of the first p periods, one by one -/
def wsum (c : CalZ) (y : Int) : Nat → Int
  | 0 => 0
  | p + 1 => wsum c y p + wks c y ((p : Int) + 1)
theorem wsum_end {c : CalZ} {y : Int} (h : KindOk c) (k : c.k ≠ 6) (y0 : 1601 ≤ y) (y1 : y ≤ 9997) (p : Nat) (hp : (p : Int) ≤ per c) : 7 * wsum c y p = pend c y p - pend c y 0 := by
  induction p with
  | zero => simp [wsum]
  | succ n ih =>
    have a := ih (by omega)
    have s := (step_bd h y0 y1 (p := (n : Int) + 1) (by omega) (by omega)).2.2 k
    rw [show (n : Int) + 1 - 1 = n by omega] at s
    rw [show ((n + 1 : Nat) : Int) = (n : Int) + 1 by omega]
    show 7 * (wsum c y n + wks c y ((n : Int) + 1)) = _
    omega
theorem wsum_all {c : CalZ} {y : Int} (h : KindOk c) (k : c.k ≠ 6) (y0 : 1601 ≤ y) (y1 : y ≤ 9997) (p : Nat) (hp : (p : Int) = per c) : wsum c y p = nweeks c y := by
  have a := wsum_end h k y0 y1 p (by omega)
  rw [hp, pend_last h y0 y1, pend_zero] at a
  have n := nweeks_01 h k y0 (by omega)
  omega
/-- which week was added -/
def AddedA (c : CalZ) (y v er : Int) : Prop :=
  (CalOk c ∧ c.k ≠ 6 ∧ 1601 ≤ y ∧ y ≤ 9997 ∧ ((nweeks c y = 52 ∧ v = 0) ∨ (nweeks c y = 53 ∧ v = (pend c y c.ex - pend c y 0) / 7)) ∧ er = 0) ∨
  (CalOk c ∧ c.k ≠ 6 ∧ ¬ (1601 ≤ y ∧ y ≤ 9997) ∧ v = 0 ∧ er = 11) ∨ ((¬ CalOk c ∨ c.k = 6) ∧ v = 0 ∧ er = 1)
theorem addeda_ex (c : CalZ) (y : Int) : ∃ v er, AddedA c y v er := by
  by_cases h : CalOk c
  · by_cases k6 : c.k = 6
    · exact ⟨0, 1, .inr (.inr ⟨.inr k6, rfl, rfl⟩)⟩
    · by_cases k : 1601 ≤ y ∧ y ≤ 9997
      · rcases (nweeks_01 h.1 k6 k.1 (by omega)).1 with n | n
        · exact ⟨0, 0, .inl ⟨h, k6, k.1, k.2, .inl ⟨n, rfl⟩, rfl⟩⟩
        · exact ⟨_, 0, .inl ⟨h, k6, k.1, k.2, .inr ⟨n, rfl⟩, rfl⟩⟩
      · exact ⟨0, 11, .inr (.inl ⟨h, k6, k, rfl, rfl⟩)⟩
  · exact ⟨0, 1, .inr (.inr ⟨.inl h, rfl, rfl⟩)⟩

end Go.Proofs.YtnjmokmlnpehdaaGreatDoor.Am

namespace Go.Proofs.YtnjmokmlnpehdaaGreatDoor.Am
set_option linter.unusedSimpArgs false
set_option linter.unusedVariables false
open Go.Proofs.YtnjmokmlnpehdaaGreatDoor.Cm Go.Proofs.YtnjmokmlnpehdaaGreatDoor.Em

/-- the last day of week i, looked for in the first p periods -/
def wgo (c : CalZ) (y : Int) : Nat → Int → Int
  | 0, _ => pend c y 0
  | p + 1, i => if wsum c y p < i then min (pend c y p + 7 * (i - wsum c y p)) (pend c y ((p : Int) + 1)) else wgo c y p i
def perN (c : CalZ) : Nat := (per c).toNat
def wend (c : CalZ) (y i : Int) : Int := wgo c y (perN c) i
def nwk (c : CalZ) (y : Int) : Int := wsum c y (perN c)
/-- how many units of a level there are -/
def ucount (c : CalZ) (y L : Int) : Int := if L = 1 then 1 else if L = 2 then 2 else if L = 3 then 4 else if L = 4 then per c else nwk c y
/-- the last day of unit i of a level; of 0: the day ahead of the year -/
def uend (c : CalZ) (y L i : Int) : Int :=
  if L = 1 then (if i ≤ 0 then pend c y 0 else pend c y (per c)) else if L = 2 then pend c y (per c * (2 * i) / 4) else if L = 3 then pend c y (per c * i / 4) else if L = 4 then pend c y i else wend c y i
def LevOk (L : Int) : Prop := 1 ≤ L ∧ L ≤ 5

theorem perN_is {c : CalZ} (h : KindOk c) : ((perN c : Nat) : Int) = per c ∧ 12 ≤ perN c ∧ perN c ≤ 52 := by
  have := per_bd h
  unfold perN; omega
theorem wks_bd {c : CalZ} {y p : Int} (h : KindOk c) (y0 : 1601 ≤ y) (y1 : y ≤ 9997) (p0 : 1 ≤ p) (p1 : p ≤ per c) :
    1 ≤ wks c y p ∧ wks c y p ≤ 6 ∧ pend c y (p - 1) + 7 * (wks c y p - 1) < pend c y p ∧ pend c y p ≤ pend c y (p - 1) + 7 * wks c y p ∧ (c.k = 6 → 4 ≤ wks c y p ∧ wks c y p ≤ 5) := by
  have s := step_bd h y0 y1 p0 p1
  have e : c.k = 6 → pend c y (p - 1) + 28 ≤ pend c y p ∧ pend c y p ≤ pend c y (p - 1) + 31 := fun k6 => by
    rcases pend_step h y0 y1 p0 p1 with ⟨a, _⟩ | ⟨a, b, _⟩ | ⟨_, _, k, _⟩
    · exfalso
      rcases shape_cases h with h | h | h
      · omega
      · omega
      · exact h.2.1 k6
    · have := mlen_bd (mon c y p / 12) (mon c y p % 12 + 1); omega
    · exact absurd k6 k
  unfold wks
  refine ⟨by omega, by omega, by omega, by omega, fun k6 => by have := e k6; omega⟩
theorem wsum_step {c : CalZ} {y : Int} (h : KindOk c) (y0 : 1601 ≤ y) (y1 : y ≤ 9997) {a b : Nat} (l : a ≤ b) (b1 : b ≤ perN c) : wsum c y a + (b - a : Nat) ≤ wsum c y b := by
  induction b with
  | zero => obtain rfl : a = 0 := by omega
            simp
  | succ n ih =>
    have pe := perN_is h
    by_cases e : a = n + 1
    · subst e; simp
    · have := ih (by omega) (by omega)
      have w := wks_bd h y0 y1 (p := (n : Int) + 1) (by omega) (by omega)
      have e2 : wsum c y (n + 1) = wsum c y n + wks c y ((n : Int) + 1) := rfl
      omega
/-- a week lies in one period -/
theorem week_in {c : CalZ} {y i : Int} (i0 : 1 ≤ i) (n : Nat) (i1 : i ≤ wsum c y n) : ∃ p : Nat, p + 1 ≤ n ∧ wsum c y p < i ∧ i ≤ wsum c y (p + 1) := by
  induction n with
  | zero => simp [wsum] at i1; omega
  | succ k ih =>
    by_cases q : i ≤ wsum c y k
    · obtain ⟨p, a, b, d⟩ := ih q
      exact ⟨p, by omega, b, d⟩
    · exact ⟨k, by omega, by omega, i1⟩
theorem wgo_at {c : CalZ} {y i : Int} (h : KindOk c) (y0 : 1601 ≤ y) (y1 : y ≤ 9997) {p : Nat} (n : Nat) (hp : p + 1 ≤ n) (hn : n ≤ perN c) (a : wsum c y p < i) (b : i ≤ wsum c y (p + 1)) :
    wgo c y n i = min (pend c y p + 7 * (i - wsum c y p)) (pend c y ((p : Int) + 1)) := by
  induction n with
  | zero => omega
  | succ k ih =>
    unfold wgo
    by_cases e : p = k
    · subst e; rw [if_pos a]
    · have := wsum_step h y0 y1 (a := p + 1) (b := k) (by omega) (by omega)
      rw [if_neg (by omega)]
      exact ih (by omega) (by omega)
theorem wend_at {c : CalZ} {y i : Int} (h : KindOk c) (y0 : 1601 ≤ y) (y1 : y ≤ 9997) {p : Nat} (hp : p + 1 ≤ perN c) (a : wsum c y p < i) (b : i ≤ wsum c y (p + 1)) :
    wend c y i = min (pend c y p + 7 * (i - wsum c y p)) (pend c y ((p : Int) + 1)) := wgo_at h y0 y1 _ hp (Nat.le_refl _) a b
theorem wend_zero {c : CalZ} {y : Int} (h : KindOk c) (y0 : 1601 ≤ y) (y1 : y ≤ 9997) : wend c y 0 = pend c y 0 := by
  have e : ∀ n, n ≤ perN c → wgo c y n 0 = pend c y 0 := by
    intro n
    induction n with
    | zero => intro _; rfl
    | succ k ih =>
      intro hn
      unfold wgo
      have := wsum_step h y0 y1 (a := 0) (b := k) (by omega) (by omega)
      have z : wsum c y 0 = 0 := rfl
      rw [if_neg (by omega)]
      exact ih (by omega)
  exact e _ (Nat.le_refl _)
/-- weeks end one behind the other; a week ends with its period just if it is the last one of it -/
theorem wend_step {c : CalZ} {y i : Int} (h : KindOk c) (y0 : 1601 ≤ y) (y1 : y ≤ 9997) (i0 : 1 ≤ i) (i1 : i ≤ nwk c y) :
    ∃ p : Nat, p + 1 ≤ perN c ∧ wsum c y p < i ∧ i ≤ wsum c y (p + 1) ∧ wend c y (i - 1) = pend c y p + 7 * (i - 1 - wsum c y p) ∧
      wend c y i = min (wend c y (i - 1) + 7) (pend c y ((p : Int) + 1)) ∧ wend c y (i - 1) < pend c y ((p : Int) + 1) ∧ (i = wsum c y (p + 1) ↔ wend c y i = pend c y ((p : Int) + 1)) := by
  obtain ⟨p, hp, a, b⟩ := week_in i0 (perN c) i1
  have pe := perN_is h
  have e := wend_at h y0 y1 hp a b
  have w := wks_bd h y0 y1 (p := (p : Int) + 1) (by omega) (by omega)
  rw [show (p : Int) + 1 - 1 = p by omega] at w
  have ws : wsum c y (p + 1) = wsum c y p + wks c y ((p : Int) + 1) := rfl
  have e1 : wend c y (i - 1) = pend c y p + 7 * (i - 1 - wsum c y p) := by
    by_cases q : wsum c y p < i - 1
    · rw [wend_at h y0 y1 hp q (by omega)]
      omega
    · have q2 : i - 1 = wsum c y p := by omega
      rw [q2]
      cases p with
      | zero => rw [show wsum c y 0 = 0 from rfl, wend_zero h y0 y1]; simp
      | succ j =>
        have w2 := wks_bd h y0 y1 (p := (j : Int) + 1) (by omega) (by omega)
        rw [show (j : Int) + 1 - 1 = j by omega] at w2
        have ws2 : wsum c y (j + 1) = wsum c y j + wks c y ((j : Int) + 1) := rfl
        rw [wend_at h y0 y1 (p := j) (by omega) (by omega) (Int.le_refl _), show ((j + 1 : Nat) : Int) = (j : Int) + 1 by omega]
        omega
  exact ⟨p, hp, a, b, e1, by omega, by omega, by constructor <;> intro q <;> omega⟩
theorem wend_last {c : CalZ} {y : Int} (h : KindOk c) (y0 : 1601 ≤ y) (y1 : y ≤ 9997) : wend c y (nwk c y) = pend c y (per c) := by
  have pe := perN_is h
  obtain ⟨n, hn⟩ : ∃ n, perN c = n + 1 := ⟨perN c - 1, by omega⟩
  have w := wks_bd h y0 y1 (p := (n : Int) + 1) (by omega) (by omega)
  rw [show (n : Int) + 1 - 1 = n by omega] at w
  have ws : wsum c y (n + 1) = wsum c y n + wks c y ((n : Int) + 1) := rfl
  have e : nwk c y = wsum c y (n + 1) := by unfold nwk; rw [hn]
  rw [e, wend_at h y0 y1 (p := n) (by omega) (by omega) (Int.le_refl _), show per c = (n : Int) + 1 by omega]
  omega
theorem wend_weeks {c : CalZ} {y i : Int} (h : KindOk c) (k : c.k ≠ 6) (y0 : 1601 ≤ y) (y1 : y ≤ 9997) (i0 : 0 ≤ i) (i1 : i ≤ nwk c y) : wend c y i = pend c y 0 + 7 * i := by
  by_cases q : i = 0
  · subst q; rw [wend_zero h y0 y1]; simp
  · obtain ⟨p, hp, a, b⟩ := week_in (y := y) (c := c) (i := i) (by omega) (perN c) i1
    have pe := perN_is h
    have w1 := wsum_end h k y0 y1 p (by omega)
    have w2 := wsum_end h k y0 y1 (p + 1) (by omega)
    rw [show ((p + 1 : Nat) : Int) = (p : Int) + 1 by omega] at w2
    rw [wend_at h y0 y1 hp a b]
    omega
theorem nwk_weeks {c : CalZ} {y : Int} (h : KindOk c) (k : c.k ≠ 6) (y0 : 1601 ≤ y) (y1 : y ≤ 9997) : nwk c y = nweeks c y := wsum_all h k y0 y1 _ (perN_is h).1

/-! all levels -/
theorem quarter_at {c : CalZ} (h : KindOk c) (i : Int) (i0 : 0 ≤ i) (i1 : i ≤ 4) : 0 ≤ per c * i / 4 ∧ per c * i / 4 ≤ per c ∧ (i = 4 → per c * i / 4 = per c) ∧ (i = 0 → per c * i / 4 = 0) ∧ (i < 4 → per c * i / 4 + 3 ≤ per c * (i + 1) / 4) := by
  rcases per_is h with e | e | e | e <;> rw [e] <;> (refine ⟨by omega, by omega, fun q => by omega, fun q => by omega, fun q => by omega⟩)
theorem half_at {c : CalZ} (h : KindOk c) (i : Int) (i0 : 0 ≤ i) (i1 : i ≤ 2) : 0 ≤ per c * (2 * i) / 4 ∧ per c * (2 * i) / 4 ≤ per c ∧ (i = 2 → per c * (2 * i) / 4 = per c) ∧ (i = 0 → per c * (2 * i) / 4 = 0) ∧ (i < 2 → per c * (2 * i) / 4 + 3 ≤ per c * (2 * (i + 1)) / 4) := by
  rcases per_is h with e | e | e | e <;> rw [e] <;> (refine ⟨by omega, by omega, fun q => by omega, fun q => by omega, fun q => by omega⟩)
theorem uend_zero {c : CalZ} {y L : Int} (h : KindOk c) (y0 : 1601 ≤ y) (y1 : y ≤ 9997) (hL : LevOk L) : uend c y L 0 = pend c y 0 := by
  unfold uend
  split
  · simp
  · split
    · simp
    · split
      · simp
      · split
        · rfl
        · exact wend_zero h y0 y1
theorem uend_last {c : CalZ} {y L : Int} (h : KindOk c) (y0 : 1601 ≤ y) (y1 : y ≤ 9997) (hL : LevOk L) : uend c y L (ucount c y L) = pend c y (per c) := by
  unfold uend ucount
  split
  · simp
  · split
    · rw [(half_at h 2 (by omega) (by omega)).2.2.1 rfl]
    · split
      · rw [(quarter_at h 4 (by omega) (by omega)).2.2.1 rfl]
      · split
        · rfl
        · exact wend_last h y0 y1
theorem uend_step {c : CalZ} {y L i : Int} (h : KindOk c) (y0 : 1601 ≤ y) (y1 : y ≤ 9997) (hL : LevOk L) (i0 : 0 ≤ i) (i1 : i < ucount c y L) : uend c y L i < uend c y L (i + 1) := by
  have pb := per_bd h
  unfold uend
  unfold ucount at i1
  split
  · rename_i e
    rw [if_pos e] at i1
    obtain rfl : i = 0 := by omega
    simp
    have := pend_mono h y0 y1 (a := 0) (b := per c) (by omega) (by omega) (by omega)
    omega
  · rename_i e1
    rw [if_neg e1] at i1
    split
    · rename_i e
      rw [if_pos e] at i1
      have a := half_at h i i0 (by omega)
      have b := half_at h (i + 1) (by omega) (by omega)
      have := pend_mono h y0 y1 (a := per c * (2 * i) / 4) (b := per c * (2 * (i + 1)) / 4) a.1 (by have := a.2.2.2.2 (by omega); omega) b.2.1
      have := a.2.2.2.2 (by omega)
      omega
    · rename_i e2
      rw [if_neg e2] at i1
      split
      · rename_i e
        rw [if_pos e] at i1
        have a := quarter_at h i i0 (by omega)
        have b := quarter_at h (i + 1) (by omega) (by omega)
        have := pend_mono h y0 y1 (a := per c * i / 4) (b := per c * (i + 1) / 4) a.1 (by have := a.2.2.2.2 (by omega); omega) b.2.1
        have := a.2.2.2.2 (by omega)
        omega
      · rename_i e3
        rw [if_neg e3] at i1
        split
        · rename_i e
          rw [if_pos e] at i1
          have := pend_mono h y0 y1 (a := i) (b := i + 1) i0 (by omega) (by omega)
          omega
        · rename_i e4
          rw [if_neg e4] at i1
          obtain ⟨p, _, _, _, _, q, r, _⟩ := wend_step h y0 y1 (i := i + 1) (by omega) (by omega)
          rw [show i + 1 - 1 = i by omega] at q r
          omega
theorem uend_mono {c : CalZ} {y L : Int} (h : KindOk c) (y0 : 1601 ≤ y) (y1 : y ≤ 9997) (hL : LevOk L) {a b : Int} (a0 : 0 ≤ a) (l : a ≤ b) (b1 : b ≤ ucount c y L) : uend c y L a + (b - a) ≤ uend c y L b := by
  have e : ∀ k : Nat, a + k ≤ ucount c y L → uend c y L a + k ≤ uend c y L (a + k) := by
    intro k
    induction k with
    | zero => intro _; simp
    | succ n ih =>
      intro hk
      have := ih (by omega)
      have s := uend_step h y0 y1 hL (i := a + n) (by omega) (by omega)
      have e1 : a + ((n + 1 : Nat) : Int) = a + n + 1 := by omega
      rw [e1]; omega
  have := e (b - a).toNat (by omega)
  have e2 : a + ((b - a).toNat : Int) = b := by omega
  rw [e2] at this
  omega
theorem nwk_bd {c : CalZ} {y : Int} (h : KindOk c) (y0 : 1601 ≤ y) (y1 : y ≤ 9997) : 48 ≤ nwk c y ∧ nwk c y ≤ 60 := by
  by_cases k : c.k = 6
  · rcases shape_cases h with q | q | q
    · omega
    · have e : perN c = 12 := by unfold perN; rw [q.2.2.2]; rfl
      have f := fun (p : Nat) (hp : p < 12) => (wks_bd h y0 y1 (p := (p : Int) + 1) (by omega) (by omega)).2.2.2.2 k
      unfold nwk; rw [e]
      have f0 := f 0 (by omega); have f1 := f 1 (by omega); have f2 := f 2 (by omega); have f3 := f 3 (by omega); have f4 := f 4 (by omega); have f5 := f 5 (by omega)
      have f6 := f 6 (by omega); have f7 := f 7 (by omega); have f8 := f 8 (by omega); have f9 := f 9 (by omega); have f10 := f 10 (by omega); have f11 := f 11 (by omega)
      simp only [wsum]
      omega
    · exact absurd k q.2.1
  · rw [nwk_weeks h k y0 y1]
    have := (nweeks_01 h k y0 (by omega)).1
    omega
theorem ucount_bd {c : CalZ} {y L : Int} (h : KindOk c) (y0 : 1601 ≤ y) (y1 : y ≤ 9997) : 1 ≤ ucount c y L ∧ ucount c y L ≤ 60 := by
  have a := nwk_bd h y0 y1
  have b := per_bd h
  unfold ucount
  repeat' split
  all_goals omega

end Go.Proofs.YtnjmokmlnpehdaaGreatDoor.Am

namespace Go.Proofs.YtnjmokmlnpehdaaGreatDoor.Am
set_option linter.unusedSimpArgs false
set_option linter.unusedVariables false
open Go.Proofs.YtnjmokmlnpehdaaGreatDoor.Cm Go.Proofs.YtnjmokmlnpehdaaGreatDoor.Em

/-- day d lies in unit i of level L -/
def InU (c : CalZ) (y L d i : Int) : Prop := 1 ≤ i ∧ i ≤ ucount c y L ∧ uend c y L (i - 1) < d ∧ d ≤ uend c y L i
section
variable {c : CalZ} {y L M d i j : Int}
theorem inu_ex (h : KindOk c) (y0 : 1601 ≤ y) (y1 : y ≤ 9997) (hL : LevOk L) (d0 : pend c y 0 < d) (d1 : d ≤ pend c y (per c)) : ∃ i, InU c y L d i := by
  have e : ∀ k : Nat, (k : Int) ≤ ucount c y L → d ≤ uend c y L k → ∃ i, InU c y L d i := by
    intro k
    induction k with
    | zero => intro _ q; rw [show ((0 : Nat) : Int) = 0 from rfl, uend_zero h y0 y1 hL] at q; omega
    | succ n ih =>
      intro hk q
      by_cases r : d ≤ uend c y L n
      · exact ih (by omega) r
      · rw [show ((n + 1 : Nat) : Int) = (n : Int) + 1 by omega] at q
        exact ⟨(n : Int) + 1, by omega, by omega, by rw [show (n : Int) + 1 - 1 = n by omega]; omega, q⟩
  have b := ucount_bd (L := L) h y0 y1
  have l := uend_last h y0 y1 hL
  refine e (ucount c y L).toNat (by omega) ?_
  rw [show (((ucount c y L).toNat : Nat) : Int) = ucount c y L by omega, l]
  exact d1
theorem inu_uniq (h : KindOk c) (y0 : 1601 ≤ y) (y1 : y ≤ 9997) (hL : LevOk L) (a : InU c y L d i) (b : InU c y L d j) : i = j := by
  obtain ⟨a0, a1, a2, a3⟩ := a
  obtain ⟨b0, b1, b2, b3⟩ := b
  rcases Int.lt_trichotomy i j with l | l | l
  · have := uend_mono h y0 y1 hL (a := i) (b := j - 1) (by omega) (by omega) (by omega); omega
  · exact l
  · have := uend_mono h y0 y1 hL (a := j) (b := i - 1) (by omega) (by omega) (by omega); omega
/-- which units end ahead of a day -/
theorem inu_lt (h : KindOk c) (y0 : 1601 ≤ y) (y1 : y ≤ 9997) (hL : LevOk L) (a : InU c y L d i) (j0 : 1 ≤ j) (j1 : j ≤ ucount c y L) : uend c y L j < d ↔ j < i := by
  obtain ⟨a0, a1, a2, a3⟩ := a
  constructor
  · intro q
    by_cases r : j < i
    · exact r
    · have := uend_mono h y0 y1 hL (a := i) (b := j) (by omega) (by omega) j1; omega
  · intro q
    have := uend_mono h y0 y1 hL (a := j) (b := i - 1) (by omega) (by omega) (by omega); omega
theorem uend_bd (h : KindOk c) (y0 : 1601 ≤ y) (y1 : y ≤ 9997) (hL : LevOk L) (i0 : 0 ≤ i) (i1 : i ≤ ucount c y L) : pend c y 0 ≤ uend c y L i ∧ uend c y L i ≤ pend c y (per c) ∧ 0 ≤ uend c y L i ∧ uend c y L i ≤ 3068036 := by
  have a := uend_mono h y0 y1 hL (a := 0) (b := i) (by omega) i0 i1
  have b := uend_mono h y0 y1 hL (a := i) (b := ucount c y L) i0 i1 (by omega)
  rw [uend_zero h y0 y1 hL] at a
  rw [uend_last h y0 y1 hL] at b
  have pb := per_bd h
  have e := pend_bd h y0 y1 (p := 0) (by omega) (by omega)
  have f := pend_bd h y0 y1 (p := per c) (by omega) (by omega)
  omega
/-- a unit's end is an end of each finer level -/
theorem edge_step (h : KindOk c) (y0 : 1601 ≤ y) (y1 : y ≤ 9997) (hL : 1 ≤ L) (hL2 : L ≤ 4) (i0 : 0 ≤ i) (i1 : i ≤ ucount c y L) : ∃ j, 0 ≤ j ∧ j ≤ ucount c y (L + 1) ∧ uend c y (L + 1) j = uend c y L i := by
  have l : L = 1 ∨ L = 2 ∨ L = 3 ∨ L = 4 := by omega
  have pb := per_bd h
  rcases l with rfl | rfl | rfl | rfl
  · simp only [ucount] at *
    have : i = 0 ∨ i = 1 := by simp at i1; omega
    rcases this with rfl | rfl
    · exact ⟨0, by omega, by simp, by simp [uend]⟩
    · refine ⟨2, by omega, by simp, ?_⟩
      have := (half_at h 2 (by omega) (by omega)).2.2.1 rfl
      simp only [uend]
      simp at this ⊢
      try rw [this]
  · simp [ucount] at i1
    refine ⟨2 * i, by omega, by simp [ucount]; omega, ?_⟩
    simp [uend]
  · simp [ucount] at i1
    have q := quarter_at h i i0 i1
    exact ⟨per c * i / 4, q.1, by simp [ucount]; exact q.2.1, by simp [uend]⟩
  · simp [ucount] at i1
    have pe := perN_is h
    obtain ⟨n, rfl⟩ : ∃ n : Nat, i = n := ⟨i.toNat, by omega⟩
    have s0 := wsum_step h y0 y1 (a := 0) (b := n) (by omega) (by omega)
    have s1 := wsum_step h y0 y1 (a := n) (b := perN c) (by omega) (by omega)
    rw [show wsum c y 0 = 0 from rfl] at s0
    refine ⟨wsum c y n, by omega, by simp [ucount, nwk]; omega, ?_⟩
    have e : uend c y 5 (wsum c y n) = wend c y (wsum c y n) := by simp [uend]
    have e2 : uend c y 4 n = pend c y n := by simp [uend]
    rw [show (4 : Int) + 1 = 5 by omega, e, e2]
    cases n with
    | zero => exact wend_zero h y0 y1
    | succ k =>
      have w := wks_bd h y0 y1 (p := (k : Int) + 1) (by omega) (by omega)
      rw [show (k : Int) + 1 - 1 = k by omega] at w
      have ws : wsum c y (k + 1) = wsum c y k + wks c y ((k : Int) + 1) := rfl
      rw [wend_at h y0 y1 (p := k) (by omega) (by omega) (Int.le_refl _), show ((k + 1 : Nat) : Int) = (k : Int) + 1 by omega]
      omega
theorem edge (h : KindOk c) (y0 : 1601 ≤ y) (y1 : y ≤ 9997) (hL : 1 ≤ L) (hM : M ≤ 5) (l : L ≤ M) (i0 : 0 ≤ i) (i1 : i ≤ ucount c y L) : ∃ j, 0 ≤ j ∧ j ≤ ucount c y M ∧ uend c y M j = uend c y L i := by
  have e : ∀ k : Nat, L + k ≤ 5 → ∃ j, 0 ≤ j ∧ j ≤ ucount c y (L + k) ∧ uend c y (L + k) j = uend c y L i := by
    intro k
    induction k with
    | zero => intro _; exact ⟨i, i0, by simpa using i1, by simp⟩
    | succ n ih =>
      intro hk
      obtain ⟨j, j0, j1, je⟩ := ih (by omega)
      obtain ⟨j', a, b, d⟩ := edge_step h y0 y1 (L := L + n) (by omega) (by omega) j0 j1
      rw [show L + ((n + 1 : Nat) : Int) = L + n + 1 by omega]
      exact ⟨j', a, b, d.trans je⟩
  have := e (M - L).toNat (by omega)
  rwa [show L + ((M - L).toNat : Int) = M by omega] at this
/-- a unit lies in one unit of each coarser level -/
theorem inside (h : KindOk c) (y0 : 1601 ≤ y) (y1 : y ≤ 9997) (hL : 1 ≤ L) (hM : M ≤ 5) (l : L ≤ M) (i0 : 1 ≤ i) (i1 : i ≤ ucount c y M) (a : InU c y L (uend c y M (i - 1) + 1) j) :
    uend c y L (j - 1) ≤ uend c y M (i - 1) ∧ uend c y M i ≤ uend c y L j := by
  obtain ⟨a0, a1, a2, a3⟩ := a
  refine ⟨by omega, ?_⟩
  obtain ⟨k, k0, k1, e⟩ := edge h y0 y1 hL hM l (i := j) (by omega) a1
  rw [← e] at a3 ⊢
  have hM' : LevOk M := ⟨by omega, hM⟩
  by_cases q : k ≤ i - 1
  · have := uend_mono h y0 y1 hM' (a := k) (b := i - 1) k0 q (by omega); omega
  · have := uend_mono h y0 y1 hM' (a := i) (b := k) (by omega) (by omega) k1; omega
/-- the finer unit that begins with a unit -/
theorem first_in (h : KindOk c) (y0 : 1601 ≤ y) (y1 : y ≤ 9997) (hL : 1 ≤ L) (hM : M ≤ 5) (l : L ≤ M) (i0 : 1 ≤ i) (i1 : i ≤ ucount c y L) : ∃ a, InU c y M (uend c y L (i - 1) + 1) a ∧ uend c y M (a - 1) = uend c y L (i - 1) := by
  obtain ⟨k, k0, k1, e⟩ := edge h y0 y1 hL hM l (i := i - 1) (by omega) (by omega)
  have hM' : LevOk M := ⟨by omega, hM⟩
  have hL' : LevOk L := ⟨hL, by omega⟩
  have s := uend_step h y0 y1 hL' (i := i - 1) (by omega) (by omega)
  rw [show i - 1 + 1 = i by omega] at s
  have b := uend_bd h y0 y1 hL' (i := i) (by omega) i1
  have lst := uend_last h y0 y1 hM'
  have kk : k < ucount c y M := by
    by_cases q : k = ucount c y M
    · rw [q, lst] at e; omega
    · omega
  have s2 := uend_step h y0 y1 hM' (i := k) k0 kk
  refine ⟨k + 1, ⟨by omega, by omega, by rw [show k + 1 - 1 = k by omega, e]; omega, by omega⟩, by rw [show k + 1 - 1 = k by omega]; exact e⟩
/-- the finer unit that ends with a unit -/
theorem last_in (h : KindOk c) (y0 : 1601 ≤ y) (y1 : y ≤ 9997) (hL : 1 ≤ L) (hM : M ≤ 5) (l : L ≤ M) (i0 : 1 ≤ i) (i1 : i ≤ ucount c y L) : ∃ b, InU c y M (uend c y L i) b ∧ uend c y M b = uend c y L i := by
  obtain ⟨k, k0, k1, e⟩ := edge h y0 y1 hL hM l (i := i) (by omega) i1
  have hM' : LevOk M := ⟨by omega, hM⟩
  have hL' : LevOk L := ⟨hL, by omega⟩
  have s := uend_mono h y0 y1 hL' (a := 0) (b := i) (by omega) (by omega) i1
  rw [uend_zero h y0 y1 hL', ← uend_zero h y0 y1 hM'] at s
  have kk : 0 < k := by
    by_cases q : k = 0
    · rw [q] at e; omega
    · omega
  have s2 := uend_step h y0 y1 hM' (i := k - 1) (by omega) (by omega)
  rw [show k - 1 + 1 = k by omega] at s2
  exact ⟨k, ⟨by omega, k1, by omega, by omega⟩, e⟩
end

/-! what the functions answer -/
def Served (c : CalZ) (y : Int) : Prop := c.fi ≤ y ∧ y ≤ c.la
def CountA (c : CalZ) (L y v er : Int) : Prop :=
  (CalOk c ∧ LevOk L ∧ Served c y ∧ v = ucount c y L ∧ er = 0) ∨ (CalOk c ∧ LevOk L ∧ ¬ Served c y ∧ v = 0 ∧ er = 11) ∨ (CalOk c ∧ ¬ LevOk L ∧ v = 0 ∧ er = 1) ∨ (¬ CalOk c ∧ v = 0 ∧ er = 1)
def UnitOk (c : CalZ) (L y i : Int) : Prop := CalOk c ∧ LevOk L ∧ Served c y ∧ 1 ≤ i ∧ i ≤ ucount c y L
def UChkA (c : CalZ) (L y i er : Int) : Prop := ∃ v e, CountA c L y v e ∧ ((e ≠ 0 ∧ er = e) ∨ (e = 0 ∧ ¬ (1 ≤ i ∧ i ≤ v) ∧ er = 13) ∨ (e = 0 ∧ 1 ≤ i ∧ i ≤ v ∧ er = 0))
def SpanA (c : CalZ) (L y i a b er : Int) : Prop := (UnitOk c L y i ∧ a = uend c y L (i - 1) + 1 ∧ b = uend c y L i ∧ er = 0) ∨ (¬ UnitOk c L y i ∧ UChkA c L y i er ∧ a = 0 ∧ b = 0)
theorem served_told {c : CalZ} {y : Int} (h : CalOk c) (s : Served c y) : 1602 ≤ y ∧ y ≤ 9996 := by
  obtain ⟨_, _, ⟨a, b, _⟩, _⟩ := h
  obtain ⟨s0, s1⟩ := s
  omega
theorem counta_ex (c : CalZ) (L y : Int) : ∃ v er, CountA c L y v er := by
  by_cases h : CalOk c
  · by_cases l : LevOk L
    · by_cases s : Served c y
      · exact ⟨_, 0, .inl ⟨h, l, s, rfl, rfl⟩⟩
      · exact ⟨0, 11, .inr (.inl ⟨h, l, s, rfl, rfl⟩)⟩
    · exact ⟨0, 1, .inr (.inr (.inl ⟨h, l, rfl, rfl⟩))⟩
  · exact ⟨0, 1, .inr (.inr (.inr ⟨h, rfl, rfl⟩))⟩
theorem uchka_ex (c : CalZ) (L y i : Int) : ∃ er, UChkA c L y i er := by
  obtain ⟨v, e, h⟩ := counta_ex c L y
  by_cases q : e = 0
  · by_cases k : 1 ≤ i ∧ i ≤ v
    · exact ⟨0, v, e, h, .inr (.inr ⟨q, k.1, k.2, rfl⟩)⟩
    · exact ⟨13, v, e, h, .inr (.inl ⟨q, k, rfl⟩)⟩
  · exact ⟨e, v, e, h, .inl ⟨q, rfl⟩⟩
theorem uchka_ok {c : CalZ} {L y i er : Int} (h : UChkA c L y i er) : er = 0 ↔ UnitOk c L y i := by
  obtain ⟨v, e, h, k⟩ := h
  unfold UnitOk
  rcases h with ⟨a, b, s, rfl, rfl⟩ | ⟨a, b, s, rfl, rfl⟩ | ⟨a, b, rfl, rfl⟩ | ⟨a, rfl, rfl⟩
  · constructor
    · intro q; exact ⟨a, b, s, by omega⟩
    · rintro ⟨_, _, _, q⟩; omega
  · constructor
    · intro q; omega
    · rintro ⟨_, _, q, _⟩; exact absurd q s
  · constructor
    · intro q; omega
    · rintro ⟨_, q, _⟩; exact absurd q b
  · constructor
    · intro q; omega
    · rintro ⟨q, _⟩; exact absurd q a
theorem spana_ex (c : CalZ) (L y i : Int) : ∃ a b er, SpanA c L y i a b er := by
  obtain ⟨er, h⟩ := uchka_ex c L y i
  by_cases k : UnitOk c L y i
  · exact ⟨_, _, 0, .inl ⟨k, rfl, rfl, rfl⟩⟩
  · exact ⟨0, 0, er, .inr ⟨k, h, rfl, rfl⟩⟩

end Go.Proofs.YtnjmokmlnpehdaaGreatDoor.Am

namespace Go.Proofs.YtnjmokmlnpehdaaGreatDoor.Am
set_option linter.unusedSimpArgs false
set_option linter.unusedVariables false
open Go.Proofs.YtnjmokmlnpehdaaGreatDoor.Cm Go.Proofs.YtnjmokmlnpehdaaGreatDoor.Em

theorem yend_le {c : CalZ} {a b : Int} (h : KindOk c) (a0 : 1600 ≤ a) (l : a ≤ b) (b1 : b ≤ 9998) : yend c a ≤ yend c b := by
  by_cases e : a = b
  · subst e; omega
  · have := yend_lt h a0 (by omega : a < b) b1; omega
/-- the year of the day behind a day of a year -/
theorem next_year {c : CalZ} {n y : Int} (ok : CalOk c) (n0 : 0 ≤ n) (y0 : 1601 ≤ y) (y1 : y ≤ 9997) (ya : yend c (y - 1) < n) (yb : n ≤ yend c y) :
    (n < yend c y ∧ OfA c (n + 1) y 0) ∨ (n = yend c y ∧ y < 9997 ∧ OfA c (n + 1) (y + 1) 0) ∨ (n = yend c y ∧ y = 9997 ∧ ∃ e, e ≠ 0 ∧ OfA c (n + 1) 0 e) := by
  have b := yend_bd ok.1 (y := y) (by omega) y1
  by_cases h : n < yend c y
  · exact .inl ⟨h, .inl ⟨ok, by omega, by omega, y0, y1, by omega, by omega, rfl⟩⟩
  · by_cases k : y < 9997
    · have s := yend_step ok.1 (y := y) (by omega) (by omega)
      have b2 := yend_bd ok.1 (y := y + 1) (by omega) (by omega)
      exact .inr (.inl ⟨by omega, k, .inl ⟨ok, by omega, by omega, by omega, by omega, by rw [show y + 1 - 1 = y by omega]; omega, by omega, rfl⟩⟩)
    · obtain rfl : y = 9997 := by omega
      refine .inr (.inr ⟨by omega, rfl, ?_⟩)
      by_cases q : n + 1 ≤ 3068036
      · exact ⟨11, by decide, .inr (.inl ⟨ok, by omega, q, .inr (by omega), rfl, rfl⟩)⟩
      · exact ⟨4, by decide, .inr (.inr (.inl ⟨ok, by omega, rfl, rfl⟩))⟩
/-- the year of the day ahead of a year's first one -/
theorem prev_year {c : CalZ} {y : Int} (ok : CalOk c) (y0 : 1601 ≤ y) (y1 : y ≤ 9997) :
    (1601 < y ∧ OfA c (yend c (y - 1)) (y - 1) 0) ∨ (y = 1601 ∧ ∃ e, e ≠ 0 ∧ OfA c (yend c (y - 1)) 0 e) := by
  have b := yend_bd ok.1 (y := y - 1) (by omega) (by omega)
  by_cases k : 1601 < y
  · have s := yend_step ok.1 (y := y - 1 - 1) (by omega) (by omega)
    rw [show y - 1 - 1 + 1 = y - 1 by omega] at s
    exact .inl ⟨k, .inl ⟨ok, b.1, b.2, by omega, by omega, by omega, by omega, rfl⟩⟩
  · obtain rfl : y = 1601 := by omega
    exact .inr ⟨rfl, 11, by decide, .inr (.inl ⟨ok, b.1, b.2, .inl (show yend c (1601 - 1) ≤ yend c 1600 from Int.le_refl _), rfl, rfl⟩)⟩

end Go.Proofs.YtnjmokmlnpehdaaGreatDoor.Am

namespace Go.Proofs.YtnjmokmlnpehdaaGreatDoor.Am
set_option linter.unusedSimpArgs false
set_option linter.unusedVariables false
open Go.Proofs.YtnjmokmlnpehdaaGreatDoor.Cm Go.Proofs.YtnjmokmlnpehdaaGreatDoor.Em

/-- the unit of level L in which day n lies, if it is served -/
def DayA (c : CalZ) (n L p q r er : Int) : Prop :=
  (CalOk c ∧ LevOk L ∧ ServedA c n q 0 ∧ InU c q L n r ∧ p = L ∧ er = 0) ∨ (CalOk c ∧ LevOk L ∧ ServedA c n 0 er ∧ er ≠ 0 ∧ p = 0 ∧ q = 0 ∧ r = 0) ∨ (CalOk c ∧ ¬ LevOk L ∧ p = 0 ∧ q = 0 ∧ r = 0 ∧ er = 1) ∨ (¬ CalOk c ∧ p = 0 ∧ q = 0 ∧ r = 0 ∧ er = 1)
def NextA (c : CalZ) (L y i p q r er : Int) : Prop := (UnitOk c L y i ∧ DayA c (uend c y L i + 1) L p q r er) ∨ (¬ UnitOk c L y i ∧ UChkA c L y i er ∧ p = 0 ∧ q = 0 ∧ r = 0)
def BackA (c : CalZ) (L y i p q r er : Int) : Prop := (UnitOk c L y i ∧ DayA c (uend c y L (i - 1)) L p q r er) ∨ (¬ UnitOk c L y i ∧ UChkA c L y i er ∧ p = 0 ∧ q = 0 ∧ r = 0)

theorem served_of {c : CalZ} {n y : Int} (ok : CalOk c) (s : Served c y) (a : yend c (y - 1) < n) (b : n ≤ yend c y) : ServedA c n y 0 := by
  have st := served_told ok s
  have b0 := yend_bd ok.1 (y := y - 1) (by omega) (by omega)
  have b1 := yend_bd ok.1 (y := y) (by omega) (by omega)
  exact ⟨y, 0, .inl ⟨ok, by omega, by omega, by omega, by omega, a, b, rfl⟩, .inr (.inl ⟨rfl, s.1, s.2, rfl, rfl⟩)⟩
theorem served_to {c : CalZ} {n y : Int} (h : ServedA c n y 0) : CalOk c ∧ Served c y ∧ yend c (y - 1) < n ∧ n ≤ yend c y := by
  obtain ⟨z, e, R, O⟩ := h
  rcases O with ⟨h1, _, h2⟩ | ⟨h1, h2, h3, rfl, _⟩ | ⟨_, _, _, h⟩
  · omega
  · rcases R with ⟨ok, _, _, _, _, a, b, _⟩ | ⟨_, _, _, _, _, h⟩ | ⟨_, _, _, h⟩ | ⟨_, _, h⟩
    · exact ⟨ok, ⟨h2, h3⟩, a, b⟩
    all_goals omega
  · omega
theorem served_er {c : CalZ} {n y er : Int} (h : ServedA c n y er) (k : er ≠ 0) : y = 0 ∧ (er = 1 ∨ er = 4 ∨ er = 11) ∧ (CalOk c → er ≠ 1) := by
  obtain ⟨z, e, R, O⟩ := h
  rcases O with ⟨h1, h3, h2⟩ | ⟨_, _, _, _, h⟩ | ⟨_, _, h3, h⟩
  · refine ⟨h3, ?_⟩
    rcases R with ⟨_, _, _, _, _, _, _, h⟩ | ⟨_, _, _, _, _, h⟩ | ⟨_, _, _, h⟩ | ⟨q, _, h⟩
    · omega
    · exact ⟨by omega, fun _ => by omega⟩
    · exact ⟨by omega, fun _ => by omega⟩
    · exact ⟨by omega, fun x => absurd x q⟩
  · omega
  · exact ⟨h3, by omega, fun _ => by omega⟩
theorem daya_ex (c : CalZ) (n L : Int) : ∃ p q r er, DayA c n L p q r er := by
  by_cases ok : CalOk c
  · by_cases l : LevOk L
    · obtain ⟨v, er, S⟩ := serveda_ex c n
      by_cases e : er = 0
      · subst e
        have t := served_to S
        have st := served_told ok t.2.1
        have z := pend_zero c v
        have z2 := pend_last ok.1 (y := v) (by omega) (by omega)
        obtain ⟨r, hr⟩ := inu_ex (y := v) (L := L) (d := n) ok.1 (by omega) (by omega) l (by omega) (by omega)
        exact ⟨L, v, r, 0, .inl ⟨ok, l, S, hr, rfl, rfl⟩⟩
      · have t := served_er S e
        obtain rfl := t.1
        exact ⟨0, 0, 0, er, .inr (.inl ⟨ok, l, S, e, rfl, rfl, rfl⟩)⟩
    · exact ⟨0, 0, 0, 1, .inr (.inr (.inl ⟨ok, l, rfl, rfl, rfl, rfl⟩))⟩
  · exact ⟨0, 0, 0, 1, .inr (.inr (.inr ⟨ok, rfl, rfl, rfl, rfl⟩))⟩
theorem daya_to {c : CalZ} {n L p q r : Int} (h : DayA c n L p q r 0) : UnitOk c L q r ∧ uend c q L (r - 1) < n ∧ n ≤ uend c q L r ∧ p = L ∧ ServedA c n q 0 := by
  rcases h with ⟨ok, l, s, u, e, _⟩ | ⟨_, _, _, h, _⟩ | ⟨_, _, _, _, _, h⟩ | ⟨_, _, _, _, h⟩
  · exact ⟨⟨ok, l, (served_to s).2.1, u.1, u.2.1⟩, u.2.2.1, u.2.2.2, e, s⟩
  all_goals omega
theorem daya_er {c : CalZ} {n L p q r er : Int} (h : DayA c n L p q r er) (k : er ≠ 0) : p = 0 ∧ q = 0 ∧ r = 0 ∧ (er = 1 ∨ er = 4 ∨ er = 11) := by
  rcases h with ⟨_, _, _, _, _, h⟩ | ⟨_, _, s, h, e1, e2, e3⟩ | ⟨_, _, e1, e2, e3, h⟩ | ⟨_, e1, e2, e3, h⟩
  · omega
  · exact ⟨e1, e2, e3, (served_er s h).2.1⟩
  · exact ⟨e1, e2, e3, .inl h⟩
  · exact ⟨e1, e2, e3, .inl h⟩
theorem unit_year {c : CalZ} {L y i n : Int} (h : UnitOk c L y i) (a : uend c y L (i - 1) < n) (b : n ≤ uend c y L i) : yend c (y - 1) < n ∧ n ≤ yend c y ∧ 1602 ≤ y ∧ y ≤ 9996 := by
  obtain ⟨ok, l, s, i0, i1⟩ := h
  have st := served_told ok s
  have z := pend_zero c y
  have z2 := pend_last ok.1 (y := y) (by omega) (by omega)
  have b0 := uend_bd (y := y) (i := i - 1) ok.1 (by omega) (by omega) l (by omega) (by omega)
  have b1 := uend_bd (y := y) (i := i) ok.1 (by omega) (by omega) l (by omega) (by omega)
  omega
theorem daya_of {c : CalZ} {L y i n : Int} (h : UnitOk c L y i) (a : uend c y L (i - 1) < n) (b : n ≤ uend c y L i) : DayA c n L L y i 0 := by
  have u := unit_year h a b
  exact .inl ⟨h.1, h.2.1, served_of h.1 h.2.2.1 u.1 u.2.1, ⟨h.2.2.2.1, h.2.2.2.2, a, b⟩, rfl, rfl⟩
theorem next_ex {c : CalZ} {L y i : Int} (h : UnitOk c L y i) : (i < ucount c y L ∧ NextA c L y i L y (i + 1) 0 ∧ UnitOk c L y (i + 1) ∧ uend c y L (i + 1 - 1) = uend c y L i) ∨
    (i = ucount c y L ∧ y < c.la ∧ NextA c L y i L (y + 1) 1 0 ∧ UnitOk c L (y + 1) 1 ∧ uend c (y + 1) L (1 - 1) = uend c y L i) ∨ (i = ucount c y L ∧ y = c.la ∧ NextA c L y i 0 0 0 11) := by
  have h0 := h
  obtain ⟨ok, l, s, i0, i1⟩ := h
  have st := served_told ok s
  by_cases q : i < ucount c y L
  · have v : UnitOk c L y (i + 1) := ⟨ok, l, s, by omega, by omega⟩
    have e : uend c y L (i + 1 - 1) = uend c y L i := by rw [show i + 1 - 1 = i by omega]
    have t := uend_step (y := y) (i := i) ok.1 (by omega) (by omega) l (by omega) (by omega)
    exact .inl ⟨q, .inl ⟨h0, daya_of v (by omega) (by omega)⟩, v, e⟩
  · have e : i = ucount c y L := by omega
    have z2 := pend_last ok.1 (y := y) (by omega) (by omega)
    have z3 := uend_last (y := y) (L := L) ok.1 (by omega) (by omega) l
    rw [← e] at z3
    by_cases k : y < c.la
    · have s2 : Served c (y + 1) := ⟨by have := s.1; omega, by omega⟩
      have st2 := served_told ok s2
      have cb := ucount_bd (L := L) (y := y + 1) ok.1 (by omega) (by omega)
      have v : UnitOk c L (y + 1) 1 := ⟨ok, l, s2, by omega, by omega⟩
      have z := pend_zero c (y + 1)
      rw [show y + 1 - 1 = y by omega] at z
      have z4 := uend_zero (y := y + 1) (L := L) ok.1 (by omega) (by omega) l
      have e2 : uend c (y + 1) L (1 - 1) = uend c y L i := by rw [show (1 : Int) - 1 = 0 by omega]; omega
      have t := uend_step (y := y + 1) (i := 0) ok.1 (by omega) (by omega) l (by omega) (by omega)
      rw [show (0 : Int) + 1 = 1 by omega] at t
      rw [show (1 : Int) - 1 = 0 by omega] at e2
      exact .inr (.inl ⟨e, k, .inl ⟨h0, daya_of v (by rw [show (1 : Int) - 1 = 0 by omega]; omega) (by omega)⟩, v, e2⟩)
    · have e3 : y = c.la := by have := s.2; omega
      have b1 := yend_step ok.1 (y := y) (by omega) (by omega)
      have b2 := yend_bd ok.1 (y := y + 1) (by omega) (by omega)
      have b3 := yend_bd ok.1 (y := y) (by omega) (by omega)
      refine .inr (.inr ⟨e, e3, .inl ⟨h0, .inr (.inl ⟨ok, l, ⟨y + 1, 0, .inl ⟨ok, by omega, by omega, by omega, by omega, by rw [show y + 1 - 1 = y by omega]; omega, by omega, rfl⟩, .inr (.inr ⟨rfl, by omega, rfl, rfl⟩)⟩, by decide, rfl, rfl, rfl⟩)⟩⟩)
theorem back_ex {c : CalZ} {L y i : Int} (h : UnitOk c L y i) : (1 < i ∧ BackA c L y i L y (i - 1) 0 ∧ UnitOk c L y (i - 1)) ∨
    (i = 1 ∧ c.fi < y ∧ BackA c L y i L (y - 1) (ucount c (y - 1) L) 0 ∧ UnitOk c L (y - 1) (ucount c (y - 1) L) ∧ uend c (y - 1) L (ucount c (y - 1) L) = uend c y L (i - 1)) ∨ (i = 1 ∧ y = c.fi ∧ BackA c L y i 0 0 0 11) := by
  have h0 := h
  obtain ⟨ok, l, s, i0, i1⟩ := h
  have st := served_told ok s
  by_cases q : 1 < i
  · have v : UnitOk c L y (i - 1) := ⟨ok, l, s, by omega, by omega⟩
    have t := uend_step (y := y) (i := i - 1 - 1) ok.1 (by omega) (by omega) l (by omega) (by omega)
    rw [show i - 1 - 1 + 1 = i - 1 by omega] at t
    exact .inl ⟨q, .inl ⟨h0, daya_of v t (Int.le_refl _)⟩, v⟩
  · obtain rfl : i = 1 := by omega
    have z := pend_zero c y
    have z4 := uend_zero (y := y) (L := L) ok.1 (by omega) (by omega) l
    by_cases k : c.fi < y
    · have s2 : Served c (y - 1) := ⟨by omega, by have := s.2; omega⟩
      have st2 := served_told ok s2
      have cb := ucount_bd (L := L) (y := y - 1) ok.1 (by omega) (by omega)
      have v : UnitOk c L (y - 1) (ucount c (y - 1) L) := ⟨ok, l, s2, by omega, by omega⟩
      have z2 := pend_last ok.1 (y := y - 1) (by omega) (by omega)
      have z3 := uend_last (y := y - 1) (L := L) ok.1 (by omega) (by omega) l
      have e : uend c (y - 1) L (ucount c (y - 1) L) = uend c y L (1 - 1) := by rw [show (1 : Int) - 1 = 0 by omega]; omega
      have t := uend_step (y := y - 1) (i := ucount c (y - 1) L - 1) ok.1 (by omega) (by omega) l (by omega) (by omega)
      rw [show ucount c (y - 1) L - 1 + 1 = ucount c (y - 1) L by omega] at t
      exact .inr (.inl ⟨rfl, k, .inl ⟨h0, daya_of v (by omega) (by omega)⟩, v, e⟩)
    · have e3 : y = c.fi := by have := s.1; omega
      have b1 := yend_step ok.1 (y := y - 2) (by omega) (by omega)
      rw [show y - 2 + 1 = y - 1 by omega] at b1
      have b2 := yend_bd ok.1 (y := y - 1) (by omega) (by omega)
      refine .inr (.inr ⟨rfl, e3, .inl ⟨h0, .inr (.inl ⟨ok, l, ⟨y - 1, 0, .inl ⟨ok, ?_, ?_, by omega, by omega, ?_, ?_, rfl⟩, .inr (.inr ⟨rfl, by omega, rfl, rfl⟩)⟩, by decide, rfl, rfl, rfl⟩)⟩⟩)
      all_goals rw [show (1 : Int) - 1 = 0 by omega, z4, z]
      · exact b2.1
      · exact b2.2
      · rw [show y - 1 - 1 = y - 2 by omega]; omega
      · exact Int.le_refl _
theorem nexta_ex (c : CalZ) (L y i : Int) : ∃ p q r er, NextA c L y i p q r er := by
  by_cases h : UnitOk c L y i
  · obtain ⟨p, q, r, er, d⟩ := daya_ex c (uend c y L i + 1) L
    exact ⟨p, q, r, er, .inl ⟨h, d⟩⟩
  · obtain ⟨er, e⟩ := uchka_ex c L y i
    exact ⟨0, 0, 0, er, .inr ⟨h, e, rfl, rfl, rfl⟩⟩
theorem backa_ex (c : CalZ) (L y i : Int) : ∃ p q r er, BackA c L y i p q r er := by
  by_cases h : UnitOk c L y i
  · obtain ⟨p, q, r, er, d⟩ := daya_ex c (uend c y L (i - 1)) L
    exact ⟨p, q, r, er, .inl ⟨h, d⟩⟩
  · obtain ⟨er, e⟩ := uchka_ex c L y i
    exact ⟨0, 0, 0, er, .inr ⟨h, e, rfl, rfl, rfl⟩⟩
/-- which of them there are: as the bounds say -/
theorem next_bound {c : CalZ} {L y i : Int} (h : UnitOk c L y i) : (uend c y L i < yend c c.la ↔ ¬ (i = ucount c y L ∧ y = c.la)) ∧ (yend c (c.fi - 1) < uend c y L (i - 1) ↔ ¬ (i = 1 ∧ y = c.fi)) ∧ yend c (c.fi - 1) ≤ uend c y L (i - 1) ∧ uend c y L i ≤ yend c c.la := by
  obtain ⟨ok, l, s, i0, i1⟩ := h
  have st := served_told ok s
  have yo := ok.2.2.1
  obtain ⟨y0, y1, y2, _⟩ := yo
  have z := pend_zero c y
  have z2 := pend_last ok.1 (y := y) (by omega) (by omega)
  have z3 := uend_last (y := y) (L := L) ok.1 (by omega) (by omega) l
  have z4 := uend_zero (y := y) (L := L) ok.1 (by omega) (by omega) l
  have m1 := uend_mono (y := y) ok.1 (by omega) (by omega) l (a := i) (b := ucount c y L) (by omega) (by omega) (by omega)
  have m2 := uend_mono (y := y) ok.1 (by omega) (by omega) l (a := 0) (b := i - 1) (by omega) (by omega) (by omega)
  have q1 : y < c.la → yend c y < yend c c.la := fun k => by have := yend_lt ok.1 (a := y) (b := c.la) (by omega) k (by omega); omega
  have q2 : c.fi < y → yend c (c.fi - 1) < yend c (y - 1) := fun k => by have := yend_lt ok.1 (a := c.fi - 1) (b := y - 1) (by omega) (by omega) (by omega); omega
  obtain ⟨s0, s1⟩ := s
  have r1 : y = c.la → yend c y = yend c c.la := fun k => by rw [k]
  have r2 : y = c.fi → yend c (y - 1) = yend c (c.fi - 1) := fun k => by rw [k]
  have r3 : i = ucount c y L → uend c y L i = yend c y := fun k => by rw [k]; omega
  have r4 : i = 1 → uend c y L (i - 1) = yend c (y - 1) := fun k => by rw [k, show (1 : Int) - 1 = 0 by omega]; omega
  refine ⟨⟨fun k q => ?_, fun k => ?_⟩, ⟨fun k q => ?_, fun k => ?_⟩, ?_, ?_⟩
  · have := r1 q.2; have := r3 q.1; omega
  · by_cases e : y = c.la
    · have := r1 e; omega
    · have := q1 (by omega); omega
  · have := r2 q.2; have := r4 q.1; omega
  · by_cases e : y = c.fi
    · have := r2 e; omega
    · have := q2 (by omega); omega
  · by_cases e : y = c.fi
    · have := r2 e; omega
    · have := q2 (by omega); omega
  · by_cases e : y = c.la
    · have := r1 e; omega
    · have := q1 (by omega); omega

end Go.Proofs.YtnjmokmlnpehdaaGreatDoor.Am

namespace Go.Proofs.YtnjmokmlnpehdaaGreatDoor.Am
set_option linter.unusedSimpArgs false
set_option linter.unusedVariables false
open Go.Proofs.YtnjmokmlnpehdaaGreatDoor.Cm Go.Proofs.YtnjmokmlnpehdaaGreatDoor.Em

/-- the week that was added, 0 if none was -/
def addw (c : CalZ) (y : Int) : Int := if nweeks c y = 53 then (pend c y c.ex - pend c y 0) / 7 else 0
def dropA (w a b : Int) : Int := if 0 < b ∧ b ≤ (if 0 < a ∧ a < w then w - 1 else w) then (if 0 < a ∧ a < w then w - 1 else w) + 1 else (if 0 < a ∧ a < w then w - 1 else w)
def DropA (w a b v er : Int) : Prop := (w = a ∧ b = 0 ∧ v = 0 ∧ er = 12) ∨ (w = a ∧ b ≠ 0 ∧ v = b ∧ er = 0) ∨ (w ≠ a ∧ v = dropA w a b ∧ er = 0)
def PolA (c : CalZ) (y t w v er : Int) : Prop := (c.po = 1 ∧ v = w ∧ er = 0) ∨ (c.po = 2 ∧ v = w + nweeks c t - nweeks c y ∧ er = 0) ∨ (c.po = 3 ∧ DropA w (addw c y) (addw c t) v er)
def CWeekA (c : CalZ) (y t w v er : Int) : Prop :=
  (CalOk c ∧ c.k ≠ 6 ∧ Served c y ∧ Served c t ∧ 1 ≤ w ∧ w ≤ nweeks c y ∧ PolA c y t w v er) ∨ (CalOk c ∧ c.k ≠ 6 ∧ ¬ (Served c y ∧ Served c t) ∧ v = 0 ∧ er = 11) ∨
  (CalOk c ∧ c.k ≠ 6 ∧ Served c y ∧ Served c t ∧ ¬ (1 ≤ w ∧ w ≤ nweeks c y) ∧ v = 0 ∧ er = 13) ∨ (CalOk c ∧ c.k = 6 ∧ v = 0 ∧ er = 1) ∨ (¬ CalOk c ∧ v = 0 ∧ er = 1)
/-- the day of the year t of weeks, or beside it, that day n of year y is compared with -/
def WdayA (c : CalZ) (y t n v er : Int) : Prop := ∃ i w, 7 * (i - 1) < n - yend c (y - 1) ∧ n - yend c (y - 1) ≤ 7 * i ∧ PolA c y t i w er ∧ (er = 0 → v = yend c (t - 1) + (n - yend c (y - 1)) + 7 * (w - i)) ∧ (er ≠ 0 → v = 0)
/-- .. of a year of months -/
def MdayA (c : CalZ) (y t n v : Int) : Prop := ∃ i, InU c y 4 n i ∧ v = min (pend c t (i - 1) + (n - pend c y (i - 1))) (pend c t i)
def CDayA (c : CalZ) (n k v er : Int) : Prop := ∃ y e, ServedA c n y e ∧
  ((e ≠ 0 ∧ v = 0 ∧ er = e) ∨ (e = 0 ∧ ¬ Served c (y + k) ∧ v = 0 ∧ er = 11) ∨ (e = 0 ∧ Served c (y + k) ∧ c.k ≠ 6 ∧ WdayA c y (y + k) n v er) ∨ (e = 0 ∧ Served c (y + k) ∧ c.k = 6 ∧ MdayA c y (y + k) n v ∧ er = 0))

section
variable {c : CalZ} {y t n k v w er a b i : Int}
theorem pol_123 (ok : CalOk c) (k6 : c.k ≠ 6) : c.po = 1 ∨ c.po = 2 ∨ c.po = 3 := by
  obtain ⟨_, _, _, p⟩ := ok
  obtain ⟨p0, p1, p2⟩ := p
  have : c.po ≠ 4 := fun h => k6 (p2.1 h)
  omega
theorem dropa_ex (w a b : Int) : ∃ v er, DropA w a b v er := by
  by_cases h : w = a
  · by_cases k : b = 0
    · exact ⟨0, 12, .inl ⟨h, k, rfl, rfl⟩⟩
    · exact ⟨b, 0, .inr (.inl ⟨h, k, rfl, rfl⟩)⟩
  · exact ⟨_, 0, .inr (.inr ⟨h, rfl, rfl⟩)⟩
theorem pola_ex (ok : CalOk c) (k6 : c.k ≠ 6) (y t w : Int) : ∃ v er, PolA c y t w v er := by
  rcases pol_123 ok k6 with h | h | h
  · exact ⟨_, _, .inl ⟨h, rfl, rfl⟩⟩
  · exact ⟨_, _, .inr (.inl ⟨h, rfl, rfl⟩)⟩
  · obtain ⟨v, er, d⟩ := dropa_ex w (addw c y) (addw c t)
    exact ⟨v, er, .inr (.inr ⟨h, d⟩)⟩
theorem pola_er (h : PolA c y t w v er) : er = 0 ∨ (er = 12 ∧ v = 0 ∧ c.po = 3 ∧ w = addw c y ∧ addw c t = 0) := by
  rcases h with ⟨_, _, h⟩ | ⟨_, _, h⟩ | ⟨p, ⟨q, z, h0, h⟩ | ⟨_, _, _, h⟩ | ⟨_, _, h⟩⟩
  · exact .inl h
  · exact .inl h
  · exact .inr ⟨h, h0, p, q, z⟩
  · exact .inl h
  · exact .inl h
theorem served_dec (c : CalZ) (y : Int) : Served c y ∨ ¬ Served c y := Classical.em _
theorem wday_ex (ok : CalOk c) (k6 : c.k ≠ 6) (y t n : Int) : ∃ v er, WdayA c y t n v er := by
  obtain ⟨w, er, p⟩ := pola_ex ok k6 y t ((n - yend c (y - 1) + 6) / 7)
  by_cases e : er = 0
  · exact ⟨_, er, _, w, by omega, by omega, p, fun _ => rfl, fun h => absurd e h⟩
  · exact ⟨0, er, _, w, by omega, by omega, p, fun h => absurd h e, fun _ => rfl⟩
theorem mday_ex (ok : CalOk c) (s : Served c y) (p0 : yend c (y - 1) < n) (p1 : n ≤ yend c y) (t : Int) : ∃ v, MdayA c y t n v := by
  have st := served_told ok s
  have z := pend_zero c y
  have z2 := pend_last ok.1 (y := y) (by omega) (by omega)
  obtain ⟨i, hi⟩ := inu_ex (y := y) (L := 4) (d := n) ok.1 (by omega) (by omega) ⟨by omega, by omega⟩ (by omega) (by omega)
  exact ⟨_, i, hi, rfl⟩
theorem cday_ex (c : CalZ) (n k : Int) : ∃ v er, CDayA c n k v er := by
  obtain ⟨y, e, S⟩ := serveda_ex c n
  by_cases h : e = 0
  · subst h
    obtain ⟨ok, s, p0, p1⟩ := served_to S
    rcases served_dec c (y + k) with q | q
    · by_cases k6 : c.k = 6
      · obtain ⟨v, m⟩ := mday_ex ok s p0 p1 (y + k)
        exact ⟨v, 0, y, 0, S, .inr (.inr (.inr ⟨rfl, q, k6, m, rfl⟩))⟩
      · obtain ⟨v, er, m⟩ := wday_ex ok k6 y (y + k) n
        exact ⟨v, er, y, 0, S, .inr (.inr (.inl ⟨rfl, q, k6, m⟩))⟩
    · exact ⟨0, 11, y, 0, S, .inr (.inl ⟨rfl, q, rfl, rfl⟩)⟩
  · exact ⟨0, e, y, e, S, .inl ⟨h, rfl, rfl⟩⟩
theorem cweek_ex (c : CalZ) (y t w : Int) : ∃ v er, CWeekA c y t w v er := by
  by_cases ok : CalOk c
  · by_cases k6 : c.k = 6
    · exact ⟨0, 1, .inr (.inr (.inr (.inl ⟨ok, k6, rfl, rfl⟩)))⟩
    · by_cases s : Served c y ∧ Served c t
      · by_cases q : 1 ≤ w ∧ w ≤ nweeks c y
        · obtain ⟨v, er, p⟩ := pola_ex ok k6 y t w
          exact ⟨v, er, .inl ⟨ok, k6, s.1, s.2, q.1, q.2, p⟩⟩
        · exact ⟨0, 13, .inr (.inr (.inl ⟨ok, k6, s.1, s.2, q, rfl, rfl⟩))⟩
      · exact ⟨0, 11, .inr (.inl ⟨ok, k6, s, rfl, rfl⟩)⟩
  · exact ⟨0, 1, .inr (.inr (.inr (.inr ⟨ok, rfl, rfl⟩)))⟩
/-- in a year of weeks: which week was added -/
theorem addw_bd (ok : CalOk c) (k6 : c.k ≠ 6) (y0 : 1601 ≤ y) (y1 : y ≤ 9997) : (nweeks c y = 52 ∧ addw c y = 0) ∨ (nweeks c y = 53 ∧ 1 ≤ addw c y ∧ addw c y ≤ 53) := by
  rcases (nweeks_01 ok.1 k6 y0 (by omega)).1 with h | h
  · exact .inl ⟨h, by unfold addw; rw [if_neg (by omega)]⟩
  · have pb := per_bd ok.1
    have e := pb.2.2 k6
    have a := pend_mono ok.1 y0 y1 (a := 0) (b := c.ex) (by omega) (by omega) (by omega)
    have b := pend_mono ok.1 y0 y1 (a := c.ex) (b := per c) (by omega) (by omega) (by omega)
    have n := (nweeks_01 ok.1 k6 y0 (by omega)).2
    have z := pend_zero c y
    have z2 := pend_last ok.1 y0 y1
    refine .inr ⟨h, ?_, ?_⟩
    all_goals unfold addw; rw [if_pos h]; omega
theorem added_is (ok : CalOk c) (k6 : c.k ≠ 6) (y0 : 1601 ≤ y) (y1 : y ≤ 9997) : AddedA c y (addw c y) 0 := by
  refine .inl ⟨ok, k6, y0, y1, ?_, rfl⟩
  rcases (nweeks_01 ok.1 k6 y0 (by omega)).1 with h | h
  · exact .inl ⟨h, by unfold addw; rw [if_neg (by omega)]⟩
  · exact .inr ⟨h, by unfold addw; rw [if_pos h]⟩
/-- the week of a day of a year of weeks -/
theorem week_at (ok : CalOk c) (k6 : c.k ≠ 6) (s : Served c y) (p0 : yend c (y - 1) < n) (p1 : n ≤ yend c y) (a : 7 * (i - 1) < n - yend c (y - 1)) (b : n - yend c (y - 1) ≤ 7 * i) :
    InU c y 5 n i ∧ uend c y 5 (i - 1) = yend c (y - 1) + 7 * (i - 1) ∧ uend c y 5 i = yend c (y - 1) + 7 * i ∧ 1 ≤ i ∧ i ≤ nweeks c y ∧ ucount c y 5 = nweeks c y := by
  have st := served_told ok s
  have z := pend_zero c y
  have nw := nwk_weeks ok.1 k6 (y := y) (by omega) (by omega)
  have nn := (nweeks_01 ok.1 k6 (y := y) (by omega) (by omega)).2
  have uc : ucount c y 5 = nwk c y := by simp [ucount]
  have ue : ∀ j, uend c y 5 j = wend c y j := fun j => by simp [uend]
  have i1 : 1 ≤ i := by omega
  have i2 : i ≤ nweeks c y := by omega
  have e0 := wend_weeks ok.1 k6 (y := y) (i := i - 1) (by omega) (by omega) (by omega) (by omega)
  have e1 := wend_weeks ok.1 k6 (y := y) (i := i) (by omega) (by omega) (by omega) (by omega)
  refine ⟨⟨i1, by omega, ?_, ?_⟩, ?_, ?_, i1, i2, by omega⟩
  all_goals simp only [ue]; omega
end

end Go.Proofs.YtnjmokmlnpehdaaGreatDoor.Am

namespace Go.Proofs.YtnjmokmlnpehdaaGreatDoor.Am
set_option linter.unusedSimpArgs false
set_option linter.unusedVariables false
open Go.Proofs.YtnjmokmlnpehdaaGreatDoor.Cm Go.Proofs.YtnjmokmlnpehdaaGreatDoor.Em

section
variable {c : CalZ} {y t n k v w er a b i j x : Int}
theorem dropa_is (a b x : Int) : (0 < a ∧ a < x ∧ 0 < b ∧ b ≤ x - 1 ∧ dropA x a b = x) ∨ (0 < a ∧ a < x ∧ ¬ (0 < b ∧ b ≤ x - 1) ∧ dropA x a b = x - 1) ∨ (¬ (0 < a ∧ a < x) ∧ 0 < b ∧ b ≤ x ∧ dropA x a b = x + 1) ∨ (¬ (0 < a ∧ a < x) ∧ ¬ (0 < b ∧ b ≤ x) ∧ dropA x a b = x) := by
  unfold dropA
  by_cases h : 0 < a ∧ a < x
  · rw [if_pos h]
    by_cases q : 0 < b ∧ b ≤ x - 1
    · rw [if_pos q]; exact .inl ⟨h.1, h.2, q.1, q.2, by omega⟩
    · rw [if_neg q]; exact .inr (.inl ⟨h.1, h.2, q, rfl⟩)
  · rw [if_neg h]
    by_cases q : 0 < b ∧ b ≤ x
    · rw [if_pos q]; exact .inr (.inr (.inl ⟨h, q.1, q.2, rfl⟩))
    · rw [if_neg q]; exact .inr (.inr (.inr ⟨h, q, rfl⟩))
theorem pol_same (ok : CalOk c) (k6 : c.k ≠ 6) (i0 : 1 ≤ i) : PolA c y y i i 0 := by
  rcases pol_123 ok k6 with h | h | h
  · exact .inl ⟨h, rfl, rfl⟩
  · exact .inr (.inl ⟨h, by omega, rfl⟩)
  · refine .inr (.inr ⟨h, ?_⟩)
    by_cases q : i = addw c y
    · exact .inr (.inl ⟨q, by omega, q, rfl⟩)
    · refine .inr (.inr ⟨q, ?_, rfl⟩)
      have := dropa_is (addw c y) (addw c y) i
      omega
theorem same_day (S : ServedA c n y 0) : CDayA c n 0 n 0 := by
  obtain ⟨ok, s, p0, p1⟩ := served_to S
  have st := served_told ok s
  by_cases k6 : c.k = 6
  · have z := pend_zero c y
    have z2 := pend_last ok.1 (y := y) (by omega) (by omega)
    obtain ⟨i, hi⟩ := inu_ex (y := y) (L := 4) (d := n) ok.1 (by omega) (by omega) ⟨by omega, by omega⟩ (by omega) (by omega)
    have e : uend c y 4 i = pend c y i := by simp [uend]
    have hi4 := hi.2.2.2
    exact ⟨y, 0, S, .inr (.inr (.inr ⟨rfl, by rw [Int.add_zero]; exact s, k6, ⟨i, hi, by rw [Int.add_zero]; omega⟩, rfl⟩))⟩
  · exact ⟨y, 0, S, .inr (.inr (.inl ⟨rfl, by rw [Int.add_zero]; exact s, k6, (n - yend c (y - 1) + 6) / 7, _, by omega, by omega, by rw [Int.add_zero]; exact pol_same ok k6 (by omega), fun _ => by rw [Int.add_zero]; omega, fun h => absurd rfl h⟩))⟩
theorem cday_no {e : Int} (S : ServedA c n y e) (h : e ≠ 0) : CDayA c n k 0 e := by
  have := (served_er S h).1
  exact ⟨y, e, S, .inl ⟨h, rfl, rfl⟩⟩
theorem cday_out (S : ServedA c n y 0) (h : ¬ Served c (y + k)) : CDayA c n k 0 11 := ⟨y, 0, S, .inr (.inl ⟨rfl, h, rfl, rfl⟩)⟩
/-- a policy's week lies in the year, or beside it -/
theorem pol_bd (ok : CalOk c) (k6 : c.k ≠ 6) (y0 : 1601 ≤ y) (y1 : y ≤ 9997) (t0 : 1601 ≤ t) (t1 : t ≤ 9997) (i0 : 1 ≤ i) (i1 : i ≤ nweeks c y) (P : PolA c y t i w 0) :
    (c.po = 1 ∧ w = i) ∨ (c.po = 2 ∧ w = i + nweeks c t - nweeks c y) ∨ (c.po = 3 ∧ 1 ≤ w ∧ w ≤ nweeks c t ∧ ¬ (i = addw c y ∧ addw c t = 0)) := by
  have ay := addw_bd ok k6 y0 y1
  have at' := addw_bd ok k6 t0 t1
  rcases P with ⟨p, h, _⟩ | ⟨p, h, _⟩ | ⟨p, ⟨_, _, _, h⟩ | ⟨h1, h2, h3, _⟩ | ⟨h1, h2, _⟩⟩
  · exact .inl ⟨p, h⟩
  · exact .inr (.inl ⟨p, h⟩)
  · omega
  · exact .inr (.inr ⟨p, by omega, by omega, fun q => h2 q.2⟩)
  · have := dropa_is (addw c y) (addw c t) i
    exact .inr (.inr ⟨p, by omega, by omega, fun q => h1 q.1⟩)
/-- there is none just of a week that was added -/
theorem pol_gone (ok : CalOk c) (k6 : c.k ≠ 6) (y0 : 1601 ≤ y) (y1 : y ≤ 9997) (t0 : 1601 ≤ t) (t1 : t ≤ 9997) (i0 : 1 ≤ i) (P : PolA c y t i w er) (h : er ≠ 0) : er = 12 ∧ c.po = 3 ∧ nweeks c y = 53 ∧ nweeks c t = 52 ∧ i = addw c y := by
  have ay := addw_bd ok k6 y0 y1
  have at' := addw_bd ok k6 t0 t1
  rcases pola_er P with e | ⟨e, _, p, q, z⟩
  · exact absurd e h
  · exact ⟨e, p, by omega, by omega, q⟩
/-- of two long years, the weeks that were added stand at the same place -/
theorem addw_eq (ok : CalOk c) (k6 : c.k ≠ 6) (y0 : 1601 ≤ y) (y1 : y ≤ 9997) (t0 : 1601 ≤ t) (t1 : t ≤ 9997) (ny : nweeks c y = 53) (nt : nweeks c t = 53) : addw c y = addw c t := by
  have pb := per_bd ok.1
  have e := pb.2.2 k6
  unfold addw
  rw [if_pos ny, if_pos nt]
  rcases shape_cases ok.1 with ⟨_, _, _, _, _, e12, p12⟩ | ⟨q, _⟩ | ⟨_, _, cut⟩
  · have z1 := pend_last ok.1 y0 y1
    have z2 := pend_last ok.1 t0 t1
    rw [p12, ← e12] at z1 z2
    have n1 := (nweeks_01 ok.1 k6 y0 (by omega)).2
    have n2 := (nweeks_01 ok.1 k6 t0 (by omega)).2
    rw [z1, z2, pend_zero, pend_zero]
    omega
  · exact absurd q k6
  · have cs := cut_cases cut
    have f : ∀ z, nweeks c z = 53 → pend c z c.ex = yend c (z - 1) + 7 * (wcum c c.ex + 1) := fun z hz => by
      unfold pend
      rw [if_neg (by omega), if_neg (by omega), if_neg (by omega), if_pos (by omega), hz]
      omega
    rw [f y ny, f t nt, pend_zero, pend_zero]
    omega
/-- two weeks, one behind the other -/
theorem pol_rise (ok : CalOk c) (k6 : c.k ≠ 6) (y0 : 1601 ≤ y) (y1 : y ≤ 9997) (t0 : 1601 ≤ t) (t1 : t ≤ 9997) (i0 : 1 ≤ i) (ij : i ≤ j) (j1 : j ≤ nweeks c y) (P : PolA c y t i w 0) (Q : PolA c y t j x 0) :
    (x - w = j - i) ∨ (c.po = 3 ∧ i < j ∧ w < x ∧ (x - w = j - i + 1 ∨ x - w = j - i - 1)) := by
  have ay := addw_bd ok k6 y0 y1
  have at' := addw_bd ok k6 t0 t1
  have d1 := dropa_is (addw c y) (addw c t) i
  have d2 := dropa_is (addw c y) (addw c t) j
  have eq : nweeks c y = 53 → nweeks c t = 53 → addw c y = addw c t := fun h1 h2 => addw_eq ok k6 y0 y1 t0 t1 h1 h2
  rcases P with ⟨p, h, _⟩ | ⟨p, h, _⟩ | ⟨p, ⟨_, _, _, h⟩ | ⟨h1, h2, h3, _⟩ | ⟨h1, h2, _⟩⟩ <;> rcases Q with ⟨p', g, _⟩ | ⟨p', g, _⟩ | ⟨p', ⟨_, _, _, g⟩ | ⟨g1, g2, g3, _⟩ | ⟨g1, g2, _⟩⟩ <;> omega
/-- there and back -/
theorem pol_back (ok : CalOk c) (k6 : c.k ≠ 6) (y0 : 1601 ≤ y) (y1 : y ≤ 9997) (t0 : 1601 ≤ t) (t1 : t ≤ 9997) (i0 : 1 ≤ i) (i1 : i ≤ nweeks c y) (P : PolA c y t i w 0) : PolA c t y w i 0 := by
  have ay := addw_bd ok k6 y0 y1
  have at' := addw_bd ok k6 t0 t1
  rcases P with ⟨p, h, _⟩ | ⟨p, h, _⟩ | ⟨p, ⟨_, _, _, h⟩ | ⟨h1, h2, h3, _⟩ | ⟨h1, h2, _⟩⟩
  · exact .inl ⟨p, h.symm, rfl⟩
  · exact .inr (.inl ⟨p, by omega, rfl⟩)
  · omega
  · exact .inr (.inr ⟨p, .inr (.inl ⟨h3, by omega, h1, rfl⟩)⟩)
  · have d1 := dropa_is (addw c y) (addw c t) i
    have d2 := dropa_is (addw c t) (addw c y) w
    exact .inr (.inr ⟨p, .inr (.inr ⟨by omega, by omega, rfl⟩)⟩)
theorem ends_7 (ok : CalOk c) (k6 : c.k ≠ 6) (y t : Int) : (yend c y - yend c t) % 7 = 0 := by
  have a := yend_wday (y := y) ok.1 k6
  have b := yend_wday (y := t) ok.1 k6
  unfold wday at a b
  omega
end

end Go.Proofs.YtnjmokmlnpehdaaGreatDoor.Am

namespace Go.Proofs.YtnjmokmlnpehdaaGreatDoor.Am
set_option linter.unusedSimpArgs false
set_option linter.unusedVariables false
open Go.Proofs.YtnjmokmlnpehdaaGreatDoor.Cm Go.Proofs.YtnjmokmlnpehdaaGreatDoor.Em

/-- what Day answers for a day of year y of weeks -/
theorem cday_for {c : CalZ} {d y : Int} (k : Int) (S : ServedA c d y 0) (k6 : c.k ≠ 6) : (¬ Served c (y + k) ∧ CDayA c d k 0 11) ∨ (Served c (y + k) ∧ ∃ i w v er, 7 * (i - 1) < d - yend c (y - 1) ∧ d - yend c (y - 1) ≤ 7 * i ∧ 1 ≤ i ∧ i ≤ nweeks c y ∧ PolA c y (y + k) i w er ∧ CDayA c d k v er ∧
    ((er = 0 ∧ v = yend c (y + k - 1) + (d - yend c (y - 1)) + 7 * (w - i)) ∨ (er = 12 ∧ v = 0))) := by
  obtain ⟨ok, s, p0, p1⟩ := served_to S
  rcases served_dec c (y + k) with q | q
  · obtain ⟨w, er, P⟩ := pola_ex ok k6 y (y + k) ((d - yend c (y - 1) + 6) / 7)
    have wa := week_at (i := (d - yend c (y - 1) + 6) / 7) ok k6 s p0 p1 (by omega) (by omega)
    refine .inr ⟨q, (d - yend c (y - 1) + 6) / 7, w, ?_⟩
    rcases pola_er P with e | e
    · subst e
      exact ⟨_, 0, by omega, by omega, wa.2.2.2.1, wa.2.2.2.2.1, P, ⟨y, 0, S, .inr (.inr (.inl ⟨rfl, q, k6, _, w, by omega, by omega, P, fun _ => rfl, fun h => absurd rfl h⟩))⟩, .inl ⟨rfl, rfl⟩⟩
    · exact ⟨0, er, by omega, by omega, wa.2.2.2.1, wa.2.2.2.2.1, P, ⟨y, 0, S, .inr (.inr (.inl ⟨rfl, q, k6, _, w, by omega, by omega, P, fun h => by omega, fun _ => rfl⟩))⟩, .inr ⟨e.1, rfl⟩⟩
  · exact .inl ⟨q, cday_out S q⟩
/-- the way back of a day that lies in its year -/
theorem cday_back {c : CalZ} {d y k i w v : Int} (S : ServedA c d y 0) (k6 : c.k ≠ 6) (st : Served c (y + k)) (i0 : 7 * (i - 1) < d - yend c (y - 1)) (i1 : d - yend c (y - 1) ≤ 7 * i) (i2 : 1 ≤ i) (i3 : i ≤ nweeks c y) (P : PolA c y (y + k) i w 0)
    (hv : v = yend c (y + k - 1) + (d - yend c (y - 1)) + 7 * (w - i)) (w0 : 1 ≤ w) (w1 : w ≤ nweeks c (y + k)) : CDayA c v (-k) d 0 := by
  obtain ⟨ok, s, p0, p1⟩ := served_to S
  have sy := served_told ok s
  have tt := served_told ok st
  have n3 := (nweeks_01 ok.1 k6 (y := y + k) (by omega) (by omega)).2
  have S2 : ServedA c v (y + k) 0 := served_of ok st (by omega) (by omega)
  have Q := pol_back ok k6 (by omega) (by omega) (by omega) (by omega) i2 i3 P
  have e : y + k + -k = y := by omega
  exact ⟨y + k, 0, S2, .inr (.inr (.inl ⟨rfl, by rw [e]; exact s, k6, w, i, by omega, by omega, by rw [e]; exact Q, fun _ => by rw [e]; omega, fun h => absurd rfl h⟩))⟩

end Go.Proofs.YtnjmokmlnpehdaaGreatDoor.Am

namespace Go.Proofs.YtnjmokmlnpehdaaGreatDoor.Am
set_option linter.unusedSimpArgs false
set_option linter.unusedVariables false
open Go.Proofs.YtnjmokmlnpehdaaGreatDoor.Cm Go.Proofs.YtnjmokmlnpehdaaGreatDoor.Em

theorem pend_cut {c : CalZ} (h : CutOk c) (z p : Int) (p0 : 0 ≤ p) (e0 : 1 ≤ c.ex) : pend c z p = yend c (z - 1) + 7 * (wcum c p + (if c.ex ≤ p then nweeks c z - 52 else 0)) := by
  have cs := cut_cases h
  by_cases q : p ≤ 0
  · obtain rfl : p = 0 := by omega
    rw [pend_zero, if_neg (by omega)]
    have w0 : wcum c 0 = 0 := by
      unfold wcum
      rcases cs with h | h | h | h | h
      · rw [if_pos h.1]; simp
      · rw [if_neg (by omega), if_pos h.1]; simp
      all_goals rw [if_neg (by omega), if_neg (by omega)]; simp
    omega
  · unfold pend
    rw [if_neg q, if_neg (by omega), if_neg (by omega)]
set_option maxHeartbeats 8000000 in
theorem per_keeps {c : CalZ} {y t d i w v p : Int} (ok : CalOk c) (k6 : c.k ≠ 6) (s4 : c.sh ≠ 4) (sy : Served c y) (st : Served c t) (i0 : 7 * (i - 1) < d - yend c (y - 1)) (i1 : d - yend c (y - 1) ≤ 7 * i) (i2 : 1 ≤ i) (i3 : i ≤ nweeks c y)
    (D : DropA i (addw c y) (addw c t) w 0) (hv : v = yend c (t - 1) + (d - yend c (y - 1)) + 7 * (w - i)) (I : InU c y 4 d p) : InU c t 4 v p ∧ d - (pend c y (p - 1) + 1) = v - (pend c t (p - 1) + 1) := by
  have ty := served_told ok sy
  have tt := served_told ok st
  have cut : CutOk c := by
    rcases shape_cases ok.1 with h | h | h
    · exact absurd h.2.1 s4
    · exact absurd h.1 k6
    · exact h.2.2
  have pb := per_bd ok.1
  have e0 := pb.2.2 k6
  obtain ⟨I0, I1, I2, I3⟩ := I
  have uc : ∀ z, ucount c z 4 = per c := fun z => by simp [ucount]
  have ue : ∀ z j, uend c z 4 j = pend c z j := fun z j => by simp [uend]
  rw [uc] at I1
  rw [ue] at I2 I3
  have ay := addw_bd ok k6 (y := y) (by omega) (by omega)
  have at' := addw_bd ok k6 (y := t) (by omega) (by omega)
  have eq : nweeks c y = 53 → nweeks c t = 53 → addw c y = addw c t := fun h1 h2 => addw_eq ok k6 (by omega) (by omega) (by omega) (by omega) h1 h2
  have ad : ∀ z, nweeks c z = 53 → addw c z = wcum c c.ex + 1 := fun z hz => by
    unfold addw
    rw [if_pos hz, pend_cut cut z c.ex (by omega) e0.1, pend_zero, if_pos (Int.le_refl _), hz]
    omega
  have adY := ad y
  have adT := ad t
  have Y0 := pend_cut cut y (p - 1) (by omega) e0.1
  have Y1 := pend_cut cut y p (by omega) e0.1
  have T0 := pend_cut cut t (p - 1) (by omega) e0.1
  have T1 := pend_cut cut t p (by omega) e0.1
  have YE := pend_cut cut y c.ex (by omega) e0.1
  have TE := pend_cut cut t c.ex (by omega) e0.1
  rw [if_pos (Int.le_refl _)] at YE TE
  have m1 : p ≤ c.ex → pend c y p ≤ pend c y c.ex ∧ pend c t p ≤ pend c t c.ex := fun h => by
    have := pend_mono ok.1 (y := y) (by omega) (by omega) (a := p) (b := c.ex) (by omega) h (by omega)
    have := pend_mono ok.1 (y := t) (by omega) (by omega) (a := p) (b := c.ex) (by omega) h (by omega)
    omega
  have m2 : c.ex ≤ p - 1 → pend c y c.ex ≤ pend c y (p - 1) ∧ pend c t c.ex ≤ pend c t (p - 1) := fun h => by
    have := pend_mono ok.1 (y := y) (by omega) (by omega) (a := c.ex) (b := p - 1) (by omega) h (by omega)
    have := pend_mono ok.1 (y := t) (by omega) (by omega) (a := c.ex) (b := p - 1) (by omega) h (by omega)
    omega
  have dr := dropa_is (addw c y) (addw c t) i
  have W : (nweeks c y = 52 ∧ nweeks c t = 52 ∧ w = i) ∨ (nweeks c y = 53 ∧ nweeks c t = 53 ∧ w = i) ∨ (nweeks c y = 53 ∧ nweeks c t = 52 ∧ ((i < wcum c c.ex + 1 ∧ w = i) ∨ (wcum c c.ex + 1 < i ∧ w = i - 1))) ∨ (nweeks c y = 52 ∧ nweeks c t = 53 ∧ ((i < wcum c c.ex + 1 ∧ w = i) ∨ (wcum c c.ex + 1 ≤ i ∧ w = i + 1))) := by
    clear Y0 Y1 T0 T1 YE TE m1 m2 hv I0 I1 I2 I3 i0 i1 uc ue pb e0
    rcases ay with ⟨n1, a1⟩ | ⟨n1, a1, a2⟩ <;> rcases at' with ⟨n2, b1⟩ | ⟨n2, b1, b2⟩
    · exact .inl ⟨n1, n2, by rcases D with ⟨h1, h2, _, h⟩ | ⟨h1, h2, h3, _⟩ | ⟨h1, h2, _⟩ <;> omega⟩
    · have := adT n2
      exact .inr (.inr (.inr ⟨n1, n2, by rcases D with ⟨h1, h2, _, h⟩ | ⟨h1, h2, h3, _⟩ | ⟨h1, h2, _⟩ <;> omega⟩))
    · have := adY n1
      exact .inr (.inr (.inl ⟨n1, n2, by rcases D with ⟨h1, h2, _, h⟩ | ⟨h1, h2, h3, _⟩ | ⟨h1, h2, _⟩ <;> omega⟩))
    · have := eq n1 n2
      exact .inr (.inl ⟨n1, n2, by rcases D with ⟨h1, h2, _, h⟩ | ⟨h1, h2, h3, _⟩ | ⟨h1, h2, _⟩ <;> omega⟩)
  clear dr ay at' adY adT eq ad D
  unfold InU
  rw [uc, ue, ue]
  by_cases q1 : c.ex ≤ p - 1
  · have q2 : c.ex ≤ p := by omega
    have m2 := m2 q1
    rw [if_pos q1] at Y0 T0
    rw [if_pos q2] at Y1 T1
    rcases W with ⟨n1, n2, h⟩ | ⟨n1, n2, h⟩ | ⟨n1, n2, h⟩ | ⟨n1, n2, h⟩
    all_goals
      rw [n1] at Y0 Y1 YE
      rw [n2] at T0 T1 TE
      exact ⟨⟨I0, I1, by omega, by omega⟩, by omega⟩
  · rw [if_neg q1] at Y0 T0
    have m1 := m1 (by omega)
    by_cases q2 : c.ex ≤ p
    · have e3 : c.ex = p := by omega
      rw [if_pos q2] at Y1 T1
      have e4 : wcum c c.ex = wcum c p := by rw [e3]
      rw [e4] at W
      rcases W with ⟨n1, n2, h⟩ | ⟨n1, n2, h⟩ | ⟨n1, n2, h⟩ | ⟨n1, n2, h⟩
      all_goals
        try rw [n1] at Y1 YE
        try rw [n2] at T1 TE
        try rw [n1] at YE
        try rw [n2] at TE
        exact ⟨⟨I0, I1, by omega, by omega⟩, by omega⟩
    · rw [if_neg q2] at Y1 T1
      rcases W with ⟨n1, n2, h⟩ | ⟨n1, n2, h⟩ | ⟨n1, n2, h⟩ | ⟨n1, n2, h⟩
      all_goals
        try rw [n1] at Y1 YE
        try rw [n2] at T1 TE
        try rw [n1] at YE
        try rw [n2] at TE
        exact ⟨⟨I0, I1, by omega, by omega⟩, by omega⟩

end Go.Proofs.YtnjmokmlnpehdaaGreatDoor.Am

namespace Go.Proofs.YtnjmokmlnpehdaaGreatDoor.Am
set_option linter.unusedSimpArgs false
set_option linter.unusedVariables false
open Go.Proofs.YtnjmokmlnpehdaaGreatDoor.Cm Go.Proofs.YtnjmokmlnpehdaaGreatDoor.Em

/-- the unit behind, by year and number -/
def nxu (c : CalZ) (L : Int) (u : Int × Int) : Int × Int := if u.2 < ucount c u.1 L then (u.1, u.2 + 1) else (u.1 + 1, 1)
/-- the k-th one behind -/
def itu (c : CalZ) (L : Int) (u : Int × Int) : Nat → Int × Int
  | 0 => u
  | k + 1 => nxu c L (itu c L u k)
/-- u lies not behind (y, n) -/
def Till (y n : Int) (u : Int × Int) : Prop := u.1 < y ∨ (u.1 = y ∧ u.2 ≤ n)

theorem nxu_next {c : CalZ} {L y i : Int} (h : UnitOk c L y i) (t : i < ucount c y L ∨ y < c.la) : NextA c L y i L (nxu c L (y, i)).1 (nxu c L (y, i)).2 0 ∧ UnitOk c L (nxu c L (y, i)).1 (nxu c L (y, i)).2 := by
  rcases next_ex h with ⟨q, N, v, _⟩ | ⟨q, k, N, v, _⟩ | ⟨q, k, N⟩
  · unfold nxu
    rw [if_pos q]
    exact ⟨N, v⟩
  · unfold nxu
    rw [if_neg (show ¬ i < ucount c y L by omega)]
    exact ⟨N, v⟩
  · omega
/-- a step that does not pass (y, n) -/
theorem nxu_till {c : CalZ} {L y n : Int} {u : Int × Int} (v : UnitOk c L y n) (h : UnitOk c L u.1 u.2) (t : Till y n u) (ne : u ≠ (y, n)) : UnitOk c L (nxu c L u).1 (nxu c L u).2 ∧ Till y n (nxu c L u) ∧ NextA c L u.1 u.2 L (nxu c L u).1 (nxu c L u).2 0 ∧ 60 * u.1 + u.2 + 1 ≤ 60 * (nxu c L u).1 + (nxu c L u).2 := by
  obtain ⟨a, i⟩ := u
  have hs := h.2.2.1
  have st := served_told h.1 hs
  have cb := ucount_bd (L := L) (y := a) h.1.1 (by show 1601 ≤ a; have := st.1; exact Int.le_trans (by decide) this) (by have := st.2; exact Int.le_trans this (by decide))
  have vs := v.2.2.1
  have vn := v.2.2.2.2
  have ne' : ¬ (a = y ∧ i = n) := fun q => ne (by rw [q.1, q.2])
  unfold Till at t
  simp only at t h hs st
  have la : i < ucount c a L ∨ a < c.la := by
    by_cases q : i < ucount c a L
    · exact .inl q
    · right
      have := vs.2
      have hi := h.2.2.2.2
      rcases t with t | ⟨t, t2⟩
      · omega
      · subst t
        omega
  have N := nxu_next h la
  refine ⟨N.2, ?_, N.1, ?_⟩
  · unfold Till nxu
    by_cases q : i < ucount c a L
    · rw [if_pos q]
      simp only
      omega
    · rw [if_neg q]
      simp only
      have v1 := v.2.2.2.1
      have hi := h.2.2.2.2
      rcases t with t | ⟨t, t2⟩
      · omega
      · subst t
        omega
  · unfold nxu
    by_cases q : i < ucount c a L
    · rw [if_pos q]; simp only; omega
    · rw [if_neg q]; simp only
      have hi := h.2.2.2.2
      omega
theorem itu_zero {c : CalZ} {L y n : Int} {u : Int × Int} (v : UnitOk c L y n) (h : UnitOk c L u.1 u.2) (t : Till y n u) (e : u = (y, n)) :
    ∃ N : Nat, itu c L u N = (y, n) ∧ (N : Int) + 60 * u.1 + u.2 ≤ 60 * y + n ∧ (∀ k, k ≤ N → UnitOk c L (itu c L u k).1 (itu c L u k).2 ∧ Till y n (itu c L u k)) ∧ ∀ k, k < N → NextA c L (itu c L u k).1 (itu c L u k).2 L (itu c L u (k + 1)).1 (itu c L u (k + 1)).2 0 ∧ itu c L u k ≠ (y, n) := by
  refine ⟨0, e, ?_, ?_, ?_⟩
  · rw [e]; simp
  · intro k hk
    have k0 : k = 0 := by omega
    subst k0
    exact ⟨h, t⟩
  · intro k hk
    omega
/-- going on, one comes to (y, n) -/
theorem itu_reach {c : CalZ} {L y n : Int} (v : UnitOk c L y n) (m : Nat) : ∀ u : Int × Int, UnitOk c L u.1 u.2 → Till y n u → 60 * y + n ≤ 60 * u.1 + u.2 + m →
    ∃ N : Nat, itu c L u N = (y, n) ∧ (N : Int) + 60 * u.1 + u.2 ≤ 60 * y + n ∧ (∀ k, k ≤ N → UnitOk c L (itu c L u k).1 (itu c L u k).2 ∧ Till y n (itu c L u k)) ∧ ∀ k, k < N → NextA c L (itu c L u k).1 (itu c L u k).2 L (itu c L u (k + 1)).1 (itu c L u (k + 1)).2 0 ∧ itu c L u k ≠ (y, n) := by
  induction m with
  | zero =>
    intro u h t b
    by_cases e : u = (y, n)
    · exact itu_zero v h t e
    · obtain ⟨h1, t1, _, p⟩ := nxu_till v h t e
      have n1 := h1.2.2.2.2
      have s1 := served_told h1.1 h1.2.2.1
      have cb := ucount_bd (L := L) (y := (nxu c L u).1) h1.1.1 (by omega) (by omega)
      have n0 := v.2.2.2.1
      unfold Till at t1
      simp at b
      omega
  | succ m ih =>
    intro u h t b
    by_cases e : u = (y, n)
    · exact itu_zero v h t e
    · obtain ⟨h1, t1, nx, p⟩ := nxu_till v h t e
      obtain ⟨N, a1, a2, a3, a4⟩ := ih (nxu c L u) h1 t1 (by omega)
      have sh : ∀ k, itu c L u (k + 1) = itu c L (nxu c L u) k := by
        intro k
        induction k with
        | zero => rfl
        | succ j hj => show nxu c L (itu c L u (j + 1)) = nxu c L (itu c L (nxu c L u) j); rw [hj]
      refine ⟨N + 1, by rw [sh]; exact a1, by omega, fun k hk => ?_, fun k hk => ?_⟩
      · cases k with
        | zero => exact ⟨h, t⟩
        | succ j => rw [sh]; exact a3 j (by omega)
      · cases k with
        | zero => exact ⟨by rw [sh]; exact nx, e⟩
        | succ j => rw [sh, sh]; exact a4 j (by omega)

end Go.Proofs.YtnjmokmlnpehdaaGreatDoor.Am
