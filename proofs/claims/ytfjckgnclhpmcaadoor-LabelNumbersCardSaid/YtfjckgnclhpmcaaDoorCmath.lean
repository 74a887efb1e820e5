/- Plain facts on the civil calendar from 1600 on; nothing of the program. -/
namespace Go.Proofs.YtfjckgnclhpmcaaDoor.Cm
set_option linter.unusedSimpArgs false
set_option linter.unusedVariables false

/-- one more day in February -/
def lpB (y : Int) : Bool := decide (y % 4 = 0) && (!decide (y % 100 = 0) || decide (y % 400 = 0))
def lp (y : Int) : Int := if y % 4 = 0 ∧ (y % 100 ≠ 0 ∨ y % 400 = 0) then 1 else 0
/-- days ahead of a year -/
def dby (y : Int) : Int := 365 * (y - 1600) + ((y - 1) / 4 - 399) - ((y - 1) / 100 - 15) + ((y - 1) / 400 - 3)
/-- days of a month -/
def mlen (y m : Int) : Int :=
  if m = 2 then 28 + lp y else if m = 4 ∨ m = 6 ∨ m = 9 ∨ m = 11 then 30 else 31
/-- days of a year ahead of a month -/
def cum (y m : Int) : Int :=
  if m = 1 then 0 else if m = 2 then 31 else if m = 3 then 59 + lp y else if m = 4 then 90 + lp y else if m = 5 then 120 + lp y else if m = 6 then 151 + lp y
  else if m = 7 then 181 + lp y else if m = 8 then 212 + lp y else if m = 9 then 243 + lp y else if m = 10 then 273 + lp y else if m = 11 then 304 + lp y else if m = 12 then 334 + lp y else 365 + lp y
/-- is there such a month, such a day? -/
def MonthOk (y m : Int) : Prop := 1600 ≤ y ∧ y ≤ 9999 ∧ 1 ≤ m ∧ m ≤ 12
def DateOk (y m d : Int) : Prop := MonthOk y m ∧ 1 ≤ d ∧ d ≤ mlen y m
def num (y m d : Int) : Int := dby y + cum y m + d - 1

theorem lp_01 (y : Int) : 0 ≤ lp y ∧ lp y ≤ 1 := by unfold lp; split <;> omega
theorem lp_of {y : Int} : lp y = if lpB y = true then 1 else 0 := by
  unfold lp lpB; simp
theorem dby_succ (y : Int) : dby (y + 1) = dby y + 365 + lp y := by unfold dby lp; split <;> omega
theorem dby_400 (y : Int) : dby (y + 400) = dby y + 146097 := by unfold dby; omega
theorem dby_first : dby 1600 = 0 := by decide
theorem dby_last : dby 10000 = 3068037 := by decide
theorem dby_mono {a b : Int} (h : a ≤ b) : dby a ≤ dby b := by unfold dby; omega
theorem dby_bd {t : Int} (h0 : 1600 ≤ t) (h1 : t ≤ 10000) : 0 ≤ dby t ∧ dby t ≤ 3068037 := by
  have b := dby_mono (a := 1600) (b := t) h0
  have c := dby_mono (a := t) (b := 10000) h1
  rw [dby_first] at b; rw [dby_last] at c
  exact ⟨b, c⟩
theorem dby_lt {a b n : Int} (h : dby a ≤ n) (k : n < dby (b + 1)) : a ≤ b := by
  by_cases c : a ≤ b
  · exact c
  · have := dby_mono (a := b + 1) (b := a) (by omega); omega
theorem dby_step {a b : Int} (h : a < b) : dby a + 365 + lp a ≤ dby b := by
  have := dby_succ a
  have := dby_mono (a := a + 1) (b := b) (by omega)
  omega
theorem mlen_bd (y m : Int) : 28 ≤ mlen y m ∧ mlen y m ≤ 31 := by
  have := lp_01 y
  unfold mlen; repeat' split <;> omega
theorem cum_succ (y m : Int) (h1 : 1 ≤ m) (h2 : m ≤ 12) : cum y (m + 1) = cum y m + mlen y m := by
  have h : m = 1 ∨ m = 2 ∨ m = 3 ∨ m = 4 ∨ m = 5 ∨ m = 6 ∨ m = 7 ∨ m = 8 ∨ m = 9 ∨ m = 10 ∨ m = 11 ∨ m = 12 := by omega
  rcases h with rfl | rfl | rfl | rfl | rfl | rfl | rfl | rfl | rfl | rfl | rfl | rfl <;> simp [cum, mlen] <;> omega
theorem cum_one (y : Int) : cum y 1 = 0 := by simp [cum]
theorem cum_end (y : Int) : cum y 13 = 365 + lp y := by simp [cum]
theorem cum_bd (y m : Int) (_ : 1 ≤ m) (_ : m ≤ 13) : 0 ≤ cum y m ∧ cum y m ≤ 365 + lp y := by
  have := lp_01 y
  unfold cum; repeat' split <;> omega
theorem cum_mono (y : Int) {a b : Int} (h1 : 1 ≤ a) (h : a ≤ b) (h2 : b ≤ 13) : cum y a ≤ cum y b := by
  have e : ∀ k : Nat, a + k ≤ 13 → cum y a ≤ cum y (a + k) := by
    intro k
    induction k with
    | zero => intro _; simp
    | succ n ih =>
      intro hk
      have := ih (by omega)
      have h3 := cum_succ y (a + n) (by omega) (by omega)
      have := mlen_bd y (a + n)
      have e1 : a + ((n + 1 : Nat) : Int) = a + n + 1 := by omega
      rw [e1]; omega
  have := e (b - a).toNat (by omega)
  have e2 : a + ((b - a).toNat : Int) = b := by omega
  rwa [e2] at this
theorem cum_step (y : Int) {a b : Int} (h1 : 1 ≤ a) (h : a < b) (h2 : b ≤ 13) : cum y a + mlen y a ≤ cum y b := by
  have := cum_succ y a h1 (by omega)
  have := cum_mono y (a := a + 1) (b := b) (by omega) (by omega) h2
  omega

theorem num_bd {y m d : Int} (h : DateOk y m d) : dby y ≤ num y m d ∧ num y m d < dby (y + 1) := by
  obtain ⟨⟨h1, h2, h3, h4⟩, h5, h6⟩ := h
  have a := dby_succ y
  have b := cum_bd y m h3 (by omega)
  have c := cum_step y h3 (b := 13) (by omega) (by omega)
  rw [cum_end] at c
  unfold num; omega
theorem num_range {y m d : Int} (h : DateOk y m d) : 0 ≤ num y m d ∧ num y m d ≤ 3068036 := by
  have a := num_bd h
  have b := dby_mono (a := 1600) (b := y) h.1.1
  have c := dby_mono (a := y + 1) (b := 10000) (by have := h.1.2.1; omega)
  rw [dby_first] at b; rw [dby_last] at c
  omega
/-- days go up as years, months and days do -/
theorem num_lt {y m d y' m' d' : Int} (h : DateOk y m d) (h' : DateOk y' m' d') (l : y < y' ∨ (y = y' ∧ (m < m' ∨ (m = m' ∧ d < d')))) : num y m d < num y' m' d' := by
  rcases l with l | ⟨rfl, l | ⟨rfl, l⟩⟩
  · have a := num_bd h
    have b := num_bd h'
    have c := dby_mono (a := y + 1) (b := y') (by omega)
    omega
  · have c := cum_step y h.1.2.2.1 l (by have := h'.1.2.2.2; omega)
    have := h.2.2
    have := h'.2.1
    unfold num; omega
  · unfold num; omega
theorem num_inj {y m d y' m' d' : Int} (h : DateOk y m d) (h' : DateOk y' m' d') (e : num y m d = num y' m' d') : y = y' ∧ m = m' ∧ d = d' := by
  rcases Int.lt_trichotomy y y' with l | l | l
  · have := num_lt h h' (.inl l); omega
  · rcases Int.lt_trichotomy m m' with k | k | k
    · have := num_lt h h' (.inr ⟨l, .inl k⟩); omega
    · rcases Int.lt_trichotomy d d' with j | j | j
      · have := num_lt h h' (.inr ⟨l, .inr ⟨k, j⟩⟩); omega
      · exact ⟨l, k, j⟩
      · have := num_lt h' h (.inr ⟨l.symm, .inr ⟨k.symm, j⟩⟩); omega
    · have := num_lt h' h (.inr ⟨l.symm, .inl k⟩); omega
  · have := num_lt h' h (.inl l); omega
theorem num_less {y m d y' m' d' : Int} (h : DateOk y m d) (h' : DateOk y' m' d') : num y m d < num y' m' d' ↔ (y < y' ∨ (y = y' ∧ (m < m' ∨ (m = m' ∧ d < d')))) := by
  constructor
  · intro l
    rcases Int.lt_trichotomy y y' with a | a | a
    · exact .inl a
    · rcases Int.lt_trichotomy m m' with k | k | k
      · exact .inr ⟨a, .inl k⟩
      · rcases Int.lt_trichotomy d d' with j | j | j
        · exact .inr ⟨a, .inr ⟨k, j⟩⟩
        · subst a k j; omega
        · have := num_lt h' h (.inr ⟨a.symm, .inr ⟨k.symm, j⟩⟩); omega
      · have := num_lt h' h (.inr ⟨a.symm, .inl k⟩); omega
    · have := num_lt h' h (.inl a); omega
  · exact num_lt h h'

/-- each number in range is a day's -/
theorem num_ex {n : Int} (h0 : 0 ≤ n) (h1 : n ≤ 3068036) : ∃ y m d, DateOk y m d ∧ num y m d = n := by
  have year : ∀ k : Nat, k ≤ 8400 → n < dby (1600 + k) → ∃ y : Int, 1600 ≤ y ∧ y < 1600 + k ∧ dby y ≤ n ∧ n < dby (y + 1) := by
    intro k
    induction k with
    | zero => intro _ h; rw [show (1600 : Int) + (0 : Nat) = 1600 by omega, dby_first] at h; omega
    | succ j ih =>
      intro hk h
      by_cases c : n < dby (1600 + j)
      · obtain ⟨y, a, b, c1, d⟩ := ih (by omega) c
        exact ⟨y, a, by omega, c1, d⟩
      · exact ⟨1600 + j, by omega, by omega, by omega, by rw [show (1600 : Int) + j + 1 = 1600 + ((j + 1 : Nat) : Int) by omega]; exact h⟩
  obtain ⟨y, y0, y1, ya, yb⟩ := year 8400 (by omega) (by rw [show (1600 : Int) + (8400 : Nat) = 10000 by omega, dby_last]; omega)
  have ys := dby_succ y
  have month : ∀ k : Nat, k ≤ 12 → n - dby y < cum y (1 + k) → ∃ m : Int, 1 ≤ m ∧ m < 1 + k ∧ cum y m ≤ n - dby y ∧ n - dby y < cum y (m + 1) := by
    intro k
    induction k with
    | zero => intro _ h; rw [show (1 : Int) + (0 : Nat) = 1 by omega, cum_one] at h; omega
    | succ j ih =>
      intro hk h
      by_cases c : n - dby y < cum y (1 + j)
      · obtain ⟨m, a, b, c1, d⟩ := ih (by omega) c
        exact ⟨m, a, by omega, c1, d⟩
      · exact ⟨1 + j, by omega, by omega, by omega, by rw [show (1 : Int) + j + 1 = 1 + ((j + 1 : Nat) : Int) by omega]; exact h⟩
  obtain ⟨m, m0, m1, ma, mb⟩ := month 12 (by omega) (by rw [show (1 : Int) + (12 : Nat) = 13 by omega, cum_end]; omega)
  have ms := cum_succ y m m0 (by omega)
  exact ⟨y, m, n - dby y - cum y m + 1, ⟨⟨y0, by omega, m0, by omega⟩, by omega, by omega⟩, by unfold num; omega⟩

/-- the weekday of a number: 0 is a Saturday -/
def wday (n : Int) : Int := (n + 5) % 7 + 1

/-- what Length, Check, Day, Of, Weekday and Add answer -/
def LenRes (y m v er : Int) : Prop := (MonthOk y m ∧ v = mlen y m ∧ er = 0) ∨ (¬ MonthOk y m ∧ v = 0 ∧ er = 4)
def ChkRes (y m d er : Int) : Prop := (DateOk y m d ∧ er = 0) ∨ (¬ DateOk y m d ∧ er = 4)
def DayRes (y m d v er : Int) : Prop := (DateOk y m d ∧ v = num y m d ∧ er = 0) ∨ (¬ DateOk y m d ∧ v = 0 ∧ er = 4)
def OfRes (n y m d er : Int) : Prop := (0 ≤ n ∧ n ≤ 3068036 ∧ DateOk y m d ∧ num y m d = n ∧ er = 0) ∨ (¬ (0 ≤ n ∧ n ≤ 3068036) ∧ y = 0 ∧ m = 0 ∧ d = 0 ∧ er = 4)
def WkdRes (n v er : Int) : Prop := (0 ≤ n ∧ n ≤ 3068036 ∧ v = wday n ∧ er = 0) ∨ (¬ (0 ≤ n ∧ n ≤ 3068036) ∧ v = 0 ∧ er = 4)
def AddRes (a n v er : Int) : Prop := (0 ≤ a ∧ a ≤ 3068036 ∧ 0 ≤ a + n ∧ a + n ≤ 3068036 ∧ v = a + n ∧ er = 0) ∨ (¬ (0 ≤ a ∧ a ≤ 3068036 ∧ 0 ≤ a + n ∧ a + n ≤ 3068036) ∧ v = 0 ∧ er = 4)

theorem lenres_ex (y m : Int) : ∃ v er, LenRes y m v er := by
  by_cases h : MonthOk y m
  · exact ⟨_, 0, .inl ⟨h, rfl, rfl⟩⟩
  · exact ⟨0, 4, .inr ⟨h, rfl, rfl⟩⟩
theorem chkres_ex (y m d : Int) : ∃ er, ChkRes y m d er := by
  by_cases h : DateOk y m d
  · exact ⟨0, .inl ⟨h, rfl⟩⟩
  · exact ⟨4, .inr ⟨h, rfl⟩⟩
theorem dayres_ex (y m d : Int) : ∃ v er, DayRes y m d v er := by
  by_cases h : DateOk y m d
  · exact ⟨_, 0, .inl ⟨h, rfl, rfl⟩⟩
  · exact ⟨0, 4, .inr ⟨h, rfl, rfl⟩⟩
theorem ofres_ex (n : Int) : ∃ y m d er, OfRes n y m d er := by
  by_cases h : 0 ≤ n ∧ n ≤ 3068036
  · obtain ⟨y, m, d, h1, h2⟩ := num_ex h.1 h.2
    exact ⟨y, m, d, 0, .inl ⟨h.1, h.2, h1, h2, rfl⟩⟩
  · exact ⟨0, 0, 0, 4, .inr ⟨h, rfl, rfl, rfl, rfl⟩⟩
theorem wkdres_ex (n : Int) : ∃ v er, WkdRes n v er := by
  by_cases h : 0 ≤ n ∧ n ≤ 3068036
  · exact ⟨_, 0, .inl ⟨h.1, h.2, rfl, rfl⟩⟩
  · exact ⟨0, 4, .inr ⟨h, rfl, rfl⟩⟩
theorem addres_ex (a n : Int) : ∃ v er, AddRes a n v er := by
  by_cases h : 0 ≤ a ∧ a ≤ 3068036 ∧ 0 ≤ a + n ∧ a + n ≤ 3068036
  · exact ⟨_, 0, .inl ⟨h.1, h.2.1, h.2.2.1, h.2.2.2, rfl, rfl⟩⟩
  · exact ⟨0, 4, .inr ⟨h, rfl, rfl⟩⟩

end Go.Proofs.YtfjckgnclhpmcaaDoor.Cm
