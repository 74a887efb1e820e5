/- Plain facts on ISO weeks, and on the last weekdays of months; nothing of the program. -/
import Derived.Test.YtfjckgnclhpmcaaDoorClaw
namespace Go.Proofs.YtfjckgnclhpmcaaDoor.Em
set_option linter.unusedSimpArgs false
set_option linter.unusedVariables false
open Go.Proofs.YtfjckgnclhpmcaaDoor.Cm

/-- the Monday of the week that has January 4 in it -/
def fm (y : Int) : Int := dby y + 3 - (dby y + 8) % 7
theorem fm_mod (y : Int) : fm y % 7 = 2 := by unfold fm; omega
theorem fm_near (y : Int) : dby y - 3 ≤ fm y ∧ fm y ≤ dby y + 3 := by unfold fm; omega
theorem fm_succ (y : Int) : fm (y + 1) = fm y + 364 ∨ fm (y + 1) = fm y + 371 := by
  have a := dby_succ y
  have b := lp_01 y
  unfold fm; omega
theorem fm_step (y : Int) : fm y + 364 ≤ fm (y + 1) := by rcases fm_succ y with h | h <;> omega
theorem fm_mono {a b : Int} (h : a ≤ b) : fm a ≤ fm b := by
  by_cases e : a = b
  · subst e; omega
  · have := dby_step (a := a) (b := b) (by omega)
    have := fm_near a
    have := fm_near b
    have := lp_01 a
    omega
theorem fm_lt {a b n : Int} (h : fm a ≤ n) (k : n < fm (b + 1)) : a ≤ b := by
  by_cases c : a ≤ b
  · exact c
  · have := fm_mono (a := b + 1) (b := a) (by omega); omega
theorem dby_0 : dby 1599 = -365 := by decide
theorem fm_0 : fm 1599 = -362 := by decide
theorem fm_first : fm 1600 = 2 := by decide
theorem fm_last : fm 10000 = 3068039 := by decide
/-- a week is of the year of its Thursday -/
theorem monday_year {y m : Int} (h : m % 7 = 2) : fm y ≤ m ↔ dby y ≤ m + 3 := by
  constructor <;> intro k <;> unfold fm at * <;> omega

def inum (y w d : Int) : Int := fm y + 7 * (w - 1) + d - 1
/-- is there such a day? -/
def IsoOk (y w d : Int) : Prop := 1599 ≤ y ∧ y ≤ 9999 ∧ 1 ≤ w ∧ 7 * w ≤ fm (y + 1) - fm y ∧ 1 ≤ d ∧ d ≤ 7 ∧ 0 ≤ inum y w d ∧ inum y w d ≤ 3068036
def many (y : Int) : Int := (fm (y + 1) - fm y) / 7
theorem many_53 (y : Int) : many y = 52 ∨ many y = 53 := by unfold many; rcases fm_succ y with h | h <;> omega
theorem many_7 (y : Int) : 7 * many y = fm (y + 1) - fm y := by unfold many; rcases fm_succ y with h | h <;> omega
theorem weeks_le {y w d : Int} (h : IsoOk y w d) : w ≤ 53 := by
  have := fm_succ y
  have := h.2.2.2.1
  omega
theorem wday_inum {y w d : Int} (h : IsoOk y w d) : wday (inum y w d) = d := by
  have := fm_mod y
  have := h.2.2.2.2.1
  have := h.2.2.2.2.2.1
  unfold wday inum; omega
theorem inum_monday {y w d : Int} (h : IsoOk y w d) : fm y ≤ inum y w d - (d - 1) ∧ inum y w d - (d - 1) < fm (y + 1) ∧ (inum y w d - (d - 1)) % 7 = 2 := by
  have := fm_mod y
  obtain ⟨_, _, h2, h3, _⟩ := h
  unfold inum; omega
theorem iso_inj {y w d y' w' d' : Int} (h : IsoOk y w d) (h' : IsoOk y' w' d') (e : inum y w d = inum y' w' d') : y = y' ∧ w = w' ∧ d = d' := by
  have a := wday_inum h
  have b := wday_inum h'
  rw [e] at a
  have ed : d = d' := by omega
  subst ed
  obtain ⟨m0, m1, _⟩ := inum_monday h
  obtain ⟨n0, n1, _⟩ := inum_monday h'
  rw [e] at m0 m1
  have y1 := fm_lt m0 n1
  have y2 := fm_lt n0 m1
  obtain rfl : y = y' := by omega
  unfold inum at e
  exact ⟨rfl, by omega, rfl⟩
/-- the year of a day's week, told by the week's Thursday -/
theorem iso_of {n y : Int} (h0 : 0 ≤ n) (h1 : n ≤ 3068036) (y0 : 1599 ≤ y) (y1 : y ≤ 9999) (a : dby y ≤ n - (wday n - 1) + 3) (b : n - (wday n - 1) + 3 < dby (y + 1)) :
    IsoOk y ((n - (wday n - 1) - fm y) / 7 + 1) (wday n) ∧ inum y ((n - (wday n - 1) - fm y) / 7 + 1) (wday n) = n := by
  have wd : 1 ≤ wday n ∧ wday n ≤ 7 ∧ (n - (wday n - 1)) % 7 = 2 := by unfold wday; omega
  obtain ⟨w0, w1, w2⟩ := wd
  have k := (monday_year w2).2 a
  have l : n - (wday n - 1) < fm (y + 1) := by
    by_cases c : n - (wday n - 1) < fm (y + 1)
    · exact c
    · have := (monday_year (y := y + 1) w2).1 (by omega); omega
  have e0 := fm_mod y
  have e1 := fm_mod (y + 1)
  have e : inum y ((n - (wday n - 1) - fm y) / 7 + 1) (wday n) = n := by unfold inum; omega
  exact ⟨⟨y0, y1, by omega, by omega, w0, w1, by omega, by omega⟩, e⟩
/-- each day's week has a Thursday of the calendar, or the first days have one ahead of it -/
theorem thursday_year {n : Int} (h0 : 0 ≤ n) (h1 : n ≤ 3068036) :
    (n - (wday n - 1) + 3 < 0 ∧ -365 ≤ n - (wday n - 1) + 3) ∨ (0 ≤ n - (wday n - 1) + 3 ∧ n - (wday n - 1) + 3 ≤ 3068036 ∧ ∃ y m d, DateOk y m d ∧ num y m d = n - (wday n - 1) + 3) := by
  have wd : 1 ≤ wday n ∧ wday n ≤ 7 ∧ (n - (wday n - 1)) % 7 = 2 := by unfold wday; omega
  by_cases c : n - (wday n - 1) + 3 < 0
  · exact .inl (by omega)
  · have a : n - (wday n - 1) + 3 ≤ 3068036 := by omega
    exact .inr ⟨by omega, a, num_ex (by omega) a⟩
theorem iso_ex {n : Int} (h0 : 0 ≤ n) (h1 : n ≤ 3068036) : ∃ y w d, IsoOk y w d ∧ inum y w d = n := by
  rcases thursday_year h0 h1 with ⟨a, b⟩ | ⟨_, _, y, m, d, ok, e⟩
  · exact ⟨1599, _, _, iso_of h0 h1 (by omega) (by omega) (by rw [dby_0]; exact b) (by rw [show (1599 : Int) + 1 = 1600 by omega, dby_first]; exact a)⟩
  · have b := num_bd ok
    rw [e] at b
    exact ⟨y, _, _, iso_of h0 h1 (by have := ok.1.1; omega) ok.1.2.1 b.1 b.2⟩

/-! what the functions answer -/
def IsoRes (n y w d er : Int) : Prop := (0 ≤ n ∧ n ≤ 3068036 ∧ IsoOk y w d ∧ inum y w d = n ∧ er = 0) ∨ (¬ (0 ≤ n ∧ n ≤ 3068036) ∧ y = 0 ∧ w = 0 ∧ d = 0 ∧ er = 4)
def IDayRes (y w d v er : Int) : Prop := (IsoOk y w d ∧ v = inum y w d ∧ er = 0) ∨ (¬ IsoOk y w d ∧ v = 0 ∧ er = 4)
def ManyRes (y v er : Int) : Prop := (1600 ≤ y ∧ y ≤ 9999 ∧ v = many y ∧ er = 0) ∨ (¬ (1600 ≤ y ∧ y ≤ 9999) ∧ v = 0 ∧ er = 4)
/-- a month's last day, and how many days the last one of a weekday is ahead of it -/
def mend (y m : Int) : Int := num y m (mlen y m)
def mback (y m wd : Int) : Int := (wday (mend y m) - wd) % 7
def LastRes (y m wd v er : Int) : Prop :=
  (MonthOk y m ∧ 1 ≤ wd ∧ wd ≤ 7 ∧ v = mend y m - mback y m wd ∧ er = 0) ∨ (MonthOk y m ∧ ¬ (1 ≤ wd ∧ wd ≤ 7) ∧ v = 0 ∧ er = 1) ∨ (¬ MonthOk y m ∧ v = 0 ∧ er = 4)
def nearv (y m wd : Int) : Int := if 3 < mback y m wd then mend y m - (mback y m wd - 7) else mend y m - mback y m wd
def NearRes (y m wd v er : Int) : Prop :=
  (MonthOk y m ∧ 1 ≤ wd ∧ wd ≤ 7 ∧ nearv y m wd ≤ 3068036 ∧ v = nearv y m wd ∧ er = 0) ∨ (MonthOk y m ∧ 1 ≤ wd ∧ wd ≤ 7 ∧ 3068036 < nearv y m wd ∧ v = 0 ∧ er = 4) ∨
  (MonthOk y m ∧ ¬ (1 ≤ wd ∧ wd ≤ 7) ∧ v = 0 ∧ er = 1) ∨ (¬ MonthOk y m ∧ v = 0 ∧ er = 4)

theorem isores_ex (n : Int) : ∃ y w d er, IsoRes n y w d er := by
  by_cases h : 0 ≤ n ∧ n ≤ 3068036
  · obtain ⟨y, w, d, h1, h2⟩ := iso_ex h.1 h.2
    exact ⟨y, w, d, 0, .inl ⟨h.1, h.2, h1, h2, rfl⟩⟩
  · exact ⟨0, 0, 0, 4, .inr ⟨h, rfl, rfl, rfl, rfl⟩⟩
theorem idayres_ex (y w d : Int) : ∃ v er, IDayRes y w d v er := by
  by_cases h : IsoOk y w d
  · exact ⟨_, 0, .inl ⟨h, rfl, rfl⟩⟩
  · exact ⟨0, 4, .inr ⟨h, rfl, rfl⟩⟩
theorem manyres_ex (y : Int) : ∃ v er, ManyRes y v er := by
  by_cases h : 1600 ≤ y ∧ y ≤ 9999
  · exact ⟨_, 0, .inl ⟨h.1, h.2, rfl, rfl⟩⟩
  · exact ⟨0, 4, .inr ⟨h, rfl, rfl⟩⟩
theorem lastres_ex (y m wd : Int) : ∃ v er, LastRes y m wd v er := by
  by_cases h : MonthOk y m
  · by_cases k : 1 ≤ wd ∧ wd ≤ 7
    · exact ⟨_, 0, .inl ⟨h, k.1, k.2, rfl, rfl⟩⟩
    · exact ⟨0, 1, .inr (.inl ⟨h, k, rfl, rfl⟩)⟩
  · exact ⟨0, 4, .inr (.inr ⟨h, rfl, rfl⟩)⟩
theorem nearres_ex (y m wd : Int) : ∃ v er, NearRes y m wd v er := by
  by_cases h : MonthOk y m
  · by_cases k : 1 ≤ wd ∧ wd ≤ 7
    · by_cases l : nearv y m wd ≤ 3068036
      · exact ⟨_, 0, .inl ⟨h, k.1, k.2, l, rfl, rfl⟩⟩
      · exact ⟨0, 4, .inr (.inl ⟨h, k.1, k.2, by omega, rfl, rfl⟩)⟩
    · exact ⟨0, 1, .inr (.inr (.inl ⟨h, k, rfl, rfl⟩))⟩
  · exact ⟨0, 4, .inr (.inr (.inr ⟨h, rfl, rfl⟩))⟩

/-! months' ends -/
theorem end_ok {y m : Int} (h : MonthOk y m) : DateOk y m (mlen y m) := ⟨h, by have := mlen_bd y m; omega, by omega⟩
theorem end_range {y m : Int} (h : MonthOk y m) : 30 ≤ mend y m ∧ mend y m ≤ 3068036 := by
  have a := num_range (end_ok h)
  refine ⟨?_, a.2⟩
  have := cum_step y h.2.2.1 (b := m + 1) (by omega) (by have := h.2.2.2; omega)
  have b := cum_succ y m h.2.2.1 h.2.2.2
  have c := dby_mono (a := 1600) (b := y) h.1
  rw [dby_first] at c
  have d := cum_mono y (a := 2) (b := m + 1) (by omega) (by have := h.2.2.1; omega) (by have := h.2.2.2; omega)
  have e : cum y 2 = 31 := by simp [cum]
  unfold mend num; omega
theorem back_bd (y m wd : Int) : 0 ≤ mback y m wd ∧ mback y m wd ≤ 6 := by unfold mback; omega
theorem near_low {y m wd : Int} (h : MonthOk y m) : 0 ≤ nearv y m wd ∧ nearv y m wd ≤ 3068039 := by
  have a := end_range h
  have b := back_bd y m wd
  unfold nearv; split <;> omega
theorem wday_bd (n : Int) : 1 ≤ wday n ∧ wday n ≤ 7 := by unfold wday; omega
theorem back_wday {y m wd : Int} (h0 : 1 ≤ wd) (h1 : wd ≤ 7) : wday (mend y m - mback y m wd) = wd := by
  unfold mback wday; omega

/-- the year of the day n, or the one ahead of the calendar -/
def YearAt (n y : Int) : Prop := (n < 0 ∧ y = 1599) ∨ (0 ≤ n ∧ n ≤ 3068036 ∧ ∃ m d, DateOk y m d ∧ num y m d = n)
theorem iso_year {n y w d : Int} (ok : IsoOk y w d) (hn : inum y w d = n) : YearAt (n - (d - 1) + 3) y ∧ w = (n - (d - 1) - fm y) / 7 + 1 ∧ fm y ≤ n - (d - 1) ∧ d = wday n := by
  have wd := wday_inum ok
  obtain ⟨m0, m1, m2⟩ := inum_monday ok
  have a0 : 0 ≤ inum y w d := ok.2.2.2.2.2.2.1
  have a1 : inum y w d ≤ 3068036 := ok.2.2.2.2.2.2.2
  rw [hn] at wd m0 m1 m2 a0 a1
  have k0 := (monday_year m2).1 m0
  have k1 : n - (d - 1) + 3 < dby (y + 1) := by
    by_cases c : n - (d - 1) + 3 < dby (y + 1)
    · exact c
    · have := (monday_year (y := y + 1) m2).2 (by omega); omega
  refine ⟨?_, by unfold inum at hn; omega, m0, wd.symm⟩
  have t := thursday_year a0 a1
  rw [wd] at t
  rcases t with ⟨t0, t1⟩ | ⟨t0, t1, y', m', d', ok', e⟩
  · refine .inl ⟨t0, ?_⟩
    have : y ≤ 1599 := dby_lt (n := n - (d - 1) + 3) k0 (by rw [show (1599 : Int) + 1 = 1600 by omega, dby_first]; exact t0)
    have := ok.1
    omega
  · have b := num_bd ok'
    rw [e] at b
    have y1 := dby_lt b.1 k1
    have y2 := dby_lt k0 b.2
    obtain rfl : y = y' := by omega
    exact .inr ⟨t0, t1, m', d', ok', e⟩
def FirstRes (y v er : Int) : Prop := (1599 ≤ y ∧ y ≤ 9999 ∧ v = fm y ∧ er = 0) ∨ (¬ (1599 ≤ y ∧ y ≤ 9999) ∧ v = 0 ∧ er = 4)
theorem fm_bd {y : Int} (h0 : 1599 ≤ y) (h1 : y ≤ 9999) : -362 ≤ fm y ∧ fm y ≤ 3067675 := by
  have a := fm_mono h0
  have b := fm_mono h1
  have c := fm_step 9999
  have d : fm (9999 + 1) = 3068039 := fm_last
  rw [fm_0] at a
  omega
/-- what endOf answers -/
def EndRes (y m wd v b er : Int) : Prop :=
  (MonthOk y m ∧ 1 ≤ wd ∧ wd ≤ 7 ∧ v = mend y m ∧ b = mback y m wd ∧ er = 0) ∨ (MonthOk y m ∧ ¬ (1 ≤ wd ∧ wd ≤ 7) ∧ v = 0 ∧ b = 0 ∧ er = 1) ∨ (¬ MonthOk y m ∧ v = 0 ∧ b = 0 ∧ er = 4)

end Go.Proofs.YtfjckgnclhpmcaaDoor.Em
