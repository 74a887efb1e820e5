/- Fiscal calendars: which may be, and where their years end; plain mathematics, nothing of the program. -/
import Derived.Test.YtkpjkdeomoecjaaDoorElaw
import Derived.Test.YtkpjkdeomoecjaaDoorZlaw
namespace Go.Proofs.YtkpjkdeomoecjaaDoor.Am
set_option linter.unusedSimpArgs false
set_option linter.unusedVariables false
open Go.Proofs.YtkpjkdeomoecjaaDoor.Cm Go.Proofs.YtkpjkdeomoecjaaDoor.Em
open Go.Proofs.YtkpjkdeomoecjaaDoor.Zm (name)

/-- a calendar's parts: name, kind, weekday, month, shift, shape, pattern, cycle, extra, first, last, policy -/
structure CalZ where
  nm : ByteArray
  k : Int
  d : Int
  m : Int
  s : Int
  sh : Int
  p0 : Int
  p1 : Int
  p2 : Int
  cy : Int
  ex : Int
  fi : Int
  la : Int
  po : Int

/-- how many periods a year has that is cut as it may be -/
def per (c : CalZ) : Int := if c.sh = 2 then 13 else if c.sh = 3 then 52 / c.cy else 12
def CutOk (c : CalZ) : Prop :=
  (c.sh = 1 ∧ ((c.p0 = 5 ∧ c.p1 = 4 ∧ c.p2 = 4) ∨ (c.p0 = 4 ∧ c.p1 = 5 ∧ c.p2 = 4) ∨ (c.p0 = 4 ∧ c.p1 = 4 ∧ c.p2 = 5)) ∧ c.cy = 0 ∧ 1 ≤ c.ex ∧ c.ex ≤ 12) ∨
  (c.sh = 2 ∧ c.p0 = 0 ∧ c.p1 = 0 ∧ c.p2 = 0 ∧ c.cy = 0 ∧ 1 ≤ c.ex ∧ c.ex ≤ 13) ∨
  (c.sh = 3 ∧ c.p0 = 0 ∧ c.p1 = 0 ∧ c.p2 = 0 ∧ ((c.cy = 1 ∧ 1 ≤ c.ex ∧ c.ex ≤ 52) ∨ (c.cy = 2 ∧ 1 ≤ c.ex ∧ c.ex ≤ 26) ∨ (c.cy = 4 ∧ 1 ≤ c.ex ∧ c.ex ≤ 13)))
def KindOk (c : CalZ) : Prop :=
  ((c.k = 1 ∨ c.k = 2) ∧ 1 ≤ c.d ∧ c.d ≤ 7 ∧ 1 ≤ c.m ∧ c.m ≤ 12 ∧ 0 ≤ c.s ∧ c.s ≤ 1 ∧ CutOk c) ∨
  (c.k = 3 ∧ c.d = 6 ∧ c.m = 1 ∧ c.s = 1 ∧ c.sh = 1 ∧ c.p0 = 4 ∧ c.p1 = 5 ∧ c.p2 = 4 ∧ c.cy = 0 ∧ c.ex = 12) ∨
  (c.k = 4 ∧ c.d = 7 ∧ c.m = 12 ∧ c.s = 0 ∧ c.sh = 4 ∧ c.p0 = 0 ∧ c.p1 = 0 ∧ c.p2 = 0 ∧ c.cy = 0 ∧ c.ex = 12) ∨
  (c.k = 5 ∧ c.d = 7 ∧ c.m = 12 ∧ c.s = 0 ∧ CutOk c) ∨
  (c.k = 6 ∧ c.d = 0 ∧ 1 ≤ c.m ∧ c.m ≤ 12 ∧ 0 ≤ c.s ∧ c.s ≤ 1 ∧ c.sh = 5 ∧ c.p0 = 0 ∧ c.p1 = 0 ∧ c.p2 = 0 ∧ c.cy = 0 ∧ c.ex = 0)
def YearsOk (c : CalZ) : Prop := 1602 ≤ c.fi ∧ c.la ≤ 9996 ∧ c.fi ≤ c.la ∧ c.la - c.fi < 400
def PolOk (c : CalZ) : Prop := 1 ≤ c.po ∧ c.po ≤ 4 ∧ (c.po = 4 ↔ c.k = 6)
def CalOk (c : CalZ) : Prop := KindOk c ∧ name c.nm.data.toList = true ∧ YearsOk c ∧ PolOk c
def ChkA (c : CalZ) (er : Int) : Prop := (CalOk c ∧ er = 0) ∨ (¬ CalOk c ∧ er = 1)

theorem kind_bd {c : CalZ} (h : KindOk c) : 1 ≤ c.m ∧ c.m ≤ 12 ∧ 0 ≤ c.s ∧ c.s ≤ 1 ∧ 1 ≤ c.k ∧ c.k ≤ 6 ∧ (c.k ≠ 6 → 1 ≤ c.d ∧ c.d ≤ 7) ∧ (c.k = 4 → c.m = 12 ∧ c.d = 7 ∧ c.s = 0) ∧ (c.k = 5 → c.m = 12 ∧ c.d = 7 ∧ c.s = 0) ∧ (c.k = 3 → c.m = 1 ∧ c.d = 6 ∧ c.s = 1) := by
  rcases h with h | h | h | h | h <;> (refine ⟨?_, ?_, ?_, ?_, ?_, ?_, ?_, ?_, ?_, ?_⟩ <;> omega)

/-- where a year ends -/
def yend (c : CalZ) (y : Int) : Int :=
  if c.k = 1 ∨ c.k = 4 then mend (y + c.s) c.m - mback (y + c.s) c.m c.d else if c.k = 6 then mend (y + c.s) c.m else nearv (y + c.s) c.m c.d

theorem near_bd (y m wd : Int) : mend y m - 3 ≤ nearv y m wd ∧ nearv y m wd ≤ mend y m + 3 := by
  have b := back_bd y m wd
  unfold nearv; split <;> omega
theorem near_wday {y m wd : Int} (h0 : 1 ≤ wd) (h1 : wd ≤ 7) : wday (nearv y m wd) = wd := by
  have a := back_wday (y := y) (m := m) h0 h1
  unfold nearv
  split
  · unfold wday at *; omega
  · exact a
theorem mon_ok {c : CalZ} {y : Int} (h : KindOk c) (y0 : 1600 ≤ y) (y1 : y ≤ 9998) : MonthOk (y + c.s) c.m := by
  have b := kind_bd h
  exact ⟨by omega, by omega, b.1, b.2.1⟩

theorem yend_bd {c : CalZ} {y : Int} (h : KindOk c) (y0 : 1600 ≤ y) (y1 : y ≤ 9997) : 0 ≤ yend c y ∧ yend c y ≤ 3068036 := by
  have ok := mon_ok h y0 (by omega)
  have b := kind_bd h
  have e := end_range ok
  have k := back_bd (y + c.s) c.m c.d
  have n := near_low (wd := c.d) ok
  have n1 := near_early (wd := c.d) ok (by omega)
  unfold yend
  split
  · omega
  · split <;> omega
theorem yend_step {c : CalZ} {y : Int} (h : KindOk c) (y0 : 1600 ≤ y) (y1 : y ≤ 9998) :
    (c.k ≠ 6 ∧ (yend c (y + 1) = yend c y + 364 ∨ yend c (y + 1) = yend c y + 371)) ∨ (c.k = 6 ∧ (yend c (y + 1) = yend c y + 365 ∨ yend c (y + 1) = yend c y + 366)) := by
  have ok := mon_ok h y0 y1
  have a := ends_year ok
  have l := lasts_year (wd := c.d) ok
  have n := nears_year (wd := c.d) ok
  have e : y + 1 + c.s = y + c.s + 1 := by omega
  unfold yend
  rw [e]
  by_cases k1 : c.k = 1 ∨ c.k = 4
  · rw [if_pos k1, if_pos k1]; omega
  · rw [if_neg k1, if_neg k1]
    by_cases k6 : c.k = 6
    · rw [if_pos k6, if_pos k6]; omega
    · rw [if_neg k6, if_neg k6]; omega
theorem yend_lt {c : CalZ} {a b : Int} (h : KindOk c) (a0 : 1600 ≤ a) (l : a < b) (b1 : b ≤ 9998) : yend c a + 364 * (b - a) ≤ yend c b ∧ yend c b ≤ yend c a + 371 * (b - a) := by
  have e : ∀ k : Nat, a + k ≤ 9998 → yend c a + 364 * k ≤ yend c (a + k) ∧ yend c (a + k) ≤ yend c a + 371 * k := by
    intro k
    induction k with
    | zero => intro _; simp
    | succ n ih =>
      intro hk
      have := ih (by omega)
      have s := yend_step h (y := a + n) (by omega) (by omega)
      have e1 : a + ((n + 1 : Nat) : Int) = a + n + 1 := by omega
      rw [e1]; omega
  have := e (b - a).toNat (by omega)
  have e2 : a + ((b - a).toNat : Int) = b := by omega
  rw [e2] at this
  omega
theorem yend_wday {c : CalZ} {y : Int} (h : KindOk c) (k : c.k ≠ 6) : wday (yend c y) = c.d := by
  have b := kind_bd h
  have d := b.2.2.2.2.2.2.1 k
  unfold yend
  by_cases k1 : c.k = 1 ∨ c.k = 4
  · rw [if_pos k1]; exact back_wday d.1 d.2
  · rw [if_neg k1, if_neg k]; exact near_wday d.1 d.2

/-! what the functions answer -/
def EndA (c : CalZ) (y v er : Int) : Prop :=
  (CalOk c ∧ 1600 ≤ y ∧ y ≤ 9997 ∧ v = yend c y ∧ er = 0) ∨ (CalOk c ∧ ¬ (1600 ≤ y ∧ y ≤ 9997) ∧ v = 0 ∧ er = 11) ∨ (¬ CalOk c ∧ v = 0 ∧ er = 1)
def StartA (c : CalZ) (y v er : Int) : Prop :=
  (CalOk c ∧ 1601 ≤ y ∧ y ≤ 9997 ∧ v = yend c (y - 1) + 1 ∧ er = 0) ∨ (CalOk c ∧ ¬ (1601 ≤ y ∧ y ≤ 9997) ∧ v = 0 ∧ er = 11) ∨ (¬ CalOk c ∧ v = 0 ∧ er = 1)
def DaysA (c : CalZ) (y v er : Int) : Prop :=
  (CalOk c ∧ 1601 ≤ y ∧ y ≤ 9997 ∧ v = yend c y - yend c (y - 1) ∧ er = 0) ∨ (CalOk c ∧ ¬ (1601 ≤ y ∧ y ≤ 9997) ∧ v = 0 ∧ er = 11) ∨ (¬ CalOk c ∧ v = 0 ∧ er = 1)
def WeeksA (c : CalZ) (y v er : Int) : Prop :=
  (CalOk c ∧ c.k ≠ 6 ∧ 1601 ≤ y ∧ y ≤ 9997 ∧ v = (yend c y - yend c (y - 1)) / 7 ∧ er = 0) ∨ (CalOk c ∧ c.k ≠ 6 ∧ ¬ (1601 ≤ y ∧ y ≤ 9997) ∧ v = 0 ∧ er = 11) ∨ ((¬ CalOk c ∨ c.k = 6) ∧ v = 0 ∧ er = 1)
theorem enda_ex (c : CalZ) (y : Int) : ∃ v er, EndA c y v er := by
  by_cases h : CalOk c
  · by_cases k : 1600 ≤ y ∧ y ≤ 9997
    · exact ⟨_, 0, .inl ⟨h, k.1, k.2, rfl, rfl⟩⟩
    · exact ⟨0, 11, .inr (.inl ⟨h, k, rfl, rfl⟩)⟩
  · exact ⟨0, 1, .inr (.inr ⟨h, rfl, rfl⟩)⟩
theorem starta_ex (c : CalZ) (y : Int) : ∃ v er, StartA c y v er := by
  by_cases h : CalOk c
  · by_cases k : 1601 ≤ y ∧ y ≤ 9997
    · exact ⟨_, 0, .inl ⟨h, k.1, k.2, rfl, rfl⟩⟩
    · exact ⟨0, 11, .inr (.inl ⟨h, k, rfl, rfl⟩)⟩
  · exact ⟨0, 1, .inr (.inr ⟨h, rfl, rfl⟩)⟩
theorem daysa_ex (c : CalZ) (y : Int) : ∃ v er, DaysA c y v er := by
  by_cases h : CalOk c
  · by_cases k : 1601 ≤ y ∧ y ≤ 9997
    · exact ⟨_, 0, .inl ⟨h, k.1, k.2, rfl, rfl⟩⟩
    · exact ⟨0, 11, .inr (.inl ⟨h, k, rfl, rfl⟩)⟩
  · exact ⟨0, 1, .inr (.inr ⟨h, rfl, rfl⟩)⟩
theorem weeksa_ex (c : CalZ) (y : Int) : ∃ v er, WeeksA c y v er := by
  by_cases h : CalOk c
  · by_cases k6 : c.k = 6
    · exact ⟨0, 1, .inr (.inr ⟨.inr k6, rfl, rfl⟩)⟩
    · by_cases k : 1601 ≤ y ∧ y ≤ 9997
      · exact ⟨_, 0, .inl ⟨h, k6, k.1, k.2, rfl, rfl⟩⟩
      · exact ⟨0, 11, .inr (.inl ⟨h, k6, k, rfl, rfl⟩)⟩
  · exact ⟨0, 1, .inr (.inr ⟨.inl h, rfl, rfl⟩)⟩
theorem chka_ex (c : CalZ) : ∃ er, ChkA c er := by
  by_cases h : CalOk c
  · exact ⟨0, .inl ⟨h, rfl⟩⟩
  · exact ⟨1, .inr ⟨h, rfl⟩⟩

/-- the year n days behind the first one's beginning: from which one on it is looked for -/
theorem year_from {c : CalZ} {n Y s : Int} (h : KindOk c) (Y0 : 1600 ≤ Y) (Y1 : Y ≤ 9999) (a : dby Y ≤ n) (b : n < dby (Y + 1)) (hs : s = max (Y - 1 - c.s) 1600) :
    (1600 < s → s ≤ 9998 ∧ yend c (s - 1) < n) ∧ 1600 ≤ s ∧ s ≤ 9998 := by
  have k := kind_bd h
  have hm : 1600 ≤ s ∧ (1600 < s → s = Y - 1 - c.s) := by omega
  refine ⟨fun g => ⟨by omega, ?_⟩, hm.1, by omega⟩
  have e := hm.2 g
  have ok := mon_ok h (y := s - 1) (by omega) (by omega)
  have t : s - 1 + c.s = Y - 2 := by omega
  rw [t] at ok
  have nb := near_bd (Y - 2) c.m c.d
  have bb := back_bd (Y - 2) c.m c.d
  have u := num_bd (end_ok ok)
  have d := dby_succ (Y - 1)
  have l := lp_01 (Y - 1)
  have e2 : Y - 2 + 1 = Y - 1 := by omega
  have e3 : Y - 1 + 1 = Y := by omega
  rw [e2] at u
  rw [e3] at d
  have z : yend c (s - 1) ≤ mend (Y - 2) c.m + 3 := by
    unfold yend; rw [t]; split
    · omega
    · split <;> omega
  unfold mend at z
  omega

end Go.Proofs.YtkpjkdeomoecjaaDoor.Am
