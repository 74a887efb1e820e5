/- Which fiscal year a day is of; plain mathematics, nothing of the program. -/
import Derived.Test.YtkpjkdeomoecjaaDoorAmath
namespace Go.Proofs.YtkpjkdeomoecjaaDoor.Am
set_option linter.unusedSimpArgs false
set_option linter.unusedVariables false
open Go.Proofs.YtkpjkdeomoecjaaDoor.Cm Go.Proofs.YtkpjkdeomoecjaaDoor.Em

def OfA (c : CalZ) (n y er : Int) : Prop :=
  (CalOk c ∧ 0 ≤ n ∧ n ≤ 3068036 ∧ 1601 ≤ y ∧ y ≤ 9997 ∧ yend c (y - 1) < n ∧ n ≤ yend c y ∧ er = 0) ∨
  (CalOk c ∧ 0 ≤ n ∧ n ≤ 3068036 ∧ (n ≤ yend c 1600 ∨ yend c 9997 < n) ∧ y = 0 ∧ er = 11) ∨
  (CalOk c ∧ ¬ (0 ≤ n ∧ n ≤ 3068036) ∧ y = 0 ∧ er = 4) ∨ (¬ CalOk c ∧ y = 0 ∧ er = 1)
theorem year_ex {c : CalZ} {n : Int} (h : KindOk c) (a : yend c 1600 < n) (b : n ≤ yend c 9997) : ∃ y, 1601 ≤ y ∧ y ≤ 9997 ∧ yend c (y - 1) < n ∧ n ≤ yend c y := by
  have e : ∀ k : Nat, k ≤ 8397 → n ≤ yend c (1600 + k) → ∃ y : Int, 1601 ≤ y ∧ y ≤ 1600 + k ∧ yend c (y - 1) < n ∧ n ≤ yend c y := by
    intro k
    induction k with
    | zero => intro _ h; simp at h; omega
    | succ j ih =>
      intro hk h
      by_cases q : n ≤ yend c (1600 + j)
      · obtain ⟨y, a, b, c1, d⟩ := ih (by omega) q
        exact ⟨y, a, by omega, c1, d⟩
      · refine ⟨1600 + ((j + 1 : Nat) : Int), by omega, by omega, ?_, h⟩
        have t : 1600 + ((j + 1 : Nat) : Int) - 1 = 1600 + j := by omega
        rw [t]; omega
  obtain ⟨y, y0, y1, y2, y3⟩ := e 8397 (by omega) b
  exact ⟨y, y0, by omega, y2, y3⟩
theorem year_uniq {c : CalZ} {n y z : Int} (h : KindOk c) (y0 : 1601 ≤ y) (y1 : y ≤ 9997) (ya : yend c (y - 1) < n) (yb : n ≤ yend c y) (z0 : 1601 ≤ z) (z1 : z ≤ 9997) (za : yend c (z - 1) < n) (zb : n ≤ yend c z) : y = z := by
  rcases Int.lt_trichotomy y z with l | l | l
  · by_cases e : y = z - 1
    · subst e; omega
    · have := yend_lt h (a := y) (b := z - 1) (by omega) (by omega) (by omega); omega
  · exact l
  · by_cases e : z = y - 1
    · subst e; omega
    · have := yend_lt h (a := z) (b := y - 1) (by omega) (by omega) (by omega); omega
theorem ofa_ex (c : CalZ) (n : Int) : ∃ y er, OfA c n y er := by
  by_cases h : CalOk c
  · by_cases k : 0 ≤ n ∧ n ≤ 3068036
    · by_cases a : yend c 1600 < n ∧ n ≤ yend c 9997
      · obtain ⟨y, q⟩ := year_ex h.1 a.1 a.2
        exact ⟨y, 0, .inl ⟨h, k.1, k.2, q.1, q.2.1, q.2.2.1, q.2.2.2, rfl⟩⟩
      · exact ⟨0, 11, .inr (.inl ⟨h, k.1, k.2, by omega, rfl, rfl⟩)⟩
    · exact ⟨0, 4, .inr (.inr (.inl ⟨h, k, rfl, rfl⟩))⟩
  · exact ⟨0, 1, .inr (.inr (.inr ⟨h, rfl, rfl⟩))⟩
/-- the fiscal year is near to the civil one -/
theorem year_near {c : CalZ} {n Y y : Int} (h : KindOk c) (a : dby Y ≤ n) (b : n < dby (Y + 1)) (y0 : 1601 ≤ y) (y1 : y ≤ 9997) (ya : yend c (y - 1) < n) (yb : n ≤ yend c y) : Y - 1 ≤ y + c.s ∧ y + c.s ≤ Y + 1 := by
  have k := kind_bd h
  have ok := mon_ok h (y := y) (by omega) (by omega)
  have ok1 := mon_ok h (y := y - 1) (by omega) (by omega)
  have z0 := near_bd (y + c.s) c.m c.d
  have z1 := back_bd (y + c.s) c.m c.d
  have z2 := near_bd (y - 1 + c.s) c.m c.d
  have z3 := back_bd (y - 1 + c.s) c.m c.d
  have u := num_bd (end_ok ok)
  have u1 := num_bd (end_ok ok1)
  have e0 : yend c y ≤ mend (y + c.s) c.m + 3 := by
    unfold yend; split
    · omega
    · split <;> omega
  have e1 : mend (y - 1 + c.s) c.m - 6 ≤ yend c (y - 1) := by
    unfold yend; split
    · omega
    · split <;> omega
  have m1 : dby (y - 1 + c.s) + 27 ≤ mend (y - 1 + c.s) c.m := by
    have := cum_bd (y - 1 + c.s) c.m k.1 (by omega)
    have := mlen_bd (y - 1 + c.s) c.m
    unfold mend num; omega
  unfold mend at e0
  constructor
  · by_cases q : Y - 1 ≤ y + c.s
    · exact q
    · have := dby_mono (a := y + c.s + 1) (b := Y - 1) (by omega)
      have d5 := dby_succ (Y - 1)
      have := lp_01 (Y - 1)
      have t : Y - 1 + 1 = Y := by omega
      rw [t] at d5
      omega
  · by_cases q : y + c.s ≤ Y + 1
    · exact q
    · have := dby_mono (a := Y + 1) (b := y - 1 + c.s) (by omega)
      omega
def NthA (c : CalZ) (n v er : Int) : Prop := ∃ y, OfA c n y er ∧ (er = 0 → v = n - yend c (y - 1)) ∧ (er ≠ 0 → v = 0)
def BoundsA (c : CalZ) (a b er : Int) : Prop := (CalOk c ∧ a = yend c (c.fi - 1) + 1 ∧ b = yend c c.la ∧ er = 0) ∨ (¬ CalOk c ∧ a = 0 ∧ b = 0 ∧ er = 1)
def ServedA (c : CalZ) (n v er : Int) : Prop := ∃ y e0, OfA c n y e0 ∧ ((e0 ≠ 0 ∧ v = 0 ∧ er = e0) ∨ (e0 = 0 ∧ c.fi ≤ y ∧ y ≤ c.la ∧ v = y ∧ er = 0) ∨ (e0 = 0 ∧ ¬ (c.fi ≤ y ∧ y ≤ c.la) ∧ v = 0 ∧ er = 11))
theorem ntha_ex (c : CalZ) (n : Int) : ∃ v er, NthA c n v er := by
  obtain ⟨y, er, h⟩ := ofa_ex c n
  by_cases e : er = 0
  · exact ⟨_, er, y, h, fun _ => rfl, fun k => absurd e k⟩
  · exact ⟨0, er, y, h, fun k => absurd k e, fun _ => rfl⟩
theorem boundsa_ex (c : CalZ) : ∃ a b er, BoundsA c a b er := by
  by_cases h : CalOk c
  · exact ⟨_, _, 0, .inl ⟨h, rfl, rfl, rfl⟩⟩
  · exact ⟨0, 0, 1, .inr ⟨h, rfl, rfl, rfl⟩⟩
theorem serveda_ex (c : CalZ) (n : Int) : ∃ v er, ServedA c n v er := by
  obtain ⟨y, e0, h⟩ := ofa_ex c n
  by_cases e : e0 = 0
  · by_cases k : c.fi ≤ y ∧ y ≤ c.la
    · exact ⟨y, 0, y, e0, h, .inr (.inl ⟨e, k.1, k.2, rfl, rfl⟩)⟩
    · exact ⟨0, 11, y, e0, h, .inr (.inr ⟨e, k, rfl, rfl⟩)⟩
  · exact ⟨0, e0, y, e0, h, .inl ⟨e, rfl, rfl⟩⟩

end Go.Proofs.YtkpjkdeomoecjaaDoor.Am
