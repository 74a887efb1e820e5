/- What Day answers for a day of a year of weeks; plain mathematics, nothing of the program. -/
import Derived.Test.YtmagdlcikcgelaaDoorMlaw
namespace Go.Proofs.YtmagdlcikcgelaaDoor.Am
set_option linter.unusedSimpArgs false
set_option linter.unusedVariables false
open Go.Proofs.YtmagdlcikcgelaaDoor.Cm Go.Proofs.YtmagdlcikcgelaaDoor.Em

/-- what Day answers for a day of year y of weeks -/
theorem cday_for {c : CalZ} {d y : Int} (k : Int) (S : ServedA c d y 0) (k6 : c.k ≠ 6) : (¬ Served c (y + k) ∧ CDayA c d k 0 11) ∨ (Served c (y + k) ∧ ∃ i w v er, 7 * (i - 1) < d - yend c (y - 1) ∧ d - yend c (y - 1) ≤ 7 * i ∧ 1 ≤ i ∧ i ≤ nweeks c y ∧ PolA c y (y + k) i w er ∧ CDayA c d k v er ∧
    ((er = 0 ∧ v = yend c (y + k - 1) + (d - yend c (y - 1)) + 7 * (w - i)) ∨ (er = 12 ∧ v = 0))) := by
  obtain ⟨ok, s, p0, p1⟩ := served_to S
  rcases served_dec c (y + k) with q | q
  · obtain ⟨w, er, P⟩ := pola_ex ok k6 y (y + k) ((d - yend c (y - 1) + 6) / 7)
    have wa := week_at (i := (d - yend c (y - 1) + 6) / 7) ok k6 s p0 p1 (by omega) (by omega)
    refine .inr ⟨q, (d - yend c (y - 1) + 6) / 7, w, ?_⟩
    rcases pola_er P with e | e
    · subst e
      exact ⟨_, 0, by omega, by omega, wa.2.2.2.1, wa.2.2.2.2.1, P, ⟨y, 0, S, .inr (.inr (.inl ⟨rfl, q, k6, _, w, by omega, by omega, P, fun _ => rfl, fun h => absurd rfl h⟩))⟩, .inl ⟨rfl, rfl⟩⟩
    · exact ⟨0, er, by omega, by omega, wa.2.2.2.1, wa.2.2.2.2.1, P, ⟨y, 0, S, .inr (.inr (.inl ⟨rfl, q, k6, _, w, by omega, by omega, P, fun h => by omega, fun _ => rfl⟩))⟩, .inr ⟨e.1, rfl⟩⟩
  · exact .inl ⟨q, cday_out S q⟩
/-- the way back of a day that lies in its year -/
theorem cday_back {c : CalZ} {d y k i w v : Int} (S : ServedA c d y 0) (k6 : c.k ≠ 6) (st : Served c (y + k)) (i0 : 7 * (i - 1) < d - yend c (y - 1)) (i1 : d - yend c (y - 1) ≤ 7 * i) (i2 : 1 ≤ i) (i3 : i ≤ nweeks c y) (P : PolA c y (y + k) i w 0)
    (hv : v = yend c (y + k - 1) + (d - yend c (y - 1)) + 7 * (w - i)) (w0 : 1 ≤ w) (w1 : w ≤ nweeks c (y + k)) : CDayA c v (-k) d 0 := by
  obtain ⟨ok, s, p0, p1⟩ := served_to S
  have sy := served_told ok s
  have tt := served_told ok st
  have n3 := (nweeks_01 ok.1 k6 (y := y + k) (by omega) (by omega)).2
  have S2 : ServedA c v (y + k) 0 := served_of ok st (by omega) (by omega)
  have Q := pol_back ok k6 (by omega) (by omega) (by omega) (by omega) i2 i3 P
  have e : y + k + -k = y := by omega
  exact ⟨y + k, 0, S2, .inr (.inr (.inl ⟨rfl, by rw [e]; exact s, k6, w, i, by omega, by omega, by rw [e]; exact Q, fun _ => by rw [e]; omega, fun h => absurd rfl h⟩))⟩

end Go.Proofs.YtmagdlcikcgelaaDoor.Am
