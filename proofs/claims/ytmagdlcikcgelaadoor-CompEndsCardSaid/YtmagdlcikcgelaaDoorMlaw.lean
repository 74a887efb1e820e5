/- What the days say with which days are compared; plain mathematics, nothing of the program. -/
import Derived.Test.YtmagdlcikcgelaaDoorJP
namespace Go.Proofs.YtmagdlcikcgelaaDoor.Am
set_option linter.unusedSimpArgs false
set_option linter.unusedVariables false
open Go.Proofs.YtmagdlcikcgelaaDoor.Cm Go.Proofs.YtmagdlcikcgelaaDoor.Em

section
variable {c : CalZ} {y t n k v w er a b i j x : Int}
theorem dropa_is (a b x : Int) : (0 < a ∧ a < x ∧ 0 < b ∧ b ≤ x - 1 ∧ dropA x a b = x) ∨ (0 < a ∧ a < x ∧ ¬ (0 < b ∧ b ≤ x - 1) ∧ dropA x a b = x - 1) ∨ (¬ (0 < a ∧ a < x) ∧ 0 < b ∧ b ≤ x ∧ dropA x a b = x + 1) ∨ (¬ (0 < a ∧ a < x) ∧ ¬ (0 < b ∧ b ≤ x) ∧ dropA x a b = x) := by
  unfold dropA
  by_cases h : 0 < a ∧ a < x
  · rw [if_pos h]
    by_cases q : 0 < b ∧ b ≤ x - 1
    · rw [if_pos q]; exact .inl ⟨h.1, h.2, q.1, q.2, by omega⟩
    · rw [if_neg q]; exact .inr (.inl ⟨h.1, h.2, q, rfl⟩)
  · rw [if_neg h]
    by_cases q : 0 < b ∧ b ≤ x
    · rw [if_pos q]; exact .inr (.inr (.inl ⟨h, q.1, q.2, rfl⟩))
    · rw [if_neg q]; exact .inr (.inr (.inr ⟨h, q, rfl⟩))
theorem pol_same (ok : CalOk c) (k6 : c.k ≠ 6) (i0 : 1 ≤ i) : PolA c y y i i 0 := by
  rcases pol_123 ok k6 with h | h | h
  · exact .inl ⟨h, rfl, rfl⟩
  · exact .inr (.inl ⟨h, by omega, rfl⟩)
  · refine .inr (.inr ⟨h, ?_⟩)
    by_cases q : i = addw c y
    · exact .inr (.inl ⟨q, by omega, q, rfl⟩)
    · refine .inr (.inr ⟨q, ?_, rfl⟩)
      have := dropa_is (addw c y) (addw c y) i
      omega
theorem same_day (S : ServedA c n y 0) : CDayA c n 0 n 0 := by
  obtain ⟨ok, s, p0, p1⟩ := served_to S
  have st := served_told ok s
  by_cases k6 : c.k = 6
  · have z := pend_zero c y
    have z2 := pend_last ok.1 (y := y) (by omega) (by omega)
    obtain ⟨i, hi⟩ := inu_ex (y := y) (L := 4) (d := n) ok.1 (by omega) (by omega) ⟨by omega, by omega⟩ (by omega) (by omega)
    have e : uend c y 4 i = pend c y i := by simp [uend]
    have hi4 := hi.2.2.2
    exact ⟨y, 0, S, .inr (.inr (.inr ⟨rfl, by rw [Int.add_zero]; exact s, k6, ⟨i, hi, by rw [Int.add_zero]; omega⟩, rfl⟩))⟩
  · exact ⟨y, 0, S, .inr (.inr (.inl ⟨rfl, by rw [Int.add_zero]; exact s, k6, (n - yend c (y - 1) + 6) / 7, _, by omega, by omega, by rw [Int.add_zero]; exact pol_same ok k6 (by omega), fun _ => by rw [Int.add_zero]; omega, fun h => absurd rfl h⟩))⟩
theorem cday_no {e : Int} (S : ServedA c n y e) (h : e ≠ 0) : CDayA c n k 0 e := by
  have := (served_er S h).1
  exact ⟨y, e, S, .inl ⟨h, rfl, rfl⟩⟩
theorem cday_out (S : ServedA c n y 0) (h : ¬ Served c (y + k)) : CDayA c n k 0 11 := ⟨y, 0, S, .inr (.inl ⟨rfl, h, rfl, rfl⟩)⟩
/-- a policy's week lies in the year, or beside it -/
theorem pol_bd (ok : CalOk c) (k6 : c.k ≠ 6) (y0 : 1601 ≤ y) (y1 : y ≤ 9997) (t0 : 1601 ≤ t) (t1 : t ≤ 9997) (i0 : 1 ≤ i) (i1 : i ≤ nweeks c y) (P : PolA c y t i w 0) :
    (c.po = 1 ∧ w = i) ∨ (c.po = 2 ∧ w = i + nweeks c t - nweeks c y) ∨ (c.po = 3 ∧ 1 ≤ w ∧ w ≤ nweeks c t ∧ ¬ (i = addw c y ∧ addw c t = 0)) := by
  have ay := addw_bd ok k6 y0 y1
  have at' := addw_bd ok k6 t0 t1
  rcases P with ⟨p, h, _⟩ | ⟨p, h, _⟩ | ⟨p, ⟨_, _, _, h⟩ | ⟨h1, h2, h3, _⟩ | ⟨h1, h2, _⟩⟩
  · exact .inl ⟨p, h⟩
  · exact .inr (.inl ⟨p, h⟩)
  · omega
  · exact .inr (.inr ⟨p, by omega, by omega, fun q => h2 q.2⟩)
  · have := dropa_is (addw c y) (addw c t) i
    exact .inr (.inr ⟨p, by omega, by omega, fun q => h1 q.1⟩)
/-- there is none just of a week that was added -/
theorem pol_gone (ok : CalOk c) (k6 : c.k ≠ 6) (y0 : 1601 ≤ y) (y1 : y ≤ 9997) (t0 : 1601 ≤ t) (t1 : t ≤ 9997) (i0 : 1 ≤ i) (P : PolA c y t i w er) (h : er ≠ 0) : er = 12 ∧ c.po = 3 ∧ nweeks c y = 53 ∧ nweeks c t = 52 ∧ i = addw c y := by
  have ay := addw_bd ok k6 y0 y1
  have at' := addw_bd ok k6 t0 t1
  rcases pola_er P with e | ⟨e, _, p, q, z⟩
  · exact absurd e h
  · exact ⟨e, p, by omega, by omega, q⟩
/-- of two long years, the weeks that were added stand at the same place -/
theorem addw_eq (ok : CalOk c) (k6 : c.k ≠ 6) (y0 : 1601 ≤ y) (y1 : y ≤ 9997) (t0 : 1601 ≤ t) (t1 : t ≤ 9997) (ny : nweeks c y = 53) (nt : nweeks c t = 53) : addw c y = addw c t := by
  have pb := per_bd ok.1
  have e := pb.2.2 k6
  unfold addw
  rw [if_pos ny, if_pos nt]
  rcases shape_cases ok.1 with ⟨_, _, _, _, _, e12, p12⟩ | ⟨q, _⟩ | ⟨_, _, cut⟩
  · have z1 := pend_last ok.1 y0 y1
    have z2 := pend_last ok.1 t0 t1
    rw [p12, ← e12] at z1 z2
    have n1 := (nweeks_01 ok.1 k6 y0 (by omega)).2
    have n2 := (nweeks_01 ok.1 k6 t0 (by omega)).2
    rw [z1, z2, pend_zero, pend_zero]
    omega
  · exact absurd q k6
  · have cs := cut_cases cut
    have f : ∀ z, nweeks c z = 53 → pend c z c.ex = yend c (z - 1) + 7 * (wcum c c.ex + 1) := fun z hz => by
      unfold pend
      rw [if_neg (by omega), if_neg (by omega), if_neg (by omega), if_pos (by omega), hz]
      omega
    rw [f y ny, f t nt, pend_zero, pend_zero]
    omega
/-- two weeks, one behind the other -/
theorem pol_rise (ok : CalOk c) (k6 : c.k ≠ 6) (y0 : 1601 ≤ y) (y1 : y ≤ 9997) (t0 : 1601 ≤ t) (t1 : t ≤ 9997) (i0 : 1 ≤ i) (ij : i ≤ j) (j1 : j ≤ nweeks c y) (P : PolA c y t i w 0) (Q : PolA c y t j x 0) :
    (x - w = j - i) ∨ (c.po = 3 ∧ i < j ∧ w < x ∧ (x - w = j - i + 1 ∨ x - w = j - i - 1)) := by
  have ay := addw_bd ok k6 y0 y1
  have at' := addw_bd ok k6 t0 t1
  have d1 := dropa_is (addw c y) (addw c t) i
  have d2 := dropa_is (addw c y) (addw c t) j
  have eq : nweeks c y = 53 → nweeks c t = 53 → addw c y = addw c t := fun h1 h2 => addw_eq ok k6 y0 y1 t0 t1 h1 h2
  rcases P with ⟨p, h, _⟩ | ⟨p, h, _⟩ | ⟨p, ⟨_, _, _, h⟩ | ⟨h1, h2, h3, _⟩ | ⟨h1, h2, _⟩⟩ <;> rcases Q with ⟨p', g, _⟩ | ⟨p', g, _⟩ | ⟨p', ⟨_, _, _, g⟩ | ⟨g1, g2, g3, _⟩ | ⟨g1, g2, _⟩⟩ <;> omega
/-- there and back -/
theorem pol_back (ok : CalOk c) (k6 : c.k ≠ 6) (y0 : 1601 ≤ y) (y1 : y ≤ 9997) (t0 : 1601 ≤ t) (t1 : t ≤ 9997) (i0 : 1 ≤ i) (i1 : i ≤ nweeks c y) (P : PolA c y t i w 0) : PolA c t y w i 0 := by
  have ay := addw_bd ok k6 y0 y1
  have at' := addw_bd ok k6 t0 t1
  rcases P with ⟨p, h, _⟩ | ⟨p, h, _⟩ | ⟨p, ⟨_, _, _, h⟩ | ⟨h1, h2, h3, _⟩ | ⟨h1, h2, _⟩⟩
  · exact .inl ⟨p, h.symm, rfl⟩
  · exact .inr (.inl ⟨p, by omega, rfl⟩)
  · omega
  · exact .inr (.inr ⟨p, .inr (.inl ⟨h3, by omega, h1, rfl⟩)⟩)
  · have d1 := dropa_is (addw c y) (addw c t) i
    have d2 := dropa_is (addw c t) (addw c y) w
    exact .inr (.inr ⟨p, .inr (.inr ⟨by omega, by omega, rfl⟩)⟩)
theorem ends_7 (ok : CalOk c) (k6 : c.k ≠ 6) (y t : Int) : (yend c y - yend c t) % 7 = 0 := by
  have a := yend_wday (y := y) ok.1 k6
  have b := yend_wday (y := t) ok.1 k6
  unfold wday at a b
  omega
end

end Go.Proofs.YtmagdlcikcgelaaDoor.Am
