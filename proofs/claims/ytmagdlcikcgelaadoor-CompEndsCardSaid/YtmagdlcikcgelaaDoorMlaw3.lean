/- Without weeks that were added a day keeps its period; plain mathematics, nothing of the program. -/
import Derived.Test.YtmagdlcikcgelaaDoorMlaw2
namespace Go.Proofs.YtmagdlcikcgelaaDoor.Am
set_option linter.unusedSimpArgs false
set_option linter.unusedVariables false
open Go.Proofs.YtmagdlcikcgelaaDoor.Cm Go.Proofs.YtmagdlcikcgelaaDoor.Em

theorem pend_cut {c : CalZ} (h : CutOk c) (z p : Int) (p0 : 0 ≤ p) (e0 : 1 ≤ c.ex) : pend c z p = yend c (z - 1) + 7 * (wcum c p + (if c.ex ≤ p then nweeks c z - 52 else 0)) := by
  have cs := cut_cases h
  by_cases q : p ≤ 0
  · obtain rfl : p = 0 := by omega
    rw [pend_zero, if_neg (by omega)]
    have w0 : wcum c 0 = 0 := by
      unfold wcum
      rcases cs with h | h | h | h | h
      · rw [if_pos h.1]; simp
      · rw [if_neg (by omega), if_pos h.1]; simp
      all_goals rw [if_neg (by omega), if_neg (by omega)]; simp
    omega
  · unfold pend
    rw [if_neg q, if_neg (by omega), if_neg (by omega)]
set_option maxHeartbeats 8000000 in
theorem per_keeps {c : CalZ} {y t d i w v p : Int} (ok : CalOk c) (k6 : c.k ≠ 6) (s4 : c.sh ≠ 4) (sy : Served c y) (st : Served c t) (i0 : 7 * (i - 1) < d - yend c (y - 1)) (i1 : d - yend c (y - 1) ≤ 7 * i) (i2 : 1 ≤ i) (i3 : i ≤ nweeks c y)
    (D : DropA i (addw c y) (addw c t) w 0) (hv : v = yend c (t - 1) + (d - yend c (y - 1)) + 7 * (w - i)) (I : InU c y 4 d p) : InU c t 4 v p ∧ d - (pend c y (p - 1) + 1) = v - (pend c t (p - 1) + 1) := by
  have ty := served_told ok sy
  have tt := served_told ok st
  have cut : CutOk c := by
    rcases shape_cases ok.1 with h | h | h
    · exact absurd h.2.1 s4
    · exact absurd h.1 k6
    · exact h.2.2
  have pb := per_bd ok.1
  have e0 := pb.2.2 k6
  obtain ⟨I0, I1, I2, I3⟩ := I
  have uc : ∀ z, ucount c z 4 = per c := fun z => by simp [ucount]
  have ue : ∀ z j, uend c z 4 j = pend c z j := fun z j => by simp [uend]
  rw [uc] at I1
  rw [ue] at I2 I3
  have ay := addw_bd ok k6 (y := y) (by omega) (by omega)
  have at' := addw_bd ok k6 (y := t) (by omega) (by omega)
  have eq : nweeks c y = 53 → nweeks c t = 53 → addw c y = addw c t := fun h1 h2 => addw_eq ok k6 (by omega) (by omega) (by omega) (by omega) h1 h2
  have ad : ∀ z, nweeks c z = 53 → addw c z = wcum c c.ex + 1 := fun z hz => by
    unfold addw
    rw [if_pos hz, pend_cut cut z c.ex (by omega) e0.1, pend_zero, if_pos (Int.le_refl _), hz]
    omega
  have adY := ad y
  have adT := ad t
  have Y0 := pend_cut cut y (p - 1) (by omega) e0.1
  have Y1 := pend_cut cut y p (by omega) e0.1
  have T0 := pend_cut cut t (p - 1) (by omega) e0.1
  have T1 := pend_cut cut t p (by omega) e0.1
  have YE := pend_cut cut y c.ex (by omega) e0.1
  have TE := pend_cut cut t c.ex (by omega) e0.1
  rw [if_pos (Int.le_refl _)] at YE TE
  have m1 : p ≤ c.ex → pend c y p ≤ pend c y c.ex ∧ pend c t p ≤ pend c t c.ex := fun h => by
    have := pend_mono ok.1 (y := y) (by omega) (by omega) (a := p) (b := c.ex) (by omega) h (by omega)
    have := pend_mono ok.1 (y := t) (by omega) (by omega) (a := p) (b := c.ex) (by omega) h (by omega)
    omega
  have m2 : c.ex ≤ p - 1 → pend c y c.ex ≤ pend c y (p - 1) ∧ pend c t c.ex ≤ pend c t (p - 1) := fun h => by
    have := pend_mono ok.1 (y := y) (by omega) (by omega) (a := c.ex) (b := p - 1) (by omega) h (by omega)
    have := pend_mono ok.1 (y := t) (by omega) (by omega) (a := c.ex) (b := p - 1) (by omega) h (by omega)
    omega
  have dr := dropa_is (addw c y) (addw c t) i
  have W : (nweeks c y = 52 ∧ nweeks c t = 52 ∧ w = i) ∨ (nweeks c y = 53 ∧ nweeks c t = 53 ∧ w = i) ∨ (nweeks c y = 53 ∧ nweeks c t = 52 ∧ ((i < wcum c c.ex + 1 ∧ w = i) ∨ (wcum c c.ex + 1 < i ∧ w = i - 1))) ∨ (nweeks c y = 52 ∧ nweeks c t = 53 ∧ ((i < wcum c c.ex + 1 ∧ w = i) ∨ (wcum c c.ex + 1 ≤ i ∧ w = i + 1))) := by
    clear Y0 Y1 T0 T1 YE TE m1 m2 hv I0 I1 I2 I3 i0 i1 uc ue pb e0
    rcases ay with ⟨n1, a1⟩ | ⟨n1, a1, a2⟩ <;> rcases at' with ⟨n2, b1⟩ | ⟨n2, b1, b2⟩
    · exact .inl ⟨n1, n2, by rcases D with ⟨h1, h2, _, h⟩ | ⟨h1, h2, h3, _⟩ | ⟨h1, h2, _⟩ <;> omega⟩
    · have := adT n2
      exact .inr (.inr (.inr ⟨n1, n2, by rcases D with ⟨h1, h2, _, h⟩ | ⟨h1, h2, h3, _⟩ | ⟨h1, h2, _⟩ <;> omega⟩))
    · have := adY n1
      exact .inr (.inr (.inl ⟨n1, n2, by rcases D with ⟨h1, h2, _, h⟩ | ⟨h1, h2, h3, _⟩ | ⟨h1, h2, _⟩ <;> omega⟩))
    · have := eq n1 n2
      exact .inr (.inl ⟨n1, n2, by rcases D with ⟨h1, h2, _, h⟩ | ⟨h1, h2, h3, _⟩ | ⟨h1, h2, _⟩ <;> omega⟩)
  clear dr ay at' adY adT eq ad D
  unfold InU
  rw [uc, ue, ue]
  by_cases q1 : c.ex ≤ p - 1
  · have q2 : c.ex ≤ p := by omega
    have m2 := m2 q1
    rw [if_pos q1] at Y0 T0
    rw [if_pos q2] at Y1 T1
    rcases W with ⟨n1, n2, h⟩ | ⟨n1, n2, h⟩ | ⟨n1, n2, h⟩ | ⟨n1, n2, h⟩
    all_goals
      rw [n1] at Y0 Y1 YE
      rw [n2] at T0 T1 TE
      exact ⟨⟨I0, I1, by omega, by omega⟩, by omega⟩
  · rw [if_neg q1] at Y0 T0
    have m1 := m1 (by omega)
    by_cases q2 : c.ex ≤ p
    · have e3 : c.ex = p := by omega
      rw [if_pos q2] at Y1 T1
      have e4 : wcum c c.ex = wcum c p := by rw [e3]
      rw [e4] at W
      rcases W with ⟨n1, n2, h⟩ | ⟨n1, n2, h⟩ | ⟨n1, n2, h⟩ | ⟨n1, n2, h⟩
      all_goals
        try rw [n1] at Y1 YE
        try rw [n2] at T1 TE
        try rw [n1] at YE
        try rw [n2] at TE
        exact ⟨⟨I0, I1, by omega, by omega⟩, by omega⟩
    · rw [if_neg q2] at Y1 T1
      rcases W with ⟨n1, n2, h⟩ | ⟨n1, n2, h⟩ | ⟨n1, n2, h⟩ | ⟨n1, n2, h⟩
      all_goals
        try rw [n1] at Y1 YE
        try rw [n2] at T1 TE
        try rw [n1] at YE
        try rw [n2] at TE
        exact ⟨⟨I0, I1, by omega, by omega⟩, by omega⟩

end Go.Proofs.YtmagdlcikcgelaaDoor.Am
