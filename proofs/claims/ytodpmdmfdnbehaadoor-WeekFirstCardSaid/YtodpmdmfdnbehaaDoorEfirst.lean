/- WeekFirst's walk. -/
import Derived.Test.YtodpmdmfdnbehaaDoorElive
namespace Go.Proofs.YtodpmdmfdnbehaaDoor.El
set_option linter.unusedSimpArgs false
set_option linter.unusedVariables false
open Go.RowKit Go.Proofs.YtodpmdmfdnbehaaDoor.Bx Go.Proofs.YtodpmdmfdnbehaaDoor.Cm Go.Proofs.YtodpmdmfdnbehaaDoor.Cp Go.Proofs.YtodpmdmfdnbehaaDoor.Em Go.Proofs.YtodpmdmfdnbehaaDoor.Ep

set_option maxHeartbeats 1000000

set_option maxRecDepth 100000 in
theorem wfirst_walk (y : Int) (w : World) (wy : (Lit.int .i64 y).wf = true) (tb : Tab w) :
    Calls Tryd.prog 7 #[.int .i64 y] w fun e w' => e = .returned (.bool true) ∧ Below w.heap.size w w' := by
  have cl := wlive_ok
  have fy := bounds_i64 wy
  clear wy
  by_cases h : 1600 ≤ y ∧ y ≤ 9999
  · obtain ⟨h0, h1⟩ := h
    obtain ⟨a1, a2, a3⟩ := first_ok h0 h1
    obtain ⟨b1, b2, b3⟩ := last_ok h0 h1
    have m53 := many_53 y
    have iff := weeks_53 y
    have db := dby_bd (t := y) h0 (by omega)
    have de := dby_bd (t := y + 1) (by omega) (by omega)
    have ds := dby_step (a := y) (b := y + 1) (by omega)
    have lb := lp_01 y
    have c1 := fun w => Many_any y (many y) 0 w (.inl ⟨h0, h1, rfl, rfl⟩)
    have c2 := fun w => Day_b y 1 4 (dby y + 3) 0 w (.inl ⟨a1, a2.symm, rfl⟩)
    have c3 := fun w => Day_b y 12 28 (dby (y + 1) - 4) 0 w (.inl ⟨b1, b2.symm, rfl⟩)
    have c4 := fun w => Iso_any _ _ _ _ _ w a3
    have c5 := fun w => Iso_any _ _ _ _ _ w b3
    have c6 := fun w => Weekday_b (dby y) (wday (dby y)) 0 w (.inl ⟨db.1, by omega, rfl, rfl⟩)
    have c7 := fun w => Weekday_b (dby (y + 1) - 1) (wday (dby (y + 1) - 1)) 0 w (.inl ⟨by omega, by omega, rfl, rfl⟩)
    obtain ⟨j, hj⟩ : ∃ j, j = dby y + 3 := ⟨_, rfl⟩
    obtain ⟨l, hl⟩ : ∃ l, l = dby (y + 1) - 4 := ⟨_, rfl⟩
    have j3 : dby y = j - 3 := by omega
    have l3 : dby (y + 1) - 1 = l + 3 := by omega
    have j0 : 3 ≤ j := by omega
    have j1 : j ≤ 3068036 := by omega
    have l0 : 0 ≤ l := by omega
    have l1 : l ≤ 3068033 := by omega
    rw [← hj] at c2 c4
    rw [← hl] at c3 c5
    rw [j3] at c6 iff
    rw [l3] at c7 iff
    generalize wday (j - 3) = p at *
    generalize wday (l + 3) = q at *
    generalize wday j = r at *
    generalize wday l = s at *
    generalize many y = m at *
    have O : (m = 53 ∧ p = 4) ∨ (m = 53 ∧ (p == 4) = false ∧ q = 4) ∨ (m = 52 ∧ (p == 4) = false ∧ (q == 4) = false) := by
      by_cases e1 : p = 4
      · exact .inl ⟨iff.2 (.inl e1), e1⟩
      · by_cases e2 : q = 4
        · exact .inr (.inl ⟨iff.2 (.inr e2), beq_eq_false_iff_ne.2 e1, e2⟩)
        · have : m ≠ 53 := fun e => by have := iff.1 e; omega
          exact .inr (.inr ⟨by omega, beq_eq_false_iff_ne.2 e1, beq_eq_false_iff_ne.2 e2⟩)
    clear m53 iff db de ds lb hj hl j3 l3 a1 a2 a3 b1 b2 b3
    rcases O with ⟨rfl, rfl⟩ | ⟨rfl, p4, rfl⟩ | ⟨rfl, p4, q4⟩
    · skip
      go_enter Tryd.func7, Tryd.ntmps7
      go_wp2_with fail
      refine (cl _ (by with_reducible first | exact tb.kept B1 | exact (tb.kept B1).alloc _ | exact ((tb.kept B1).alloc _).alloc _ | exact tb | exact tb.alloc _ | exact (tb.alloc _).alloc _)).mono ?_
      rintro e w1 ⟨rfl, hb⟩
      have B1 := bthen (Below.refl _ w) hb
      clear hb
      go_wp2_with fail
      refine (c1 _ (by with_reducible first | exact tb.kept B1 | exact (tb.kept B1).alloc _ | exact ((tb.kept B1).alloc _).alloc _ | exact tb | exact tb.alloc _ | exact (tb.alloc _).alloc _)).mono ?_
      rintro e w2 ⟨rfl, hb⟩
      replace B1 := bthen (B1) hb
      clear hb
      go_wp2_with fail
      refine (c2 _ (by with_reducible first | exact tb.kept B1 | exact (tb.kept B1).alloc _ | exact ((tb.kept B1).alloc _).alloc _ | exact tb | exact tb.alloc _ | exact (tb.alloc _).alloc _)).mono ?_
      rintro e w3 ⟨rfl, hb⟩
      replace B1 := bthen (B1) hb
      clear hb
      go_wp2_with fail
      refine (c3 _ (by with_reducible first | exact tb.kept B1 | exact (tb.kept B1).alloc _ | exact ((tb.kept B1).alloc _).alloc _ | exact tb | exact tb.alloc _ | exact (tb.alloc _).alloc _)).mono ?_
      rintro e w4 ⟨rfl, hb⟩
      replace B1 := bthen (B1) hb
      clear hb
      go_wp2_with fail
      refine (c4 _ (by with_reducible first | exact tb.kept B1 | exact (tb.kept B1).alloc _ | exact ((tb.kept B1).alloc _).alloc _ | exact tb | exact tb.alloc _ | exact (tb.alloc _).alloc _)).mono ?_
      rintro e w5 ⟨rfl, hb⟩
      replace B1 := bthen (B1) hb
      clear hb
      go_wp2_with fail
      refine (c5 _ (by with_reducible first | exact tb.kept B1 | exact (tb.kept B1).alloc _ | exact ((tb.kept B1).alloc _).alloc _ | exact tb | exact tb.alloc _ | exact (tb.alloc _).alloc _)).mono ?_
      rintro e w6 ⟨rfl, hb⟩
      have Q1 := (Tri.new w5 (.int .i64 y) (.int .i64 1) (.int .i64 r) 23).kept hb
      replace B1 := bthen (balloc (B1) _) hb
      try simp only [World.size_alloc] at Q1
      clear hb
      obtain ⟨z0, c00, c01, c02, _, _, _⟩ := id Q1
      go_wp2_with fail
      refine (c6 _ (by with_reducible first | exact tb.kept B1 | exact (tb.kept B1).alloc _ | exact ((tb.kept B1).alloc _).alloc _ | exact tb | exact tb.alloc _ | exact (tb.alloc _).alloc _)).mono ?_
      rintro e w7 ⟨rfl, hb⟩
      replace Q1 := ((Q1).alloc (.cells #[.int .i64 y, .int .i64 53, .int .i64 s] 23)).kept hb
      have Q2 := (Tri.new w6 (.int .i64 y) (.int .i64 53) (.int .i64 s) 23).kept hb
      replace B1 := bthen (balloc (B1) _) hb
      try simp only [World.size_alloc] at Q1 Q2
      clear hb z0 c00 c01 c02
      obtain ⟨z0, c00, c01, c02, _, _, _⟩ := id Q1
      obtain ⟨z1, c10, c11, c12, _, _, _⟩ := id Q2
      go_wp2_with fail
      refine (c7 _ (by with_reducible first | exact tb.kept B1 | exact (tb.kept B1).alloc _ | exact ((tb.kept B1).alloc _).alloc _ | exact tb | exact tb.alloc _ | exact (tb.alloc _).alloc _)).mono ?_
      rintro e w8 ⟨rfl, hb⟩
      replace Q1 := (Q1).kept hb
      replace Q2 := (Q2).kept hb
      replace B1 := bthen (B1) hb
      clear hb z0 c00 c01 c02 z1 c10 c11 c12
      obtain ⟨z0, c00, c01, c02, _, _, _⟩ := id Q1
      obtain ⟨z1, c10, c11, c12, _, _, _⟩ := id Q2
      go_wp2
      go_ret
      exact ⟨by simp <;> omega, B1⟩
    · skip
      go_enter Tryd.func7, Tryd.ntmps7
      go_wp2_with fail
      refine (cl _ (by with_reducible first | exact tb.kept B1 | exact (tb.kept B1).alloc _ | exact ((tb.kept B1).alloc _).alloc _ | exact tb | exact tb.alloc _ | exact (tb.alloc _).alloc _)).mono ?_
      rintro e w1 ⟨rfl, hb⟩
      have B1 := bthen (Below.refl _ w) hb
      clear hb
      go_wp2_with fail
      refine (c1 _ (by with_reducible first | exact tb.kept B1 | exact (tb.kept B1).alloc _ | exact ((tb.kept B1).alloc _).alloc _ | exact tb | exact tb.alloc _ | exact (tb.alloc _).alloc _)).mono ?_
      rintro e w2 ⟨rfl, hb⟩
      replace B1 := bthen (B1) hb
      clear hb
      go_wp2_with fail
      refine (c2 _ (by with_reducible first | exact tb.kept B1 | exact (tb.kept B1).alloc _ | exact ((tb.kept B1).alloc _).alloc _ | exact tb | exact tb.alloc _ | exact (tb.alloc _).alloc _)).mono ?_
      rintro e w3 ⟨rfl, hb⟩
      replace B1 := bthen (B1) hb
      clear hb
      go_wp2_with fail
      refine (c3 _ (by with_reducible first | exact tb.kept B1 | exact (tb.kept B1).alloc _ | exact ((tb.kept B1).alloc _).alloc _ | exact tb | exact tb.alloc _ | exact (tb.alloc _).alloc _)).mono ?_
      rintro e w4 ⟨rfl, hb⟩
      replace B1 := bthen (B1) hb
      clear hb
      go_wp2_with fail
      refine (c4 _ (by with_reducible first | exact tb.kept B1 | exact (tb.kept B1).alloc _ | exact ((tb.kept B1).alloc _).alloc _ | exact tb | exact tb.alloc _ | exact (tb.alloc _).alloc _)).mono ?_
      rintro e w5 ⟨rfl, hb⟩
      replace B1 := bthen (B1) hb
      clear hb
      go_wp2_with fail
      refine (c5 _ (by with_reducible first | exact tb.kept B1 | exact (tb.kept B1).alloc _ | exact ((tb.kept B1).alloc _).alloc _ | exact tb | exact tb.alloc _ | exact (tb.alloc _).alloc _)).mono ?_
      rintro e w6 ⟨rfl, hb⟩
      have Q1 := (Tri.new w5 (.int .i64 y) (.int .i64 1) (.int .i64 r) 23).kept hb
      replace B1 := bthen (balloc (B1) _) hb
      try simp only [World.size_alloc] at Q1
      clear hb
      obtain ⟨z0, c00, c01, c02, _, _, _⟩ := id Q1
      go_wp2_with fail
      refine (c6 _ (by with_reducible first | exact tb.kept B1 | exact (tb.kept B1).alloc _ | exact ((tb.kept B1).alloc _).alloc _ | exact tb | exact tb.alloc _ | exact (tb.alloc _).alloc _)).mono ?_
      rintro e w7 ⟨rfl, hb⟩
      replace Q1 := ((Q1).alloc (.cells #[.int .i64 y, .int .i64 53, .int .i64 s] 23)).kept hb
      have Q2 := (Tri.new w6 (.int .i64 y) (.int .i64 53) (.int .i64 s) 23).kept hb
      replace B1 := bthen (balloc (B1) _) hb
      try simp only [World.size_alloc] at Q1 Q2
      clear hb z0 c00 c01 c02
      obtain ⟨z0, c00, c01, c02, _, _, _⟩ := id Q1
      obtain ⟨z1, c10, c11, c12, _, _, _⟩ := id Q2
      go_wp2_with fail
      refine (c7 _ (by with_reducible first | exact tb.kept B1 | exact (tb.kept B1).alloc _ | exact ((tb.kept B1).alloc _).alloc _ | exact tb | exact tb.alloc _ | exact (tb.alloc _).alloc _)).mono ?_
      rintro e w8 ⟨rfl, hb⟩
      replace Q1 := (Q1).kept hb
      replace Q2 := (Q2).kept hb
      replace B1 := bthen (B1) hb
      clear hb z0 c00 c01 c02 z1 c10 c11 c12
      obtain ⟨z0, c00, c01, c02, _, _, _⟩ := id Q1
      obtain ⟨z1, c10, c11, c12, _, _, _⟩ := id Q2
      go_wp2
      go_ret
      exact ⟨by simp <;> omega, B1⟩
    · skip
      go_enter Tryd.func7, Tryd.ntmps7
      go_wp2_with fail
      refine (cl _ (by with_reducible first | exact tb.kept B1 | exact (tb.kept B1).alloc _ | exact ((tb.kept B1).alloc _).alloc _ | exact tb | exact tb.alloc _ | exact (tb.alloc _).alloc _)).mono ?_
      rintro e w1 ⟨rfl, hb⟩
      have B1 := bthen (Below.refl _ w) hb
      clear hb
      go_wp2_with fail
      refine (c1 _ (by with_reducible first | exact tb.kept B1 | exact (tb.kept B1).alloc _ | exact ((tb.kept B1).alloc _).alloc _ | exact tb | exact tb.alloc _ | exact (tb.alloc _).alloc _)).mono ?_
      rintro e w2 ⟨rfl, hb⟩
      replace B1 := bthen (B1) hb
      clear hb
      go_wp2_with fail
      refine (c2 _ (by with_reducible first | exact tb.kept B1 | exact (tb.kept B1).alloc _ | exact ((tb.kept B1).alloc _).alloc _ | exact tb | exact tb.alloc _ | exact (tb.alloc _).alloc _)).mono ?_
      rintro e w3 ⟨rfl, hb⟩
      replace B1 := bthen (B1) hb
      clear hb
      go_wp2_with fail
      refine (c3 _ (by with_reducible first | exact tb.kept B1 | exact (tb.kept B1).alloc _ | exact ((tb.kept B1).alloc _).alloc _ | exact tb | exact tb.alloc _ | exact (tb.alloc _).alloc _)).mono ?_
      rintro e w4 ⟨rfl, hb⟩
      replace B1 := bthen (B1) hb
      clear hb
      go_wp2_with fail
      refine (c4 _ (by with_reducible first | exact tb.kept B1 | exact (tb.kept B1).alloc _ | exact ((tb.kept B1).alloc _).alloc _ | exact tb | exact tb.alloc _ | exact (tb.alloc _).alloc _)).mono ?_
      rintro e w5 ⟨rfl, hb⟩
      replace B1 := bthen (B1) hb
      clear hb
      go_wp2_with fail
      refine (c5 _ (by with_reducible first | exact tb.kept B1 | exact (tb.kept B1).alloc _ | exact ((tb.kept B1).alloc _).alloc _ | exact tb | exact tb.alloc _ | exact (tb.alloc _).alloc _)).mono ?_
      rintro e w6 ⟨rfl, hb⟩
      have Q1 := (Tri.new w5 (.int .i64 y) (.int .i64 1) (.int .i64 r) 23).kept hb
      replace B1 := bthen (balloc (B1) _) hb
      try simp only [World.size_alloc] at Q1
      clear hb
      obtain ⟨z0, c00, c01, c02, _, _, _⟩ := id Q1
      go_wp2_with fail
      refine (c6 _ (by with_reducible first | exact tb.kept B1 | exact (tb.kept B1).alloc _ | exact ((tb.kept B1).alloc _).alloc _ | exact tb | exact tb.alloc _ | exact (tb.alloc _).alloc _)).mono ?_
      rintro e w7 ⟨rfl, hb⟩
      replace Q1 := ((Q1).alloc (.cells #[.int .i64 y, .int .i64 52, .int .i64 s] 23)).kept hb
      have Q2 := (Tri.new w6 (.int .i64 y) (.int .i64 52) (.int .i64 s) 23).kept hb
      replace B1 := bthen (balloc (B1) _) hb
      try simp only [World.size_alloc] at Q1 Q2
      clear hb z0 c00 c01 c02
      obtain ⟨z0, c00, c01, c02, _, _, _⟩ := id Q1
      obtain ⟨z1, c10, c11, c12, _, _, _⟩ := id Q2
      go_wp2_with fail
      refine (c7 _ (by with_reducible first | exact tb.kept B1 | exact (tb.kept B1).alloc _ | exact ((tb.kept B1).alloc _).alloc _ | exact tb | exact tb.alloc _ | exact (tb.alloc _).alloc _)).mono ?_
      rintro e w8 ⟨rfl, hb⟩
      replace Q1 := (Q1).kept hb
      replace Q2 := (Q2).kept hb
      replace B1 := bthen (B1) hb
      clear hb z0 c00 c01 c02 z1 c10 c11 c12
      obtain ⟨z0, c00, c01, c02, _, _, _⟩ := id Q1
      obtain ⟨z1, c10, c11, c12, _, _, _⟩ := id Q2
      go_wp2
      go_ret
      exact ⟨by simp <;> omega, B1⟩
  · have c1 := fun w => Many_any y 0 4 w (.inr ⟨h, rfl, rfl⟩)
    have h' : y < 1600 ∨ (1600 ≤ y ∧ 9999 < y) := by omega
    clear h
    rcases h' with h | ⟨h, h2⟩
    all_goals
      go_enter Tryd.func7, Tryd.ntmps7
      go_wp2_with fail
      refine (cl _ (by with_reducible first | exact tb.kept B1 | exact (tb.kept B1).alloc _ | exact ((tb.kept B1).alloc _).alloc _ | exact tb | exact tb.alloc _ | exact (tb.alloc _).alloc _)).mono ?_
      rintro e w1 ⟨rfl, hb⟩
      have B1 := bthen (Below.refl _ w) hb
      clear hb
      go_wp2_with fail
      refine (c1 _ (by with_reducible first | exact tb.kept B1 | exact (tb.kept B1).alloc _ | exact ((tb.kept B1).alloc _).alloc _ | exact tb | exact tb.alloc _ | exact (tb.alloc _).alloc _)).mono ?_
      rintro e w2 ⟨rfl, hb⟩
      replace B1 := bthen (B1) hb
      clear hb
      go_wp2
      go_ret
      exact ⟨by simp <;> omega, B1⟩

end Go.Proofs.YtodpmdmfdnbehaaDoor.El
