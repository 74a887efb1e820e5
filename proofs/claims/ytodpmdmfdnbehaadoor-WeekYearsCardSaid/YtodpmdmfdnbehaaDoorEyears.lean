/- WeekYears' walk. -/
import Derived.Test.YtodpmdmfdnbehaaDoorElive
namespace Go.Proofs.YtodpmdmfdnbehaaDoor.El
set_option linter.unusedSimpArgs false
set_option linter.unusedVariables false
open Go.RowKit Go.Proofs.YtodpmdmfdnbehaaDoor.Bx Go.Proofs.YtodpmdmfdnbehaaDoor.Cm Go.Proofs.YtodpmdmfdnbehaaDoor.Cp Go.Proofs.YtodpmdmfdnbehaaDoor.Em Go.Proofs.YtodpmdmfdnbehaaDoor.Ep

set_option maxHeartbeats 1000000

set_option maxRecDepth 100000 in
theorem wyears_walk (y m wd : Int) (w : World) (wy : (Lit.int .i64 y).wf = true) (wm : (Lit.int .i64 m).wf = true) (wdd : (Lit.int .i64 wd).wf = true) (tb : Tab w) :
    Calls Tryd.prog 9 #[.int .i64 y, .int .i64 m, .int .i64 wd] w fun e w' => e = .returned (.bool true) ∧ Below w.heap.size w w' := by
  have cl := wlive_ok
  clear wy wm wdd
  by_cases hy : 1600 ≤ y ∧ y ≤ 9998
  · obtain ⟨y0, y1⟩ := hy
    by_cases ok : MonthOk y m
    · have ok2 : MonthOk (y + 1) m := ⟨by omega, by omega, ok.2.2⟩
      by_cases hw : 1 ≤ wd ∧ wd ≤ 7
      · obtain ⟨w0, w1⟩ := hw
        have c1 := fun w => Last_any y m wd _ 0 w (.inl ⟨ok, w0, w1, rfl, rfl⟩)
        have c2 := fun w => Last_any (y + 1) m wd _ 0 w (.inl ⟨ok2, w0, w1, rfl, rfl⟩)
        have c3 := fun w => Near_any y m wd _ 0 w (.inl ⟨ok, w0, w1, near_early ok y1, rfl, rfl⟩)
        have ly := lasts_year (wd := wd) ok
        have ny := nears_year (wd := wd) ok
        have n0 := near_low (wd := wd) ok
        have e0 := end_range ok
        have e1 := end_range ok2
        have b0 := back_bd y m wd
        have b1 := back_bd (y + 1) m wd
        obtain ⟨p, hp⟩ : ∃ p, mend y m - mback y m wd = p := ⟨_, rfl⟩
        obtain ⟨q, hq⟩ : ∃ q, mend (y + 1) m - mback (y + 1) m wd = q := ⟨_, rfl⟩
        obtain ⟨r, hr⟩ : ∃ r, nearv y m wd = r := ⟨_, rfl⟩
        have p0 : 0 ≤ p := by omega
        have p1 : p ≤ 3068036 := by omega
        rw [hp] at c1 ly
        rw [hq] at c2 ly
        rw [hr] at c3 ny n0
        obtain ⟨r0, r1⟩ := n0
        by_cases late : nearv (y + 1) m wd ≤ 3068036
        · have c4 := fun w => Near_any (y + 1) m wd _ 0 w (.inl ⟨ok2, w0, w1, late, rfl, rfl⟩)
          generalize nearv (y + 1) m wd = s at *
          clear hp hq hr late e0 e1 b0 b1 ok ok2
          have O : (q = p + 364 ∨ q = p + 371) ∧ (s = r + 364 ∨ s = r + 371) := by omega
          clear ly ny
          obtain ⟨rfl | rfl, rfl | rfl⟩ := O
          all_goals
            go_enter Tryd.func9, Tryd.ntmps9
            go_wp2_with fail
            refine (cl _ (by with_reducible first | exact tb.kept B1 | exact (tb.kept B1).alloc _ | exact ((tb.kept B1).alloc _).alloc _ | exact tb | exact tb.alloc _ | exact (tb.alloc _).alloc _)).mono ?_
            rintro e w1 ⟨rfl, hb⟩
            have B1 := bthen (Below.refl _ w) hb
            clear hb
            go_wp2_with fail
            refine (c1 _ (by with_reducible first | exact tb.kept B1 | exact (tb.kept B1).alloc _ | exact ((tb.kept B1).alloc _).alloc _ | exact tb | exact tb.alloc _ | exact (tb.alloc _).alloc _)).mono ?_
            rintro e w2 ⟨rfl, hb⟩
            replace B1 := bthen (B1) hb
            clear hb
            go_wp2_with fail
            refine (c2 _ (by with_reducible first | exact tb.kept B1 | exact (tb.kept B1).alloc _ | exact ((tb.kept B1).alloc _).alloc _ | exact tb | exact tb.alloc _ | exact (tb.alloc _).alloc _)).mono ?_
            rintro e w3 ⟨rfl, hb⟩
            replace B1 := bthen (B1) hb
            clear hb
            go_wp2_with fail
            refine (c3 _ (by with_reducible first | exact tb.kept B1 | exact (tb.kept B1).alloc _ | exact ((tb.kept B1).alloc _).alloc _ | exact tb | exact tb.alloc _ | exact (tb.alloc _).alloc _)).mono ?_
            rintro e w4 ⟨rfl, hb⟩
            replace B1 := bthen (B1) hb
            clear hb
            go_wp2_with fail
            refine (c4 _ (by with_reducible first | exact tb.kept B1 | exact (tb.kept B1).alloc _ | exact ((tb.kept B1).alloc _).alloc _ | exact tb | exact tb.alloc _ | exact (tb.alloc _).alloc _)).mono ?_
            rintro e w5 ⟨rfl, hb⟩
            replace B1 := bthen (B1) hb
            clear hb
            go_wp2
            go_ret
            exact ⟨by simp <;> omega, B1⟩
        · have c4 := fun w => Near_any (y + 1) m wd 0 4 w (.inr (.inl ⟨ok2, w0, w1, by omega, rfl, rfl⟩))
          obtain rfl : y = 9998 := by
            by_cases c : y + 1 ≤ 9998
            · exact absurd (near_early ok2 c) late
            · omega
          clear hp hq hr late e0 e1 b0 b1 ok ok2 ny
          have O : q = p + 364 ∨ q = p + 371 := by omega
          clear ly
          rcases O with rfl | rfl
          all_goals
            go_enter Tryd.func9, Tryd.ntmps9
            go_wp2_with fail
            refine (cl _ (by with_reducible first | exact tb.kept B1 | exact (tb.kept B1).alloc _ | exact ((tb.kept B1).alloc _).alloc _ | exact tb | exact tb.alloc _ | exact (tb.alloc _).alloc _)).mono ?_
            rintro e w1 ⟨rfl, hb⟩
            have B1 := bthen (Below.refl _ w) hb
            clear hb
            go_wp2_with fail
            refine (c1 _ (by with_reducible first | exact tb.kept B1 | exact (tb.kept B1).alloc _ | exact ((tb.kept B1).alloc _).alloc _ | exact tb | exact tb.alloc _ | exact (tb.alloc _).alloc _)).mono ?_
            rintro e w2 ⟨rfl, hb⟩
            replace B1 := bthen (B1) hb
            clear hb
            go_wp2_with fail
            refine (c2 _ (by with_reducible first | exact tb.kept B1 | exact (tb.kept B1).alloc _ | exact ((tb.kept B1).alloc _).alloc _ | exact tb | exact tb.alloc _ | exact (tb.alloc _).alloc _)).mono ?_
            rintro e w3 ⟨rfl, hb⟩
            replace B1 := bthen (B1) hb
            clear hb
            go_wp2_with fail
            refine (c3 _ (by with_reducible first | exact tb.kept B1 | exact (tb.kept B1).alloc _ | exact ((tb.kept B1).alloc _).alloc _ | exact tb | exact tb.alloc _ | exact (tb.alloc _).alloc _)).mono ?_
            rintro e w4 ⟨rfl, hb⟩
            replace B1 := bthen (B1) hb
            clear hb
            go_wp2_with fail
            refine (c4 _ (by with_reducible first | exact tb.kept B1 | exact (tb.kept B1).alloc _ | exact ((tb.kept B1).alloc _).alloc _ | exact tb | exact tb.alloc _ | exact (tb.alloc _).alloc _)).mono ?_
            rintro e w5 ⟨rfl, hb⟩
            replace B1 := bthen (B1) hb
            clear hb
            go_wp2
            go_ret
            exact ⟨by simp <;> omega, B1⟩
      · have c1 := fun w => Last_any y m wd 0 1 w (.inr (.inl ⟨ok, hw, rfl, rfl⟩))
        have c2 := fun w => Last_any (y + 1) m wd 0 1 w (.inr (.inl ⟨ok2, hw, rfl, rfl⟩))
        have c3 := fun w => Near_any y m wd 0 1 w (.inr (.inr (.inl ⟨ok, hw, rfl, rfl⟩)))
        have c4 := fun w => Near_any (y + 1) m wd 0 1 w (.inr (.inr (.inl ⟨ok2, hw, rfl, rfl⟩)))
        clear ok ok2 hw
        go_enter Tryd.func9, Tryd.ntmps9
        go_wp2_with fail
        refine (cl _ (by with_reducible first | exact tb.kept B1 | exact (tb.kept B1).alloc _ | exact ((tb.kept B1).alloc _).alloc _ | exact tb | exact tb.alloc _ | exact (tb.alloc _).alloc _)).mono ?_
        rintro e w1 ⟨rfl, hb⟩
        have B1 := bthen (Below.refl _ w) hb
        clear hb
        go_wp2_with fail
        refine (c1 _ (by with_reducible first | exact tb.kept B1 | exact (tb.kept B1).alloc _ | exact ((tb.kept B1).alloc _).alloc _ | exact tb | exact tb.alloc _ | exact (tb.alloc _).alloc _)).mono ?_
        rintro e w2 ⟨rfl, hb⟩
        replace B1 := bthen (B1) hb
        clear hb
        go_wp2_with fail
        refine (c2 _ (by with_reducible first | exact tb.kept B1 | exact (tb.kept B1).alloc _ | exact ((tb.kept B1).alloc _).alloc _ | exact tb | exact tb.alloc _ | exact (tb.alloc _).alloc _)).mono ?_
        rintro e w3 ⟨rfl, hb⟩
        replace B1 := bthen (B1) hb
        clear hb
        go_wp2_with fail
        refine (c3 _ (by with_reducible first | exact tb.kept B1 | exact (tb.kept B1).alloc _ | exact ((tb.kept B1).alloc _).alloc _ | exact tb | exact tb.alloc _ | exact (tb.alloc _).alloc _)).mono ?_
        rintro e w4 ⟨rfl, hb⟩
        replace B1 := bthen (B1) hb
        clear hb
        go_wp2_with fail
        refine (c4 _ (by with_reducible first | exact tb.kept B1 | exact (tb.kept B1).alloc _ | exact ((tb.kept B1).alloc _).alloc _ | exact tb | exact tb.alloc _ | exact (tb.alloc _).alloc _)).mono ?_
        rintro e w5 ⟨rfl, hb⟩
        replace B1 := bthen (B1) hb
        clear hb
        go_wp2
        go_ret
        exact ⟨by simp <;> omega, B1⟩
    · have ok2 : ¬ MonthOk (y + 1) m := fun k => ok ⟨y0, by omega, k.2.2⟩
      have c1 := fun w => Last_any y m wd 0 4 w (.inr (.inr ⟨ok, rfl, rfl⟩))
      have c2 := fun w => Last_any (y + 1) m wd 0 4 w (.inr (.inr ⟨ok2, rfl, rfl⟩))
      have c3 := fun w => Near_any y m wd 0 4 w (.inr (.inr (.inr ⟨ok, rfl, rfl⟩)))
      have c4 := fun w => Near_any (y + 1) m wd 0 4 w (.inr (.inr (.inr ⟨ok2, rfl, rfl⟩)))
      clear ok ok2
      go_enter Tryd.func9, Tryd.ntmps9
      go_wp2_with fail
      refine (cl _ (by with_reducible first | exact tb.kept B1 | exact (tb.kept B1).alloc _ | exact ((tb.kept B1).alloc _).alloc _ | exact tb | exact tb.alloc _ | exact (tb.alloc _).alloc _)).mono ?_
      rintro e w1 ⟨rfl, hb⟩
      have B1 := bthen (Below.refl _ w) hb
      clear hb
      go_wp2_with fail
      refine (c1 _ (by with_reducible first | exact tb.kept B1 | exact (tb.kept B1).alloc _ | exact ((tb.kept B1).alloc _).alloc _ | exact tb | exact tb.alloc _ | exact (tb.alloc _).alloc _)).mono ?_
      rintro e w2 ⟨rfl, hb⟩
      replace B1 := bthen (B1) hb
      clear hb
      go_wp2_with fail
      refine (c2 _ (by with_reducible first | exact tb.kept B1 | exact (tb.kept B1).alloc _ | exact ((tb.kept B1).alloc _).alloc _ | exact tb | exact tb.alloc _ | exact (tb.alloc _).alloc _)).mono ?_
      rintro e w3 ⟨rfl, hb⟩
      replace B1 := bthen (B1) hb
      clear hb
      go_wp2_with fail
      refine (c3 _ (by with_reducible first | exact tb.kept B1 | exact (tb.kept B1).alloc _ | exact ((tb.kept B1).alloc _).alloc _ | exact tb | exact tb.alloc _ | exact (tb.alloc _).alloc _)).mono ?_
      rintro e w4 ⟨rfl, hb⟩
      replace B1 := bthen (B1) hb
      clear hb
      go_wp2_with fail
      refine (c4 _ (by with_reducible first | exact tb.kept B1 | exact (tb.kept B1).alloc _ | exact ((tb.kept B1).alloc _).alloc _ | exact tb | exact tb.alloc _ | exact (tb.alloc _).alloc _)).mono ?_
      rintro e w5 ⟨rfl, hb⟩
      replace B1 := bthen (B1) hb
      clear hb
      go_wp2
      go_ret
      exact ⟨by simp <;> omega, B1⟩
  · have h' : y < 1600 ∨ (1600 ≤ y ∧ 9998 < y) := by omega
    clear hy
    rcases h' with h | ⟨h, h2⟩
    all_goals
      go_enter Tryd.func9, Tryd.ntmps9
      go_wp2_with fail
      refine (cl _ (by with_reducible first | exact tb.kept B1 | exact (tb.kept B1).alloc _ | exact ((tb.kept B1).alloc _).alloc _ | exact tb | exact tb.alloc _ | exact (tb.alloc _).alloc _)).mono ?_
      rintro e w1 ⟨rfl, hb⟩
      have B1 := bthen (Below.refl _ w) hb
      clear hb
      go_wp2
      go_ret
      exact ⟨by simp <;> omega, B1⟩

end Go.Proofs.YtodpmdmfdnbehaaDoor.El
