/- StampBack's walk. -/
import Derived.Test.YtodpmdmfdnbehaaDoorTlive
namespace Go.Proofs.YtodpmdmfdnbehaaDoor.Tl
set_option linter.unusedSimpArgs false
set_option linter.unusedVariables false
open Go.RowKit Go.Proofs.YtodpmdmfdnbehaaDoor.Bx Go.Proofs.YtodpmdmfdnbehaaDoor.Cm Go.Proofs.YtodpmdmfdnbehaaDoor.Cp Go.Proofs.YtodpmdmfdnbehaaDoor.Em Go.Proofs.YtodpmdmfdnbehaaDoor.Ep Go.Proofs.YtodpmdmfdnbehaaDoor.Tm Go.Proofs.YtodpmdmfdnbehaaDoor.Tp

set_option maxHeartbeats 1000000

set_option maxRecDepth 100000 in
theorem sback_walk (n : Int) (s : ByteArray) (w : World) (wn : (Lit.int .i64 n).wf = true) (ws : s.size ≤ maxLen) (tb : Tabs w) :
    Calls Tryd.prog 11 #[.int .i64 n, .string s] w fun e w' => e = .returned (.bool true) ∧ Below w.heap.size w w' := by
  have cl := tlive_ok
  clear wn
  obtain ⟨v, g, R1⟩ := pares_ex s
  obtain ⟨u, f, R2⟩ := psres_ex s
  have c5 := fun w => Parse_t s v g w ws R1
  have c6 := fun w => ParseIso_t s u f w ws R2
  have O := read_as R1 R2
  clear R1 R2 ws
  by_cases ha : 0 ≤ n ∧ n ≤ 3068036
  · obtain ⟨a0, a1⟩ := ha
    obtain ⟨y, m, d, i, j, k, o1, e1, o2, e2⟩ := both_ex a0 a1
    have c1 := fun w => Print_any n _ 0 w (.inl ⟨a0, a1, y, m, d, o1, e1, rfl, rfl⟩)
    have c2 := fun w => PrintIso_any n _ 0 w (.inl ⟨a0, a1, i, j, k, o2, e2, rfl, rfl⟩)
    obtain ⟨r0, r1, r2, r3, r4, r5⟩ := date_range o1
    obtain ⟨t0, t1, t2, t3, t4, t5⟩ := iso_range o2
    have c3 := fun w => Parse_t (dstr y m d) n 0 w (by rw [dstr_size]; decide) (.inl ⟨y, m, d, r0, r1, r2, r3, r4, r5, rfl, .inl ⟨o1, e1.symm, rfl⟩⟩)
    have c4 := fun w => ParseIso_t (istr i j k) n 0 w (by rw [istr_size]; decide) (.inl ⟨i, j, k, t0, t1, t2, t3, t4, t5, rfl, .inl ⟨o2, e2.symm, rfl⟩⟩)
    generalize dstr y m d = p at *
    generalize istr i j k = q at *
    clear o1 o2 e1 e2 r0 r1 r2 r3 r4 r5 t0 t1 t2 t3 t4 t5
    have d1 : decide (n < 3068037) = true := decide_eq_true (by omega)
    rcases O with ⟨rfl, rfl, rfl, v0, v1, R⟩ | ⟨rfl, rfl, rfl, v0, v1, R⟩ | ⟨h1, h2, rfl, rfl⟩
    · have c7 := fun w => Print_any v s 0 w R
      clear R
      go_enter Tryd.func11, Tryd.ntmps11
      go_wp2_with fail
      refine (cl _ (by with_reducible first | exact tb.kept B1 | exact tb)).mono ?_
      rintro e w1 ⟨rfl, hb⟩
      have B1 := bthen (Below.refl _ w) hb
      clear hb
      go_wp2_with fail
      refine (c1 _ (by with_reducible first | exact tb.kept B1 | exact tb)).mono ?_
      rintro e w2 ⟨rfl, hb⟩
      replace B1 := bthen (B1) hb
      clear hb
      go_wp2_with fail
      refine (c2 _ (by with_reducible first | exact tb.kept B1 | exact tb)).mono ?_
      rintro e w3 ⟨rfl, hb⟩
      replace B1 := bthen (B1) hb
      clear hb
      go_wp2_with fail
      refine (c3 _ (by with_reducible first | exact tb.kept B1 | exact tb)).mono ?_
      rintro e w4 ⟨rfl, hb⟩
      replace B1 := bthen (B1) hb
      clear hb
      go_wp2_with fail
      refine (c4 _ (by with_reducible first | exact tb.kept B1 | exact tb)).mono ?_
      rintro e w5 ⟨rfl, hb⟩
      replace B1 := bthen (B1) hb
      clear hb
      go_wp2_with fail
      refine (c5 _ (by with_reducible first | exact tb.kept B1 | exact tb)).mono ?_
      rintro e w6 ⟨rfl, hb⟩
      replace B1 := bthen (B1) hb
      clear hb
      go_wp2_with fail
      refine (c6 _ (by with_reducible first | exact tb.kept B1 | exact tb)).mono ?_
      rintro e w7 ⟨rfl, hb⟩
      replace B1 := bthen (B1) hb
      clear hb
      go_wp2_with fail
      refine (c7 _ (by with_reducible first | exact tb.kept B1 | exact tb)).mono ?_
      rintro e w8 ⟨rfl, hb⟩
      replace B1 := bthen (B1) hb
      clear hb
      go_wp2
      go_ret
      exact ⟨by simp <;> omega, B1⟩
    · have c7 := fun w => PrintIso_any u s 0 w R
      clear R
      go_enter Tryd.func11, Tryd.ntmps11
      go_wp2_with fail
      refine (cl _ (by with_reducible first | exact tb.kept B1 | exact tb)).mono ?_
      rintro e w1 ⟨rfl, hb⟩
      have B1 := bthen (Below.refl _ w) hb
      clear hb
      go_wp2_with fail
      refine (c1 _ (by with_reducible first | exact tb.kept B1 | exact tb)).mono ?_
      rintro e w2 ⟨rfl, hb⟩
      replace B1 := bthen (B1) hb
      clear hb
      go_wp2_with fail
      refine (c2 _ (by with_reducible first | exact tb.kept B1 | exact tb)).mono ?_
      rintro e w3 ⟨rfl, hb⟩
      replace B1 := bthen (B1) hb
      clear hb
      go_wp2_with fail
      refine (c3 _ (by with_reducible first | exact tb.kept B1 | exact tb)).mono ?_
      rintro e w4 ⟨rfl, hb⟩
      replace B1 := bthen (B1) hb
      clear hb
      go_wp2_with fail
      refine (c4 _ (by with_reducible first | exact tb.kept B1 | exact tb)).mono ?_
      rintro e w5 ⟨rfl, hb⟩
      replace B1 := bthen (B1) hb
      clear hb
      go_wp2_with fail
      refine (c5 _ (by with_reducible first | exact tb.kept B1 | exact tb)).mono ?_
      rintro e w6 ⟨rfl, hb⟩
      replace B1 := bthen (B1) hb
      clear hb
      go_wp2_with fail
      refine (c6 _ (by with_reducible first | exact tb.kept B1 | exact tb)).mono ?_
      rintro e w7 ⟨rfl, hb⟩
      replace B1 := bthen (B1) hb
      clear hb
      go_wp2_with fail
      refine (c7 _ (by with_reducible first | exact tb.kept B1 | exact tb)).mono ?_
      rintro e w8 ⟨rfl, hb⟩
      replace B1 := bthen (B1) hb
      clear hb
      go_wp2
      go_ret
      exact ⟨by simp <;> omega, B1⟩
    · rcases h1 with rfl | rfl <;> rcases h2 with rfl | rfl
      all_goals
        go_enter Tryd.func11, Tryd.ntmps11
        go_wp2_with fail
        refine (cl _ (by with_reducible first | exact tb.kept B1 | exact tb)).mono ?_
        rintro e w1 ⟨rfl, hb⟩
        have B1 := bthen (Below.refl _ w) hb
        clear hb
        go_wp2_with fail
        refine (c1 _ (by with_reducible first | exact tb.kept B1 | exact tb)).mono ?_
        rintro e w2 ⟨rfl, hb⟩
        replace B1 := bthen (B1) hb
        clear hb
        go_wp2_with fail
        refine (c2 _ (by with_reducible first | exact tb.kept B1 | exact tb)).mono ?_
        rintro e w3 ⟨rfl, hb⟩
        replace B1 := bthen (B1) hb
        clear hb
        go_wp2_with fail
        refine (c3 _ (by with_reducible first | exact tb.kept B1 | exact tb)).mono ?_
        rintro e w4 ⟨rfl, hb⟩
        replace B1 := bthen (B1) hb
        clear hb
        go_wp2_with fail
        refine (c4 _ (by with_reducible first | exact tb.kept B1 | exact tb)).mono ?_
        rintro e w5 ⟨rfl, hb⟩
        replace B1 := bthen (B1) hb
        clear hb
        go_wp2_with fail
        refine (c5 _ (by with_reducible first | exact tb.kept B1 | exact tb)).mono ?_
        rintro e w6 ⟨rfl, hb⟩
        replace B1 := bthen (B1) hb
        clear hb
        go_wp2_with fail
        refine (c6 _ (by with_reducible first | exact tb.kept B1 | exact tb)).mono ?_
        rintro e w7 ⟨rfl, hb⟩
        replace B1 := bthen (B1) hb
        clear hb
        go_wp2
        go_ret
        exact ⟨by simp <;> omega, B1⟩
  · have c1 := fun w => Print_any n _ 4 w (.inr ⟨ha, rfl, rfl⟩)
    have c2 := fun w => PrintIso_any n _ 4 w (.inr ⟨ha, rfl, rfl⟩)
    have ha' : n < 0 ∨ (0 ≤ n ∧ 3068036 < n) := by omega
    clear ha
    have ha'' : n < 0 ∨ (0 ≤ n ∧ decide (n < 3068037) = false) := ha'.imp id (fun h => ⟨h.1, decide_eq_false (by omega)⟩)
    clear ha'
    rcases ha'' with a0 | ⟨a0, a1⟩
    all_goals
      rcases O with ⟨rfl, rfl, rfl, v0, v1, R⟩ | ⟨rfl, rfl, rfl, v0, v1, R⟩ | ⟨h1, h2, rfl, rfl⟩
      · have c7 := fun w => Print_any v s 0 w R
        clear R
        go_enter Tryd.func11, Tryd.ntmps11
        go_wp2_with fail
        refine (cl _ (by with_reducible first | exact tb.kept B1 | exact tb)).mono ?_
        rintro e w1 ⟨rfl, hb⟩
        have B1 := bthen (Below.refl _ w) hb
        clear hb
        go_wp2_with fail
        refine (c1 _ (by with_reducible first | exact tb.kept B1 | exact tb)).mono ?_
        rintro e w2 ⟨rfl, hb⟩
        replace B1 := bthen (B1) hb
        clear hb
        go_wp2_with fail
        refine (c2 _ (by with_reducible first | exact tb.kept B1 | exact tb)).mono ?_
        rintro e w3 ⟨rfl, hb⟩
        replace B1 := bthen (B1) hb
        clear hb
        go_wp2_with fail
        refine (c5 _ (by with_reducible first | exact tb.kept B1 | exact tb)).mono ?_
        rintro e w4 ⟨rfl, hb⟩
        replace B1 := bthen (B1) hb
        clear hb
        go_wp2_with fail
        refine (c6 _ (by with_reducible first | exact tb.kept B1 | exact tb)).mono ?_
        rintro e w5 ⟨rfl, hb⟩
        replace B1 := bthen (B1) hb
        clear hb
        go_wp2_with fail
        refine (c7 _ (by with_reducible first | exact tb.kept B1 | exact tb)).mono ?_
        rintro e w6 ⟨rfl, hb⟩
        replace B1 := bthen (B1) hb
        clear hb
        go_wp2
        go_ret
        exact ⟨by simp <;> omega, B1⟩
      · have c7 := fun w => PrintIso_any u s 0 w R
        clear R
        go_enter Tryd.func11, Tryd.ntmps11
        go_wp2_with fail
        refine (cl _ (by with_reducible first | exact tb.kept B1 | exact tb)).mono ?_
        rintro e w1 ⟨rfl, hb⟩
        have B1 := bthen (Below.refl _ w) hb
        clear hb
        go_wp2_with fail
        refine (c1 _ (by with_reducible first | exact tb.kept B1 | exact tb)).mono ?_
        rintro e w2 ⟨rfl, hb⟩
        replace B1 := bthen (B1) hb
        clear hb
        go_wp2_with fail
        refine (c2 _ (by with_reducible first | exact tb.kept B1 | exact tb)).mono ?_
        rintro e w3 ⟨rfl, hb⟩
        replace B1 := bthen (B1) hb
        clear hb
        go_wp2_with fail
        refine (c5 _ (by with_reducible first | exact tb.kept B1 | exact tb)).mono ?_
        rintro e w4 ⟨rfl, hb⟩
        replace B1 := bthen (B1) hb
        clear hb
        go_wp2_with fail
        refine (c6 _ (by with_reducible first | exact tb.kept B1 | exact tb)).mono ?_
        rintro e w5 ⟨rfl, hb⟩
        replace B1 := bthen (B1) hb
        clear hb
        go_wp2_with fail
        refine (c7 _ (by with_reducible first | exact tb.kept B1 | exact tb)).mono ?_
        rintro e w6 ⟨rfl, hb⟩
        replace B1 := bthen (B1) hb
        clear hb
        go_wp2
        go_ret
        exact ⟨by simp <;> omega, B1⟩
      · rcases h1 with rfl | rfl <;> rcases h2 with rfl | rfl
        all_goals
          go_enter Tryd.func11, Tryd.ntmps11
          go_wp2_with fail
          refine (cl _ (by with_reducible first | exact tb.kept B1 | exact tb)).mono ?_
          rintro e w1 ⟨rfl, hb⟩
          have B1 := bthen (Below.refl _ w) hb
          clear hb
          go_wp2_with fail
          refine (c1 _ (by with_reducible first | exact tb.kept B1 | exact tb)).mono ?_
          rintro e w2 ⟨rfl, hb⟩
          replace B1 := bthen (B1) hb
          clear hb
          go_wp2_with fail
          refine (c2 _ (by with_reducible first | exact tb.kept B1 | exact tb)).mono ?_
          rintro e w3 ⟨rfl, hb⟩
          replace B1 := bthen (B1) hb
          clear hb
          go_wp2_with fail
          refine (c5 _ (by with_reducible first | exact tb.kept B1 | exact tb)).mono ?_
          rintro e w4 ⟨rfl, hb⟩
          replace B1 := bthen (B1) hb
          clear hb
          go_wp2_with fail
          refine (c6 _ (by with_reducible first | exact tb.kept B1 | exact tb)).mono ?_
          rintro e w5 ⟨rfl, hb⟩
          replace B1 := bthen (B1) hb
          clear hb
          go_wp2
          go_ret
          exact ⟨by simp <;> omega, B1⟩

end Go.Proofs.YtodpmdmfdnbehaaDoor.Tl
