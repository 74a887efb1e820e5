/- WeekLast's walk. -/
import Derived.Test.YtodpmdmfdnbehaaDoorElive
namespace Go.Proofs.YtodpmdmfdnbehaaDoor.El
set_option linter.unusedSimpArgs false
set_option linter.unusedVariables false
open Go.RowKit Go.Proofs.YtodpmdmfdnbehaaDoor.Bx Go.Proofs.YtodpmdmfdnbehaaDoor.Cm Go.Proofs.YtodpmdmfdnbehaaDoor.Cp Go.Proofs.YtodpmdmfdnbehaaDoor.Em Go.Proofs.YtodpmdmfdnbehaaDoor.Ep

set_option maxHeartbeats 1000000

set_option maxRecDepth 100000 in
theorem wlast_walk (y m wd : Int) (w : World) (wy : (Lit.int .i64 y).wf = true) (wm : (Lit.int .i64 m).wf = true) (wdd : (Lit.int .i64 wd).wf = true) (tb : Tab w) :
    Calls Tryd.prog 8 #[.int .i64 y, .int .i64 m, .int .i64 wd] w fun e w' => e = .returned (.bool true) ∧ Below w.heap.size w w' := by
  have cl := wlive_ok
  clear wy wm wdd
  obtain ⟨v, e, R1⟩ := lastres_ex y m wd
  obtain ⟨u, f, R2⟩ := nearres_ex y m wd
  have c1 := fun w => Last_any y m wd v e w R1
  have c3 := fun w => Near_any y m wd u f w R2
  by_cases ok : MonthOk y m
  · obtain ⟨l, hl⟩ : ∃ l, l = mlen y m := ⟨_, rfl⟩
    have c2 := fun w => Length_b y m l 0 w (.inl ⟨ok, hl, rfl⟩)
    have lb := mlen_bd y m
    by_cases hw : 1 ≤ wd ∧ wd ≤ 7
    · obtain ⟨w0, w1⟩ := hw
      obtain ⟨rfl, hv⟩ : e = 0 ∧ v = mend y m - mback y m wd := by
        rcases R1 with ⟨_, _, _, h, h2⟩ | ⟨_, h, _⟩ | ⟨h, _⟩
        · exact ⟨h2, h⟩
        · exact absurd ⟨w0, w1⟩ h
        · exact absurd ok h
      obtain ⟨d1, d2⟩ := last_date ok w0 w1
      have eo := end_ok ok
      have er := end_range ok
      have bb := back_bd y m wd
      have N : (f = 0 ∧ u = nearv y m wd) ∨ (f = 4 ∧ u = 0 ∧ 3068036 < nearv y m wd) := by
        rcases R2 with ⟨_, _, _, _, h, h2⟩ | ⟨_, _, _, h, h2, h3⟩ | ⟨_, h, _⟩ | ⟨h, _⟩
        · exact .inl ⟨h2, h⟩
        · exact .inr ⟨h3, h2, h⟩
        · exact absurd ⟨w0, w1⟩ h
        · exact absurd ok h
      have c4 := fun w => Day_b y m l (mend y m) 0 w (.inl ⟨by rw [hl]; exact eo, by rw [hl]; rfl, rfl⟩)
      have c5 := fun w => Of_b v y m (l - mback y m wd) 0 w (by rw [hv, hl]; exact d1)
      have c6 := fun w => Weekday_b v wd 0 w (by rw [hv]; exact d2)
      unfold nearv at N
      rw [← hl] at lb
      generalize mend y m = n at *
      generalize mback y m wd = b at *
      have O : (f = 0 ∧ b ≤ 3 ∧ u = n - b) ∨ (f = 0 ∧ 3 < b ∧ u = n - (b - 7)) ∨ (f = 4 ∧ u = 0 ∧ 3 < b ∧ 3068036 < n - (b - 7)) := by
        by_cases c : 3 < b
        · rw [if_pos c] at N; omega
        · rw [if_neg c] at N; omega
      obtain ⟨b0, b1⟩ := bb
      obtain ⟨e0, e1⟩ := er
      obtain ⟨l0, l1⟩ := lb
      subst hv
      clear N R1 R2 d1 d2 eo ok hl
      rcases O with ⟨rfl, n1, rfl⟩ | ⟨rfl, n1, rfl⟩ | ⟨rfl, rfl, n1, n2⟩
      all_goals
        go_enter Tryd.func8, Tryd.ntmps8
        go_wp2_with fail
        refine (cl _ (by with_reducible first | exact tb.kept B1 | exact (tb.kept B1).alloc _ | exact ((tb.kept B1).alloc _).alloc _ | exact tb | exact tb.alloc _ | exact (tb.alloc _).alloc _)).mono ?_
        rintro e w1 ⟨rfl, hb⟩
        have B1 := bthen (Below.refl _ w) hb
        clear hb
        go_wp2_with fail
        refine (c1 _ (by with_reducible first | exact tb.kept B1 | exact (tb.kept B1).alloc _ | exact ((tb.kept B1).alloc _).alloc _ | exact tb | exact tb.alloc _ | exact (tb.alloc _).alloc _)).mono ?_
        rintro e w2 ⟨rfl, hb⟩
        replace B1 := bthen (B1) hb
        clear hb
        go_wp2_with fail
        refine (c2 _ (by with_reducible first | exact tb.kept B1 | exact (tb.kept B1).alloc _ | exact ((tb.kept B1).alloc _).alloc _ | exact tb | exact tb.alloc _ | exact (tb.alloc _).alloc _)).mono ?_
        rintro e w3 ⟨rfl, hb⟩
        replace B1 := bthen (B1) hb
        clear hb
        go_wp2_with fail
        refine (c3 _ (by with_reducible first | exact tb.kept B1 | exact (tb.kept B1).alloc _ | exact ((tb.kept B1).alloc _).alloc _ | exact tb | exact tb.alloc _ | exact (tb.alloc _).alloc _)).mono ?_
        rintro e w4 ⟨rfl, hb⟩
        replace B1 := bthen (B1) hb
        clear hb
        go_wp2_with fail
        refine (c4 _ (by with_reducible first | exact tb.kept B1 | exact (tb.kept B1).alloc _ | exact ((tb.kept B1).alloc _).alloc _ | exact tb | exact tb.alloc _ | exact (tb.alloc _).alloc _)).mono ?_
        rintro e w5 ⟨rfl, hb⟩
        replace B1 := bthen (B1) hb
        clear hb
        go_wp2_with fail
        refine (c5 _ (by with_reducible first | exact tb.kept B1 | exact (tb.kept B1).alloc _ | exact ((tb.kept B1).alloc _).alloc _ | exact tb | exact tb.alloc _ | exact (tb.alloc _).alloc _)).mono ?_
        rintro e w6 ⟨rfl, hb⟩
        replace B1 := bthen (B1) hb
        clear hb
        go_wp2_with fail
        refine (c6 _ (by with_reducible first | exact tb.kept B1 | exact (tb.kept B1).alloc _ | exact ((tb.kept B1).alloc _).alloc _ | exact tb | exact tb.alloc _ | exact (tb.alloc _).alloc _)).mono ?_
        rintro e w7 ⟨rfl, hb⟩
        have Q1 := (Tri.new w6 (.int .i64 y) (.int .i64 m) (.int .i64 (l - b)) 38).kept hb
        replace B1 := bthen (balloc (B1) _) hb
        try simp only [World.size_alloc] at Q1
        clear hb
        obtain ⟨z0, c00, c01, c02, _, _, _⟩ := id Q1
        go_wp2
        go_ret
        exact ⟨by simp <;> omega, B1⟩
    · obtain ⟨rfl, rfl⟩ : e = 1 ∧ v = 0 := by
        rcases R1 with ⟨_, h0, h1, _⟩ | ⟨_, _, h1, h2⟩ | ⟨h, _⟩
        · exact absurd ⟨h0, h1⟩ hw
        · exact ⟨h2, h1⟩
        · exact absurd ok h
      obtain ⟨rfl, rfl⟩ : f = 1 ∧ u = 0 := by
        rcases R2 with ⟨_, h0, h1, _⟩ | ⟨_, h0, h1, _⟩ | ⟨_, _, h1, h2⟩ | ⟨h, _⟩
        · exact absurd ⟨h0, h1⟩ hw
        · exact absurd ⟨h0, h1⟩ hw
        · exact ⟨h2, h1⟩
        · exact absurd ok h
      have h' : wd < 1 ∨ (1 ≤ wd ∧ 7 < wd) := by omega
      clear hw R1 R2 ok hl lb
      rcases h' with h | ⟨h, h2⟩
      all_goals
        go_enter Tryd.func8, Tryd.ntmps8
        go_wp2_with fail
        refine (cl _ (by with_reducible first | exact tb.kept B1 | exact (tb.kept B1).alloc _ | exact ((tb.kept B1).alloc _).alloc _ | exact tb | exact tb.alloc _ | exact (tb.alloc _).alloc _)).mono ?_
        rintro e w1 ⟨rfl, hb⟩
        have B1 := bthen (Below.refl _ w) hb
        clear hb
        go_wp2_with fail
        refine (c1 _ (by with_reducible first | exact tb.kept B1 | exact (tb.kept B1).alloc _ | exact ((tb.kept B1).alloc _).alloc _ | exact tb | exact tb.alloc _ | exact (tb.alloc _).alloc _)).mono ?_
        rintro e w2 ⟨rfl, hb⟩
        replace B1 := bthen (B1) hb
        clear hb
        go_wp2_with fail
        refine (c2 _ (by with_reducible first | exact tb.kept B1 | exact (tb.kept B1).alloc _ | exact ((tb.kept B1).alloc _).alloc _ | exact tb | exact tb.alloc _ | exact (tb.alloc _).alloc _)).mono ?_
        rintro e w3 ⟨rfl, hb⟩
        replace B1 := bthen (B1) hb
        clear hb
        go_wp2_with fail
        refine (c3 _ (by with_reducible first | exact tb.kept B1 | exact (tb.kept B1).alloc _ | exact ((tb.kept B1).alloc _).alloc _ | exact tb | exact tb.alloc _ | exact (tb.alloc _).alloc _)).mono ?_
        rintro e w4 ⟨rfl, hb⟩
        replace B1 := bthen (B1) hb
        clear hb
        go_wp2
        go_ret
        exact ⟨by simp <;> omega, B1⟩
  · obtain ⟨rfl, rfl⟩ : e = 4 ∧ v = 0 := by
      rcases R1 with ⟨h, _⟩ | ⟨h, _⟩ | ⟨_, h1, h2⟩
      · exact absurd h ok
      · exact absurd h ok
      · exact ⟨h2, h1⟩
    obtain ⟨rfl, rfl⟩ : f = 4 ∧ u = 0 := by
      rcases R2 with ⟨h, _⟩ | ⟨h, _⟩ | ⟨h, _⟩ | ⟨_, h1, h2⟩
      · exact absurd h ok
      · exact absurd h ok
      · exact absurd h ok
      · exact ⟨h2, h1⟩
    have c2 := fun w => Length_b y m 0 4 w (.inr ⟨ok, rfl, rfl⟩)
    clear ok R1 R2
    go_enter Tryd.func8, Tryd.ntmps8
    go_wp2_with fail
    refine (cl _ (by with_reducible first | exact tb.kept B1 | exact (tb.kept B1).alloc _ | exact ((tb.kept B1).alloc _).alloc _ | exact tb | exact tb.alloc _ | exact (tb.alloc _).alloc _)).mono ?_
    rintro e w1 ⟨rfl, hb⟩
    have B1 := bthen (Below.refl _ w) hb
    clear hb
    go_wp2_with fail
    refine (c1 _ (by with_reducible first | exact tb.kept B1 | exact (tb.kept B1).alloc _ | exact ((tb.kept B1).alloc _).alloc _ | exact tb | exact tb.alloc _ | exact (tb.alloc _).alloc _)).mono ?_
    rintro e w2 ⟨rfl, hb⟩
    replace B1 := bthen (B1) hb
    clear hb
    go_wp2_with fail
    refine (c2 _ (by with_reducible first | exact tb.kept B1 | exact (tb.kept B1).alloc _ | exact ((tb.kept B1).alloc _).alloc _ | exact tb | exact tb.alloc _ | exact (tb.alloc _).alloc _)).mono ?_
    rintro e w3 ⟨rfl, hb⟩
    replace B1 := bthen (B1) hb
    clear hb
    go_wp2_with fail
    refine (c3 _ (by with_reducible first | exact tb.kept B1 | exact (tb.kept B1).alloc _ | exact ((tb.kept B1).alloc _).alloc _ | exact tb | exact tb.alloc _ | exact (tb.alloc _).alloc _)).mono ?_
    rintro e w4 ⟨rfl, hb⟩
    replace B1 := bthen (B1) hb
    clear hb
    go_wp2
    go_ret
    exact ⟨by simp <;> omega, B1⟩

end Go.Proofs.YtodpmdmfdnbehaaDoor.El
