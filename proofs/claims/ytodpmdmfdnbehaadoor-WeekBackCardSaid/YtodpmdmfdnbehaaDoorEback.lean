/- WeekBack's walk. -/
import Derived.Test.YtodpmdmfdnbehaaDoorElive
namespace Go.Proofs.YtodpmdmfdnbehaaDoor.El
set_option linter.unusedSimpArgs false
set_option linter.unusedVariables false
open Go.RowKit Go.Proofs.YtodpmdmfdnbehaaDoor.Bx Go.Proofs.YtodpmdmfdnbehaaDoor.Cm Go.Proofs.YtodpmdmfdnbehaaDoor.Cp Go.Proofs.YtodpmdmfdnbehaaDoor.Em Go.Proofs.YtodpmdmfdnbehaaDoor.Ep

set_option maxHeartbeats 1000000

set_option maxRecDepth 100000 in
theorem wback_walk (n y k d : Int) (w : World) (wn : (Lit.int .i64 n).wf = true) (wy : (Lit.int .i64 y).wf = true) (wk : (Lit.int .i64 k).wf = true) (wd : (Lit.int .i64 d).wf = true) (tb : Tab w) :
    Calls Tryd.prog 5 #[.int .i64 n, .agg #[.int .i64 y, .int .i64 k, .int .i64 d]] w fun e w' => e = .returned (.bool true) ∧ Below w.heap.size w w' := by
  have cl := wlive_ok
  clear wn wy wk wd
  have O1 : (0 ≤ n ∧ n ≤ 3068036 ∧ ∃ a b c : Int, IsoOk a b c ∧ inum a b c = n ∧ 1 ≤ b ∧ b ≤ 53) ∨ (n < 0 ∨ (0 ≤ n ∧ 3068036 < n)) := by
    by_cases h : 0 ≤ n ∧ n ≤ 3068036
    · obtain ⟨a, b, c, h1, h2⟩ := iso_ex h.1 h.2
      exact .inl ⟨h.1, h.2, a, b, c, h1, h2, h1.2.2.1, weeks_le h1⟩
    · exact .inr (by omega)
  have O2 : (IsoOk y k d ∧ ∃ v : Int, v = inum y k d ∧ 0 ≤ v ∧ v ≤ 3068036) ∨ ¬ IsoOk y k d := by
    by_cases h : IsoOk y k d
    · exact .inl ⟨h, _, rfl, h.2.2.2.2.2.2.1, h.2.2.2.2.2.2.2⟩
    · exact .inr h
  have cz : (n < 0 ∨ (0 ≤ n ∧ 3068036 < n)) → ∀ w, Tab w → Calls Tryd.prog 16 #[.int .i64 n] w fun e w' => e = .returned (.tuple #[.agg #[.int .i64 0, .int .i64 0, .int .i64 0], .int .i64 4]) ∧ Below w.heap.size w w' :=
    fun h w => Iso_any n 0 0 0 4 w (.inr ⟨by omega, rfl, rfl, rfl, rfl⟩)
  rcases O1 with ⟨n0, n1, a, b, c, ok1, hn, b0, b1⟩ | no1
  · have c1 := fun w => Iso_any n a b c 0 w (.inl ⟨n0, n1, ok1, hn, rfl⟩)
    have c2 := fun w => IDay_any a b c n 0 w (.inl ⟨ok1, hn.symm, rfl⟩)
    have hc := (iso_year ok1 hn).2.2.2
    have c3 := fun w => Weekday_b n c 0 w (.inl ⟨n0, n1, hc, rfl⟩)
    clear ok1 hn hc cz
    rcases O2 with ⟨ok2, v, hv, v0, v1⟩ | no2
    · have c4 := fun w => IDay_any y k d v 0 w (.inl ⟨ok2, hv, rfl⟩)
      have c5 := fun w => Iso_any v y k d 0 w (.inl ⟨v0, v1, ok2, hv.symm, rfl⟩)
      clear ok2 hv
      go_enter Tryd.func5, Tryd.ntmps5
      go_wp2_with fail
      refine (cl _ (by with_reducible first | exact tb.kept B1 | exact (tb.kept B1).alloc _ | exact ((tb.kept B1).alloc _).alloc _ | exact tb | exact tb.alloc _ | exact (tb.alloc _).alloc _)).mono ?_
      rintro e w1 ⟨rfl, hb⟩
      have P1 := (Tri.new w (.int .i64 y) (.int .i64 k) (.int .i64 d) 23).kept hb
      have B1 := bthen (balloc (Below.refl _ w) _) hb
      try simp only [World.size_alloc] at P1
      clear hb
      obtain ⟨z0, c00, c01, c02, _, _, _⟩ := id P1
      go_wp2_with fail
      refine (c1 _ (by with_reducible first | exact tb.kept B1 | exact (tb.kept B1).alloc _ | exact ((tb.kept B1).alloc _).alloc _ | exact tb | exact tb.alloc _ | exact (tb.alloc _).alloc _)).mono ?_
      rintro e w2 ⟨rfl, hb⟩
      replace P1 := (P1).kept hb
      replace B1 := bthen (B1) hb
      clear hb z0 c00 c01 c02
      obtain ⟨z0, c00, c01, c02, _, _, _⟩ := id P1
      go_wp2_with fail
      refine (c2 _ (by with_reducible first | exact tb.kept B1 | exact (tb.kept B1).alloc _ | exact ((tb.kept B1).alloc _).alloc _ | exact tb | exact tb.alloc _ | exact (tb.alloc _).alloc _)).mono ?_
      rintro e w3 ⟨rfl, hb⟩
      replace P1 := ((P1).alloc (.cells #[.int .i64 a, .int .i64 b, .int .i64 c] 23)).kept hb
      have Q1 := (Tri.new w2 (.int .i64 a) (.int .i64 b) (.int .i64 c) 23).kept hb
      replace B1 := bthen (balloc (B1) _) hb
      try simp only [World.size_alloc] at P1 Q1
      clear hb z0 c00 c01 c02
      obtain ⟨z0, c00, c01, c02, _, _, _⟩ := id P1
      obtain ⟨z1, c10, c11, c12, _, _, _⟩ := id Q1
      go_wp2_with fail
      refine (c3 _ (by with_reducible first | exact tb.kept B1 | exact (tb.kept B1).alloc _ | exact ((tb.kept B1).alloc _).alloc _ | exact tb | exact tb.alloc _ | exact (tb.alloc _).alloc _)).mono ?_
      rintro e w4 ⟨rfl, hb⟩
      replace P1 := (P1).kept hb
      replace Q1 := (Q1).kept hb
      replace B1 := bthen (B1) hb
      clear hb z0 c00 c01 c02 z1 c10 c11 c12
      obtain ⟨z0, c00, c01, c02, _, _, _⟩ := id P1
      obtain ⟨z1, c10, c11, c12, _, _, _⟩ := id Q1
      go_wp2_with fail
      refine (c4 _ (by with_reducible first | exact tb.kept B1 | exact (tb.kept B1).alloc _ | exact ((tb.kept B1).alloc _).alloc _ | exact tb | exact tb.alloc _ | exact (tb.alloc _).alloc _)).mono ?_
      rintro e w5 ⟨rfl, hb⟩
      replace P1 := (P1).kept hb
      replace Q1 := (Q1).kept hb
      replace B1 := bthen (B1) hb
      clear hb z0 c00 c01 c02 z1 c10 c11 c12
      obtain ⟨z0, c00, c01, c02, _, _, _⟩ := id P1
      obtain ⟨z1, c10, c11, c12, _, _, _⟩ := id Q1
      go_wp2_with fail
      refine (c5 _ (by with_reducible first | exact tb.kept B1 | exact (tb.kept B1).alloc _ | exact ((tb.kept B1).alloc _).alloc _ | exact tb | exact tb.alloc _ | exact (tb.alloc _).alloc _)).mono ?_
      rintro e w6 ⟨rfl, hb⟩
      replace P1 := (P1).kept hb
      replace Q1 := (Q1).kept hb
      replace B1 := bthen (B1) hb
      clear hb z0 c00 c01 c02 z1 c10 c11 c12
      obtain ⟨z0, c00, c01, c02, _, _, _⟩ := id P1
      obtain ⟨z1, c10, c11, c12, _, _, _⟩ := id Q1
      go_wp2
      go_ret
      exact ⟨by simp <;> omega, balloc (B1) _⟩
    · have c4 := fun w => IDay_any y k d 0 4 w (.inr ⟨no2, rfl, rfl⟩)
      clear no2
      go_enter Tryd.func5, Tryd.ntmps5
      go_wp2_with fail
      refine (cl _ (by with_reducible first | exact tb.kept B1 | exact (tb.kept B1).alloc _ | exact ((tb.kept B1).alloc _).alloc _ | exact tb | exact tb.alloc _ | exact (tb.alloc _).alloc _)).mono ?_
      rintro e w1 ⟨rfl, hb⟩
      have P1 := (Tri.new w (.int .i64 y) (.int .i64 k) (.int .i64 d) 23).kept hb
      have B1 := bthen (balloc (Below.refl _ w) _) hb
      try simp only [World.size_alloc] at P1
      clear hb
      obtain ⟨z0, c00, c01, c02, _, _, _⟩ := id P1
      go_wp2_with fail
      refine (c1 _ (by with_reducible first | exact tb.kept B1 | exact (tb.kept B1).alloc _ | exact ((tb.kept B1).alloc _).alloc _ | exact tb | exact tb.alloc _ | exact (tb.alloc _).alloc _)).mono ?_
      rintro e w2 ⟨rfl, hb⟩
      replace P1 := (P1).kept hb
      replace B1 := bthen (B1) hb
      clear hb z0 c00 c01 c02
      obtain ⟨z0, c00, c01, c02, _, _, _⟩ := id P1
      go_wp2_with fail
      refine (c2 _ (by with_reducible first | exact tb.kept B1 | exact (tb.kept B1).alloc _ | exact ((tb.kept B1).alloc _).alloc _ | exact tb | exact tb.alloc _ | exact (tb.alloc _).alloc _)).mono ?_
      rintro e w3 ⟨rfl, hb⟩
      replace P1 := ((P1).alloc (.cells #[.int .i64 a, .int .i64 b, .int .i64 c] 23)).kept hb
      have Q1 := (Tri.new w2 (.int .i64 a) (.int .i64 b) (.int .i64 c) 23).kept hb
      replace B1 := bthen (balloc (B1) _) hb
      try simp only [World.size_alloc] at P1 Q1
      clear hb z0 c00 c01 c02
      obtain ⟨z0, c00, c01, c02, _, _, _⟩ := id P1
      obtain ⟨z1, c10, c11, c12, _, _, _⟩ := id Q1
      go_wp2_with fail
      refine (c3 _ (by with_reducible first | exact tb.kept B1 | exact (tb.kept B1).alloc _ | exact ((tb.kept B1).alloc _).alloc _ | exact tb | exact tb.alloc _ | exact (tb.alloc _).alloc _)).mono ?_
      rintro e w4 ⟨rfl, hb⟩
      replace P1 := (P1).kept hb
      replace Q1 := (Q1).kept hb
      replace B1 := bthen (B1) hb
      clear hb z0 c00 c01 c02 z1 c10 c11 c12
      obtain ⟨z0, c00, c01, c02, _, _, _⟩ := id P1
      obtain ⟨z1, c10, c11, c12, _, _, _⟩ := id Q1
      go_wp2_with fail
      refine (c4 _ (by with_reducible first | exact tb.kept B1 | exact (tb.kept B1).alloc _ | exact ((tb.kept B1).alloc _).alloc _ | exact tb | exact tb.alloc _ | exact (tb.alloc _).alloc _)).mono ?_
      rintro e w5 ⟨rfl, hb⟩
      replace P1 := (P1).kept hb
      replace Q1 := (Q1).kept hb
      replace B1 := bthen (B1) hb
      clear hb z0 c00 c01 c02 z1 c10 c11 c12
      obtain ⟨z0, c00, c01, c02, _, _, _⟩ := id P1
      obtain ⟨z1, c10, c11, c12, _, _, _⟩ := id Q1
      go_wp2
      go_ret
      exact ⟨by simp <;> omega, B1⟩
  · have c1 := cz no1
    clear cz
    rcases O2 with ⟨ok2, v, hv, v0, v1⟩ | no2
    · have c4 := fun w => IDay_any y k d v 0 w (.inl ⟨ok2, hv, rfl⟩)
      have c5 := fun w => Iso_any v y k d 0 w (.inl ⟨v0, v1, ok2, hv.symm, rfl⟩)
      clear ok2 hv
      rcases no1 with n0 | ⟨n0, n1⟩
      all_goals
        go_enter Tryd.func5, Tryd.ntmps5
        go_wp2_with fail
        refine (cl _ (by with_reducible first | exact tb.kept B1 | exact (tb.kept B1).alloc _ | exact ((tb.kept B1).alloc _).alloc _ | exact tb | exact tb.alloc _ | exact (tb.alloc _).alloc _)).mono ?_
        rintro e w1 ⟨rfl, hb⟩
        have P1 := (Tri.new w (.int .i64 y) (.int .i64 k) (.int .i64 d) 23).kept hb
        have B1 := bthen (balloc (Below.refl _ w) _) hb
        try simp only [World.size_alloc] at P1
        clear hb
        obtain ⟨z0, c00, c01, c02, _, _, _⟩ := id P1
        go_wp2_with fail
        refine (c1 _ (by with_reducible first | exact tb.kept B1 | exact (tb.kept B1).alloc _ | exact ((tb.kept B1).alloc _).alloc _ | exact tb | exact tb.alloc _ | exact (tb.alloc _).alloc _)).mono ?_
        rintro e w2 ⟨rfl, hb⟩
        replace P1 := (P1).kept hb
        replace B1 := bthen (B1) hb
        clear hb z0 c00 c01 c02
        obtain ⟨z0, c00, c01, c02, _, _, _⟩ := id P1
        go_wp2_with fail
        refine (c4 _ (by with_reducible first | exact tb.kept B1 | exact (tb.kept B1).alloc _ | exact ((tb.kept B1).alloc _).alloc _ | exact tb | exact tb.alloc _ | exact (tb.alloc _).alloc _)).mono ?_
        rintro e w3 ⟨rfl, hb⟩
        replace P1 := ((P1).alloc (.cells #[.int .i64 0, .int .i64 0, .int .i64 0] 23)).kept hb
        have Q1 := (Tri.new w2 (.int .i64 0) (.int .i64 0) (.int .i64 0) 23).kept hb
        replace B1 := bthen (balloc (B1) _) hb
        try simp only [World.size_alloc] at P1 Q1
        clear hb z0 c00 c01 c02
        obtain ⟨z0, c00, c01, c02, _, _, _⟩ := id P1
        obtain ⟨z1, c10, c11, c12, _, _, _⟩ := id Q1
        go_wp2_with fail
        refine (c5 _ (by with_reducible first | exact tb.kept B1 | exact (tb.kept B1).alloc _ | exact ((tb.kept B1).alloc _).alloc _ | exact tb | exact tb.alloc _ | exact (tb.alloc _).alloc _)).mono ?_
        rintro e w4 ⟨rfl, hb⟩
        replace P1 := (P1).kept hb
        replace Q1 := (Q1).kept hb
        replace B1 := bthen (B1) hb
        clear hb z0 c00 c01 c02 z1 c10 c11 c12
        obtain ⟨z0, c00, c01, c02, _, _, _⟩ := id P1
        obtain ⟨z1, c10, c11, c12, _, _, _⟩ := id Q1
        go_wp2
        go_ret
        exact ⟨by simp <;> omega, balloc (B1) _⟩
    · have c4 := fun w => IDay_any y k d 0 4 w (.inr ⟨no2, rfl, rfl⟩)
      clear no2
      rcases no1 with n0 | ⟨n0, n1⟩
      all_goals
        go_enter Tryd.func5, Tryd.ntmps5
        go_wp2_with fail
        refine (cl _ (by with_reducible first | exact tb.kept B1 | exact (tb.kept B1).alloc _ | exact ((tb.kept B1).alloc _).alloc _ | exact tb | exact tb.alloc _ | exact (tb.alloc _).alloc _)).mono ?_
        rintro e w1 ⟨rfl, hb⟩
        have P1 := (Tri.new w (.int .i64 y) (.int .i64 k) (.int .i64 d) 23).kept hb
        have B1 := bthen (balloc (Below.refl _ w) _) hb
        try simp only [World.size_alloc] at P1
        clear hb
        obtain ⟨z0, c00, c01, c02, _, _, _⟩ := id P1
        go_wp2_with fail
        refine (c1 _ (by with_reducible first | exact tb.kept B1 | exact (tb.kept B1).alloc _ | exact ((tb.kept B1).alloc _).alloc _ | exact tb | exact tb.alloc _ | exact (tb.alloc _).alloc _)).mono ?_
        rintro e w2 ⟨rfl, hb⟩
        replace P1 := (P1).kept hb
        replace B1 := bthen (B1) hb
        clear hb z0 c00 c01 c02
        obtain ⟨z0, c00, c01, c02, _, _, _⟩ := id P1
        go_wp2_with fail
        refine (c4 _ (by with_reducible first | exact tb.kept B1 | exact (tb.kept B1).alloc _ | exact ((tb.kept B1).alloc _).alloc _ | exact tb | exact tb.alloc _ | exact (tb.alloc _).alloc _)).mono ?_
        rintro e w3 ⟨rfl, hb⟩
        replace P1 := ((P1).alloc (.cells #[.int .i64 0, .int .i64 0, .int .i64 0] 23)).kept hb
        have Q1 := (Tri.new w2 (.int .i64 0) (.int .i64 0) (.int .i64 0) 23).kept hb
        replace B1 := bthen (balloc (B1) _) hb
        try simp only [World.size_alloc] at P1 Q1
        clear hb z0 c00 c01 c02
        obtain ⟨z0, c00, c01, c02, _, _, _⟩ := id P1
        obtain ⟨z1, c10, c11, c12, _, _, _⟩ := id Q1
        go_wp2
        go_ret
        exact ⟨by simp <;> omega, B1⟩

end Go.Proofs.YtodpmdmfdnbehaaDoor.El
