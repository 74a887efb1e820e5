/- WeekNext's walk. -/
import Derived.Test.YtodpmdmfdnbehaaDoorElive
namespace Go.Proofs.YtodpmdmfdnbehaaDoor.El
set_option linter.unusedSimpArgs false
set_option linter.unusedVariables false
open Go.RowKit Go.Proofs.YtodpmdmfdnbehaaDoor.Bx Go.Proofs.YtodpmdmfdnbehaaDoor.Cm Go.Proofs.YtodpmdmfdnbehaaDoor.Cp Go.Proofs.YtodpmdmfdnbehaaDoor.Em Go.Proofs.YtodpmdmfdnbehaaDoor.Ep

set_option maxHeartbeats 1000000

set_option maxRecDepth 100000 in
theorem wnext_walk (n : Int) (w : World) (wn : (Lit.int .i64 n).wf = true) (tb : Tab w) :
    Calls Tryd.prog 6 #[.int .i64 n] w fun e w' => e = .returned (.bool true) ∧ Below w.heap.size w w' := by
  have cl := wlive_ok
  have fn := bounds_i64 wn
  clear wn
  by_cases h : 0 ≤ n ∧ n < 3068036
  · obtain ⟨h0, h1⟩ := h
    obtain ⟨y, k, d, ok, hn⟩ := iso_ex (n := n) h0 (by omega)
    have c1 := fun w => Iso_any n y k d 0 w (.inl ⟨h0, by omega, ok, hn, rfl⟩)
    have N := next_iso ok hn (by omega)
    have y0 := ok.1
    have y1 := ok.2.1
    have d0 := ok.2.2.2.2.1
    have k0 := ok.2.2.1
    have k1 := weeks_le ok
    clear ok hn fn
    rcases N with ⟨e0, R⟩ | ⟨rfl, e0, R⟩ | ⟨rfl, e0, e1, R⟩ | ⟨rfl, e0, e1, e2, R⟩
    · have c2 := fun w => Iso_any (n + 1) y k (d + 1) 0 w R
      clear R
      go_enter Tryd.func6, Tryd.ntmps6
      go_wp2_with fail
      refine (cl _ (by with_reducible first | exact tb.kept B1 | exact (tb.kept B1).alloc _ | exact ((tb.kept B1).alloc _).alloc _ | exact tb | exact tb.alloc _ | exact (tb.alloc _).alloc _)).mono ?_
      rintro e w1 ⟨rfl, hb⟩
      have B1 := bthen (Below.refl _ w) hb
      clear hb
      go_wp2_with fail
      refine (c1 _ (by with_reducible first | exact tb.kept B1 | exact (tb.kept B1).alloc _ | exact ((tb.kept B1).alloc _).alloc _ | exact tb | exact tb.alloc _ | exact (tb.alloc _).alloc _)).mono ?_
      rintro e w2 ⟨rfl, hb⟩
      replace B1 := bthen (B1) hb
      clear hb
      go_wp2_with fail
      refine (c2 _ (by with_reducible first | exact tb.kept B1 | exact (tb.kept B1).alloc _ | exact ((tb.kept B1).alloc _).alloc _ | exact tb | exact tb.alloc _ | exact (tb.alloc _).alloc _)).mono ?_
      rintro e w3 ⟨rfl, hb⟩
      have Q1 := (Tri.new w2 (.int .i64 y) (.int .i64 k) (.int .i64 d) 23).kept hb
      replace B1 := bthen (balloc (B1) _) hb
      try simp only [World.size_alloc] at Q1
      clear hb
      obtain ⟨z0, c00, c01, c02, _, _, _⟩ := id Q1
      go_wp2
      go_ret
      exact ⟨by simp <;> omega, balloc (B1) _⟩
    · have c2 := fun w => Iso_any (n + 1) 1600 1 1 0 w R
      clear R
      go_enter Tryd.func6, Tryd.ntmps6
      go_wp2_with fail
      refine (cl _ (by with_reducible first | exact tb.kept B1 | exact (tb.kept B1).alloc _ | exact ((tb.kept B1).alloc _).alloc _ | exact tb | exact tb.alloc _ | exact (tb.alloc _).alloc _)).mono ?_
      rintro e w1 ⟨rfl, hb⟩
      have B1 := bthen (Below.refl _ w) hb
      clear hb
      go_wp2_with fail
      refine (c1 _ (by with_reducible first | exact tb.kept B1 | exact (tb.kept B1).alloc _ | exact ((tb.kept B1).alloc _).alloc _ | exact tb | exact tb.alloc _ | exact (tb.alloc _).alloc _)).mono ?_
      rintro e w2 ⟨rfl, hb⟩
      replace B1 := bthen (B1) hb
      clear hb
      go_wp2_with fail
      refine (c2 _ (by with_reducible first | exact tb.kept B1 | exact (tb.kept B1).alloc _ | exact ((tb.kept B1).alloc _).alloc _ | exact tb | exact tb.alloc _ | exact (tb.alloc _).alloc _)).mono ?_
      rintro e w3 ⟨rfl, hb⟩
      have Q1 := (Tri.new w2 (.int .i64 y) (.int .i64 k) (.int .i64 7) 23).kept hb
      replace B1 := bthen (balloc (B1) _) hb
      try simp only [World.size_alloc] at Q1
      clear hb
      obtain ⟨z0, c00, c01, c02, _, _, _⟩ := id Q1
      go_wp2
      go_ret
      exact ⟨by simp <;> omega, balloc (B1) _⟩
    · have c2 := fun w => Iso_any (n + 1) y (k + 1) 1 0 w R
      have c3 := fun w => Many_any y (many y) 0 w (.inl ⟨e0, y1, rfl, rfl⟩)
      have m53 := many_53 y
      generalize many y = m at *
      have m1 : m ≤ 53 := by omega
      clear R m53
      go_enter Tryd.func6, Tryd.ntmps6
      go_wp2_with fail
      refine (cl _ (by with_reducible first | exact tb.kept B1 | exact (tb.kept B1).alloc _ | exact ((tb.kept B1).alloc _).alloc _ | exact tb | exact tb.alloc _ | exact (tb.alloc _).alloc _)).mono ?_
      rintro e w1 ⟨rfl, hb⟩
      have B1 := bthen (Below.refl _ w) hb
      clear hb
      go_wp2_with fail
      refine (c1 _ (by with_reducible first | exact tb.kept B1 | exact (tb.kept B1).alloc _ | exact ((tb.kept B1).alloc _).alloc _ | exact tb | exact tb.alloc _ | exact (tb.alloc _).alloc _)).mono ?_
      rintro e w2 ⟨rfl, hb⟩
      replace B1 := bthen (B1) hb
      clear hb
      go_wp2_with fail
      refine (c2 _ (by with_reducible first | exact tb.kept B1 | exact (tb.kept B1).alloc _ | exact ((tb.kept B1).alloc _).alloc _ | exact tb | exact tb.alloc _ | exact (tb.alloc _).alloc _)).mono ?_
      rintro e w3 ⟨rfl, hb⟩
      have Q1 := (Tri.new w2 (.int .i64 y) (.int .i64 k) (.int .i64 7) 23).kept hb
      replace B1 := bthen (balloc (B1) _) hb
      try simp only [World.size_alloc] at Q1
      clear hb
      obtain ⟨z0, c00, c01, c02, _, _, _⟩ := id Q1
      go_wp2_with fail
      refine (c3 _ (by with_reducible first | exact tb.kept B1 | exact (tb.kept B1).alloc _ | exact ((tb.kept B1).alloc _).alloc _ | exact tb | exact tb.alloc _ | exact (tb.alloc _).alloc _)).mono ?_
      rintro e w4 ⟨rfl, hb⟩
      replace Q1 := ((Q1).alloc (.cells #[.int .i64 y, .int .i64 (k + 1), .int .i64 1] 23)).kept hb
      have Q2 := (Tri.new w3 (.int .i64 y) (.int .i64 (k + 1)) (.int .i64 1) 23).kept hb
      replace B1 := bthen (balloc (B1) _) hb
      try simp only [World.size_alloc] at Q1 Q2
      clear hb z0 c00 c01 c02
      obtain ⟨z0, c00, c01, c02, _, _, _⟩ := id Q1
      obtain ⟨z1, c10, c11, c12, _, _, _⟩ := id Q2
      go_wp2
      go_ret
      exact ⟨by simp <;> omega, B1⟩
    · have c2 := fun w => Iso_any (n + 1) (y + 1) 1 1 0 w R
      have c3 := fun w => Many_any y k 0 w (.inl ⟨e0, y1, e1, rfl⟩)
      clear R e1
      go_enter Tryd.func6, Tryd.ntmps6
      go_wp2_with fail
      refine (cl _ (by with_reducible first | exact tb.kept B1 | exact (tb.kept B1).alloc _ | exact ((tb.kept B1).alloc _).alloc _ | exact tb | exact tb.alloc _ | exact (tb.alloc _).alloc _)).mono ?_
      rintro e w1 ⟨rfl, hb⟩
      have B1 := bthen (Below.refl _ w) hb
      clear hb
      go_wp2_with fail
      refine (c1 _ (by with_reducible first | exact tb.kept B1 | exact (tb.kept B1).alloc _ | exact ((tb.kept B1).alloc _).alloc _ | exact tb | exact tb.alloc _ | exact (tb.alloc _).alloc _)).mono ?_
      rintro e w2 ⟨rfl, hb⟩
      replace B1 := bthen (B1) hb
      clear hb
      go_wp2_with fail
      refine (c2 _ (by with_reducible first | exact tb.kept B1 | exact (tb.kept B1).alloc _ | exact ((tb.kept B1).alloc _).alloc _ | exact tb | exact tb.alloc _ | exact (tb.alloc _).alloc _)).mono ?_
      rintro e w3 ⟨rfl, hb⟩
      have Q1 := (Tri.new w2 (.int .i64 y) (.int .i64 k) (.int .i64 7) 23).kept hb
      replace B1 := bthen (balloc (B1) _) hb
      try simp only [World.size_alloc] at Q1
      clear hb
      obtain ⟨z0, c00, c01, c02, _, _, _⟩ := id Q1
      go_wp2_with fail
      refine (c3 _ (by with_reducible first | exact tb.kept B1 | exact (tb.kept B1).alloc _ | exact ((tb.kept B1).alloc _).alloc _ | exact tb | exact tb.alloc _ | exact (tb.alloc _).alloc _)).mono ?_
      rintro e w4 ⟨rfl, hb⟩
      replace Q1 := ((Q1).alloc (.cells #[.int .i64 (y + 1), .int .i64 1, .int .i64 1] 23)).kept hb
      have Q2 := (Tri.new w3 (.int .i64 (y + 1)) (.int .i64 1) (.int .i64 1) 23).kept hb
      replace B1 := bthen (balloc (B1) _) hb
      try simp only [World.size_alloc] at Q1 Q2
      clear hb z0 c00 c01 c02
      obtain ⟨z0, c00, c01, c02, _, _, _⟩ := id Q1
      obtain ⟨z1, c10, c11, c12, _, _, _⟩ := id Q2
      go_wp2
      go_ret
      exact ⟨by simp <;> omega, B1⟩
  · have h' : n < 0 ∨ (0 ≤ n ∧ 3068036 ≤ n) := by omega
    clear h
    rcases h' with h | ⟨h, h2⟩
    all_goals
      go_enter Tryd.func6, Tryd.ntmps6
      go_wp2_with fail
      refine (cl _ (by with_reducible first | exact tb.kept B1 | exact (tb.kept B1).alloc _ | exact ((tb.kept B1).alloc _).alloc _ | exact tb | exact tb.alloc _ | exact (tb.alloc _).alloc _)).mono ?_
      rintro e w1 ⟨rfl, hb⟩
      have B1 := bthen (Below.refl _ w) hb
      clear hb
      go_wp2
      go_ret
      exact ⟨by simp <;> omega, B1⟩

end Go.Proofs.YtodpmdmfdnbehaaDoor.El
