/- CivilBack's walk. -/
import Derived.Test.YtapddciodoobfaaDoorClive
namespace Go.Proofs.YtapddciodoobfaaDoor.Cl
set_option linter.unusedSimpArgs false
set_option linter.unusedVariables false
open Go.RowKit Go.Proofs.YtapddciodoobfaaDoor.Bx Go.Proofs.YtapddciodoobfaaDoor.Cm Go.Proofs.YtapddciodoobfaaDoor.Cp Go.Proofs.YtapddciodoobfaaDoor.Cr

set_option maxHeartbeats 1000000

theorem back_walk (y m d n : Int) (w : World) (wy : (Lit.int .i64 y).wf = true) (wm : (Lit.int .i64 m).wf = true) (wd : (Lit.int .i64 d).wf = true) (wn : (Lit.int .i64 n).wf = true) (tb : Tab w) :
    Calls Tryd.prog 5 #[.agg #[.int .i64 y, .int .i64 m, .int .i64 d], .int .i64 n] w fun e w' => e = .returned (.bool true) ∧ Below w.heap.size w w' := by
  have cl := live_ok
  clear wy wm wd wn
  have O1 : (DateOk y m d ∧ ∃ v : Int, v = num y m d ∧ 0 ≤ v ∧ v ≤ 3068036) ∨ ¬ DateOk y m d := by
    by_cases h : DateOk y m d
    · exact .inl ⟨h, _, rfl, (num_range h).1, (num_range h).2⟩
    · exact .inr h
  have O2 : (0 ≤ n ∧ n ≤ 3068036 ∧ ∃ a b c : Int, DateOk a b c ∧ num a b c = n) ∨ (n < 0 ∨ (0 ≤ n ∧ 3068036 < n)) := by
    by_cases h : 0 ≤ n ∧ n ≤ 3068036
    · exact .inl ⟨h.1, h.2, num_ex h.1 h.2⟩
    · exact .inr (by omega)
  have cz : (n < 0 ∨ (0 ≤ n ∧ 3068036 < n)) → ∀ w, Tab w → Calls Tryd.prog 11 #[.int .i64 n] w fun e w' => e = .returned (.tuple #[.agg #[.int .i64 0, .int .i64 0, .int .i64 0], .int .i64 4]) ∧ Below w.heap.size w w' :=
    fun h w => Of_b n 0 0 0 4 w (.inr ⟨by omega, rfl, rfl, rfl, rfl⟩)
  rcases O1 with ⟨ok, v, hv, v0, v1⟩ | no
  · have cd := fun w => Day_b y m d v 0 w (.inl ⟨ok, hv, rfl⟩)
    have ck := fun w => Check_b y m d 0 w (.inl ⟨ok, rfl⟩)
    have co := fun w => Of_b v y m d 0 w (.inl ⟨v0, v1, ok, hv.symm, rfl⟩)
    clear ok hv
    rcases O2 with ⟨n0, n1, a, b, c, ok2, hn⟩ | no2
    · have cp := fun w => Of_b n a b c 0 w (.inl ⟨n0, n1, ok2, hn, rfl⟩)
      have cq := fun w => Day_b a b c n 0 w (.inl ⟨ok2, hn.symm, rfl⟩)
      have cr := fun w => Check_b a b c 0 w (.inl ⟨ok2, rfl⟩)
      clear ok2 hn cz
      go_enter Tryd.func5, Tryd.ntmps5
      go_wp2_with fail
      refine (cl _ (by with_reducible first | exact tb.kept B1 | exact (tb.kept B1).alloc _ | exact ((tb.kept B1).alloc _).alloc _ | exact tb | exact tb.alloc _ | exact (tb.alloc _).alloc _ | exact tb.kept (bthen B1 (by first | assumption | exact Below.refl _ _ | exact (Below.refl _ _).drew)))).mono ?_
      rintro e w1 ⟨rfl, hb⟩
      have P1 := (Tri.new w (.int .i64 y) (.int .i64 m) (.int .i64 d) 23).kept hb
      have B1 := bthen (balloc (Below.refl _ w) _) hb
      try simp only [World.size_alloc] at P1
      clear hb
      obtain ⟨z0, c00, c01, c02, _, _, _⟩ := id P1
      go_wp2_with fail
      refine (cd _ (by with_reducible first | exact tb.kept B1 | exact (tb.kept B1).alloc _ | exact ((tb.kept B1).alloc _).alloc _ | exact tb | exact tb.alloc _ | exact (tb.alloc _).alloc _ | exact tb.kept (bthen B1 (by first | assumption | exact Below.refl _ _ | exact (Below.refl _ _).drew)))).mono ?_
      rintro e w2 ⟨rfl, hb⟩
      replace P1 := (P1).kept hb
      replace B1 := bthen (B1) hb
      clear hb z0 c00 c01 c02
      obtain ⟨z0, c00, c01, c02, _, _, _⟩ := id P1
      go_wp2_with fail
      refine (ck _ (by with_reducible first | exact tb.kept B1 | exact (tb.kept B1).alloc _ | exact ((tb.kept B1).alloc _).alloc _ | exact tb | exact tb.alloc _ | exact (tb.alloc _).alloc _ | exact tb.kept (bthen B1 (by first | assumption | exact Below.refl _ _ | exact (Below.refl _ _).drew)))).mono ?_
      rintro e w3 ⟨rfl, hb⟩
      replace P1 := (P1).kept hb
      replace B1 := bthen (B1) hb
      clear hb z0 c00 c01 c02
      obtain ⟨z0, c00, c01, c02, _, _, _⟩ := id P1
      go_wp2_with fail
      refine (co _ (by with_reducible first | exact tb.kept B1 | exact (tb.kept B1).alloc _ | exact ((tb.kept B1).alloc _).alloc _ | exact tb | exact tb.alloc _ | exact (tb.alloc _).alloc _ | exact tb.kept (bthen B1 (by first | assumption | exact Below.refl _ _ | exact (Below.refl _ _).drew)))).mono ?_
      rintro e w4 ⟨rfl, hb⟩
      replace P1 := (P1).kept hb
      replace B1 := bthen (B1) hb
      clear hb z0 c00 c01 c02
      obtain ⟨z0, c00, c01, c02, _, _, _⟩ := id P1
      go_wp2_with fail
      refine (cp _ (by with_reducible first | exact tb.kept B1 | exact (tb.kept B1).alloc _ | exact ((tb.kept B1).alloc _).alloc _ | exact tb | exact tb.alloc _ | exact (tb.alloc _).alloc _ | exact tb.kept (bthen B1 (by first | assumption | exact Below.refl _ _ | exact (Below.refl _ _).drew)))).mono ?_
      rintro e w5 ⟨rfl, hb⟩
      replace P1 := ((P1).alloc (.cells #[.int .i64 y, .int .i64 m, .int .i64 d] 23)).kept hb
      have Q1 := (Tri.new w4 (.int .i64 y) (.int .i64 m) (.int .i64 d) 23).kept hb
      replace B1 := bthen (balloc (B1) _) hb
      try simp only [World.size_alloc] at P1 Q1
      clear hb z0 c00 c01 c02
      obtain ⟨z0, c00, c01, c02, _, _, _⟩ := id P1
      obtain ⟨z1, c10, c11, c12, _, _, _⟩ := id Q1
      go_wp2_with fail
      refine (cq _ (by with_reducible first | exact tb.kept B1 | exact (tb.kept B1).alloc _ | exact ((tb.kept B1).alloc _).alloc _ | exact tb | exact tb.alloc _ | exact (tb.alloc _).alloc _ | exact tb.kept (bthen B1 (by first | assumption | exact Below.refl _ _ | exact (Below.refl _ _).drew)))).mono ?_
      rintro e w6 ⟨rfl, hb⟩
      replace P1 := ((P1).alloc (.cells #[.int .i64 a, .int .i64 b, .int .i64 c] 23)).kept hb
      replace Q1 := ((Q1).alloc (.cells #[.int .i64 a, .int .i64 b, .int .i64 c] 23)).kept hb
      have Q2 := (Tri.new w5 (.int .i64 a) (.int .i64 b) (.int .i64 c) 23).kept hb
      replace B1 := bthen (balloc (B1) _) hb
      try simp only [World.size_alloc] at P1 Q1 Q2
      clear hb z0 c00 c01 c02 z1 c10 c11 c12
      obtain ⟨z0, c00, c01, c02, _, _, _⟩ := id P1
      obtain ⟨z1, c10, c11, c12, _, _, _⟩ := id Q1
      obtain ⟨z2, c20, c21, c22, _, _, _⟩ := id Q2
      go_wp2_with fail
      refine (cr _ (by with_reducible first | exact tb.kept B1 | exact (tb.kept B1).alloc _ | exact ((tb.kept B1).alloc _).alloc _ | exact tb | exact tb.alloc _ | exact (tb.alloc _).alloc _ | exact tb.kept (bthen B1 (by first | assumption | exact Below.refl _ _ | exact (Below.refl _ _).drew)))).mono ?_
      rintro e w7 ⟨rfl, hb⟩
      replace P1 := (P1).kept hb
      replace Q1 := (Q1).kept hb
      replace Q2 := (Q2).kept hb
      replace B1 := bthen (B1) hb
      clear hb z0 c00 c01 c02 z1 c10 c11 c12 z2 c20 c21 c22
      obtain ⟨z0, c00, c01, c02, _, _, _⟩ := id P1
      obtain ⟨z1, c10, c11, c12, _, _, _⟩ := id Q1
      obtain ⟨z2, c20, c21, c22, _, _, _⟩ := id Q2
      go_wp2
      go_ret
      exact ⟨by simp <;> omega, B1⟩
    · have cp := cz no2
      clear cz
      rcases no2 with n0 | ⟨n0, n1⟩
      all_goals
        go_enter Tryd.func5, Tryd.ntmps5
        go_wp2_with fail
        refine (cl _ (by with_reducible first | exact tb.kept B1 | exact (tb.kept B1).alloc _ | exact ((tb.kept B1).alloc _).alloc _ | exact tb | exact tb.alloc _ | exact (tb.alloc _).alloc _ | exact tb.kept (bthen B1 (by first | assumption | exact Below.refl _ _ | exact (Below.refl _ _).drew)))).mono ?_
        rintro e w1 ⟨rfl, hb⟩
        have P1 := (Tri.new w (.int .i64 y) (.int .i64 m) (.int .i64 d) 23).kept hb
        have B1 := bthen (balloc (Below.refl _ w) _) hb
        try simp only [World.size_alloc] at P1
        clear hb
        obtain ⟨z0, c00, c01, c02, _, _, _⟩ := id P1
        go_wp2_with fail
        refine (cd _ (by with_reducible first | exact tb.kept B1 | exact (tb.kept B1).alloc _ | exact ((tb.kept B1).alloc _).alloc _ | exact tb | exact tb.alloc _ | exact (tb.alloc _).alloc _ | exact tb.kept (bthen B1 (by first | assumption | exact Below.refl _ _ | exact (Below.refl _ _).drew)))).mono ?_
        rintro e w2 ⟨rfl, hb⟩
        replace P1 := (P1).kept hb
        replace B1 := bthen (B1) hb
        clear hb z0 c00 c01 c02
        obtain ⟨z0, c00, c01, c02, _, _, _⟩ := id P1
        go_wp2_with fail
        refine (ck _ (by with_reducible first | exact tb.kept B1 | exact (tb.kept B1).alloc _ | exact ((tb.kept B1).alloc _).alloc _ | exact tb | exact tb.alloc _ | exact (tb.alloc _).alloc _ | exact tb.kept (bthen B1 (by first | assumption | exact Below.refl _ _ | exact (Below.refl _ _).drew)))).mono ?_
        rintro e w3 ⟨rfl, hb⟩
        replace P1 := (P1).kept hb
        replace B1 := bthen (B1) hb
        clear hb z0 c00 c01 c02
        obtain ⟨z0, c00, c01, c02, _, _, _⟩ := id P1
        go_wp2_with fail
        refine (co _ (by with_reducible first | exact tb.kept B1 | exact (tb.kept B1).alloc _ | exact ((tb.kept B1).alloc _).alloc _ | exact tb | exact tb.alloc _ | exact (tb.alloc _).alloc _ | exact tb.kept (bthen B1 (by first | assumption | exact Below.refl _ _ | exact (Below.refl _ _).drew)))).mono ?_
        rintro e w4 ⟨rfl, hb⟩
        replace P1 := (P1).kept hb
        replace B1 := bthen (B1) hb
        clear hb z0 c00 c01 c02
        obtain ⟨z0, c00, c01, c02, _, _, _⟩ := id P1
        go_wp2_with fail
        refine (cp _ (by with_reducible first | exact tb.kept B1 | exact (tb.kept B1).alloc _ | exact ((tb.kept B1).alloc _).alloc _ | exact tb | exact tb.alloc _ | exact (tb.alloc _).alloc _ | exact tb.kept (bthen B1 (by first | assumption | exact Below.refl _ _ | exact (Below.refl _ _).drew)))).mono ?_
        rintro e w5 ⟨rfl, hb⟩
        replace P1 := ((P1).alloc (.cells #[.int .i64 y, .int .i64 m, .int .i64 d] 23)).kept hb
        have Q1 := (Tri.new w4 (.int .i64 y) (.int .i64 m) (.int .i64 d) 23).kept hb
        replace B1 := bthen (balloc (B1) _) hb
        try simp only [World.size_alloc] at P1 Q1
        clear hb z0 c00 c01 c02
        obtain ⟨z0, c00, c01, c02, _, _, _⟩ := id P1
        obtain ⟨z1, c10, c11, c12, _, _, _⟩ := id Q1
        go_wp2
        go_ret
        exact ⟨by simp <;> omega, balloc (B1) _⟩
  · have cd := fun w => Day_b y m d 0 4 w (.inr ⟨no, rfl, rfl⟩)
    have ck := fun w => Check_b y m d 4 w (.inr ⟨no, rfl⟩)
    clear no
    rcases O2 with ⟨n0, n1, a, b, c, ok2, hn⟩ | no2
    · have cp := fun w => Of_b n a b c 0 w (.inl ⟨n0, n1, ok2, hn, rfl⟩)
      have cq := fun w => Day_b a b c n 0 w (.inl ⟨ok2, hn.symm, rfl⟩)
      have cr := fun w => Check_b a b c 0 w (.inl ⟨ok2, rfl⟩)
      clear ok2 hn cz
      go_enter Tryd.func5, Tryd.ntmps5
      go_wp2_with fail
      refine (cl _ (by with_reducible first | exact tb.kept B1 | exact (tb.kept B1).alloc _ | exact ((tb.kept B1).alloc _).alloc _ | exact tb | exact tb.alloc _ | exact (tb.alloc _).alloc _ | exact tb.kept (bthen B1 (by first | assumption | exact Below.refl _ _ | exact (Below.refl _ _).drew)))).mono ?_
      rintro e w1 ⟨rfl, hb⟩
      have P1 := (Tri.new w (.int .i64 y) (.int .i64 m) (.int .i64 d) 23).kept hb
      have B1 := bthen (balloc (Below.refl _ w) _) hb
      try simp only [World.size_alloc] at P1
      clear hb
      obtain ⟨z0, c00, c01, c02, _, _, _⟩ := id P1
      go_wp2_with fail
      refine (cd _ (by with_reducible first | exact tb.kept B1 | exact (tb.kept B1).alloc _ | exact ((tb.kept B1).alloc _).alloc _ | exact tb | exact tb.alloc _ | exact (tb.alloc _).alloc _ | exact tb.kept (bthen B1 (by first | assumption | exact Below.refl _ _ | exact (Below.refl _ _).drew)))).mono ?_
      rintro e w2 ⟨rfl, hb⟩
      replace P1 := (P1).kept hb
      replace B1 := bthen (B1) hb
      clear hb z0 c00 c01 c02
      obtain ⟨z0, c00, c01, c02, _, _, _⟩ := id P1
      go_wp2_with fail
      refine (ck _ (by with_reducible first | exact tb.kept B1 | exact (tb.kept B1).alloc _ | exact ((tb.kept B1).alloc _).alloc _ | exact tb | exact tb.alloc _ | exact (tb.alloc _).alloc _ | exact tb.kept (bthen B1 (by first | assumption | exact Below.refl _ _ | exact (Below.refl _ _).drew)))).mono ?_
      rintro e w3 ⟨rfl, hb⟩
      replace P1 := (P1).kept hb
      replace B1 := bthen (B1) hb
      clear hb z0 c00 c01 c02
      obtain ⟨z0, c00, c01, c02, _, _, _⟩ := id P1
      go_wp2_with fail
      refine (cp _ (by with_reducible first | exact tb.kept B1 | exact (tb.kept B1).alloc _ | exact ((tb.kept B1).alloc _).alloc _ | exact tb | exact tb.alloc _ | exact (tb.alloc _).alloc _ | exact tb.kept (bthen B1 (by first | assumption | exact Below.refl _ _ | exact (Below.refl _ _).drew)))).mono ?_
      rintro e w4 ⟨rfl, hb⟩
      replace P1 := (P1).kept hb
      replace B1 := bthen (B1) hb
      clear hb z0 c00 c01 c02
      obtain ⟨z0, c00, c01, c02, _, _, _⟩ := id P1
      go_wp2_with fail
      refine (cq _ (by with_reducible first | exact tb.kept B1 | exact (tb.kept B1).alloc _ | exact ((tb.kept B1).alloc _).alloc _ | exact tb | exact tb.alloc _ | exact (tb.alloc _).alloc _ | exact tb.kept (bthen B1 (by first | assumption | exact Below.refl _ _ | exact (Below.refl _ _).drew)))).mono ?_
      rintro e w5 ⟨rfl, hb⟩
      replace P1 := ((P1).alloc (.cells #[.int .i64 a, .int .i64 b, .int .i64 c] 23)).kept hb
      have Q2 := (Tri.new w4 (.int .i64 a) (.int .i64 b) (.int .i64 c) 23).kept hb
      replace B1 := bthen (balloc (B1) _) hb
      try simp only [World.size_alloc] at P1 Q2
      clear hb z0 c00 c01 c02
      obtain ⟨z0, c00, c01, c02, _, _, _⟩ := id P1
      obtain ⟨z1, c10, c11, c12, _, _, _⟩ := id Q2
      go_wp2_with fail
      refine (cr _ (by with_reducible first | exact tb.kept B1 | exact (tb.kept B1).alloc _ | exact ((tb.kept B1).alloc _).alloc _ | exact tb | exact tb.alloc _ | exact (tb.alloc _).alloc _ | exact tb.kept (bthen B1 (by first | assumption | exact Below.refl _ _ | exact (Below.refl _ _).drew)))).mono ?_
      rintro e w6 ⟨rfl, hb⟩
      replace P1 := (P1).kept hb
      replace Q2 := (Q2).kept hb
      replace B1 := bthen (B1) hb
      clear hb z0 c00 c01 c02 z1 c10 c11 c12
      obtain ⟨z0, c00, c01, c02, _, _, _⟩ := id P1
      obtain ⟨z1, c10, c11, c12, _, _, _⟩ := id Q2
      go_wp2
      go_ret
      exact ⟨by simp <;> omega, B1⟩
    · have cp := cz no2
      clear cz
      rcases no2 with n0 | ⟨n0, n1⟩
      all_goals
        go_enter Tryd.func5, Tryd.ntmps5
        go_wp2_with fail
        refine (cl _ (by with_reducible first | exact tb.kept B1 | exact (tb.kept B1).alloc _ | exact ((tb.kept B1).alloc _).alloc _ | exact tb | exact tb.alloc _ | exact (tb.alloc _).alloc _ | exact tb.kept (bthen B1 (by first | assumption | exact Below.refl _ _ | exact (Below.refl _ _).drew)))).mono ?_
        rintro e w1 ⟨rfl, hb⟩
        have P1 := (Tri.new w (.int .i64 y) (.int .i64 m) (.int .i64 d) 23).kept hb
        have B1 := bthen (balloc (Below.refl _ w) _) hb
        try simp only [World.size_alloc] at P1
        clear hb
        obtain ⟨z0, c00, c01, c02, _, _, _⟩ := id P1
        go_wp2_with fail
        refine (cd _ (by with_reducible first | exact tb.kept B1 | exact (tb.kept B1).alloc _ | exact ((tb.kept B1).alloc _).alloc _ | exact tb | exact tb.alloc _ | exact (tb.alloc _).alloc _ | exact tb.kept (bthen B1 (by first | assumption | exact Below.refl _ _ | exact (Below.refl _ _).drew)))).mono ?_
        rintro e w2 ⟨rfl, hb⟩
        replace P1 := (P1).kept hb
        replace B1 := bthen (B1) hb
        clear hb z0 c00 c01 c02
        obtain ⟨z0, c00, c01, c02, _, _, _⟩ := id P1
        go_wp2_with fail
        refine (ck _ (by with_reducible first | exact tb.kept B1 | exact (tb.kept B1).alloc _ | exact ((tb.kept B1).alloc _).alloc _ | exact tb | exact tb.alloc _ | exact (tb.alloc _).alloc _ | exact tb.kept (bthen B1 (by first | assumption | exact Below.refl _ _ | exact (Below.refl _ _).drew)))).mono ?_
        rintro e w3 ⟨rfl, hb⟩
        replace P1 := (P1).kept hb
        replace B1 := bthen (B1) hb
        clear hb z0 c00 c01 c02
        obtain ⟨z0, c00, c01, c02, _, _, _⟩ := id P1
        go_wp2_with fail
        refine (cp _ (by with_reducible first | exact tb.kept B1 | exact (tb.kept B1).alloc _ | exact ((tb.kept B1).alloc _).alloc _ | exact tb | exact tb.alloc _ | exact (tb.alloc _).alloc _ | exact tb.kept (bthen B1 (by first | assumption | exact Below.refl _ _ | exact (Below.refl _ _).drew)))).mono ?_
        rintro e w4 ⟨rfl, hb⟩
        replace P1 := (P1).kept hb
        replace B1 := bthen (B1) hb
        clear hb z0 c00 c01 c02
        obtain ⟨z0, c00, c01, c02, _, _, _⟩ := id P1
        go_wp2
        go_ret
        exact ⟨by simp <;> omega, balloc (B1) _⟩

end Go.Proofs.YtapddciodoobfaaDoor.Cl
