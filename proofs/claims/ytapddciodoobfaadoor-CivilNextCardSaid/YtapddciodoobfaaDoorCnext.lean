/- CivilNext's walk. -/
import Derived.Test.YtapddciodoobfaaDoorClive
namespace Go.Proofs.YtapddciodoobfaaDoor.Cl
set_option linter.unusedSimpArgs false
set_option linter.unusedVariables false
open Go.RowKit Go.Proofs.YtapddciodoobfaaDoor.Bx Go.Proofs.YtapddciodoobfaaDoor.Cm Go.Proofs.YtapddciodoobfaaDoor.Cp Go.Proofs.YtapddciodoobfaaDoor.Cr

set_option maxHeartbeats 1000000

theorem next_walk (n : Int) (w : World) (wn : (Lit.int .i64 n).wf = true) (tb : Tab w) :
    Calls Tryd.prog 6 #[.int .i64 n] w fun e w' => e = .returned (.bool true) ∧ Below w.heap.size w w' := by
  have fn := bounds_i64 wn
  clear wn
  obtain ⟨fn0, fn1⟩ := fn
  have cl := live_ok
  by_cases h : 0 ≤ n ∧ n ≤ 3068036
  · obtain ⟨n0, n1⟩ := h
    obtain ⟨y, m, d, ok, hn⟩ := num_ex n0 n1
    have co := fun w => Of_b n y m d 0 w (.inl ⟨n0, n1, ok, hn, rfl⟩)
    by_cases k : n = 3068036
    · subst k
      have ca := fun w => Add_b 3068036 1 0 4 w (by omega) (by omega) (.inr ⟨by omega, rfl, rfl⟩)
      clear ok hn
      go_enter Tryd.func6, Tryd.ntmps6
      go_wp2_with fail
      refine (cl _ (by with_reducible first | exact tb.kept B1 | exact (tb.kept B1).alloc _ | exact ((tb.kept B1).alloc _).alloc _ | exact tb | exact tb.alloc _ | exact (tb.alloc _).alloc _ | exact tb.kept (bthen B1 (by first | assumption | exact Below.refl _ _ | exact (Below.refl _ _).drew)))).mono ?_
      rintro e w1 ⟨rfl, hb⟩
      have B1 := bthen (Below.refl _ w) hb
      clear hb
      go_wp2_with fail
      refine (co _ (by with_reducible first | exact tb.kept B1 | exact (tb.kept B1).alloc _ | exact ((tb.kept B1).alloc _).alloc _ | exact tb | exact tb.alloc _ | exact (tb.alloc _).alloc _ | exact tb.kept (bthen B1 (by first | assumption | exact Below.refl _ _ | exact (Below.refl _ _).drew)))).mono ?_
      rintro e w2 ⟨rfl, hb⟩
      replace B1 := bthen (B1) hb
      clear hb
      go_wp2_with fail
      refine (ca _ (by with_reducible first | exact tb.kept B1 | exact (tb.kept B1).alloc _ | exact ((tb.kept B1).alloc _).alloc _ | exact tb | exact tb.alloc _ | exact (tb.alloc _).alloc _ | exact tb.kept (bthen B1 (by first | assumption | exact Below.refl _ _ | exact (Below.refl _ _).drew)))).mono ?_
      rintro e w3 ⟨rfl, hb⟩
      have Q1 := (Tri.new w2 (.int .i64 y) (.int .i64 m) (.int .i64 d) 23).kept hb
      replace B1 := bthen (balloc (B1) _) hb
      try simp only [World.size_alloc] at Q1
      clear hb
      obtain ⟨z0, c00, c01, c02, _, _, _⟩ := id Q1
      go_wp2
      go_ret
      exact ⟨by simp <;> omega, B1⟩
    · have n2 : n ≤ 3068035 := by omega
      have ca := fun w => Add_b n 1 (n + 1) 0 w (by omega) (by omega) (.inl ⟨n0, n1, by omega, by omega, rfl, rfl⟩)
      have N := next_date ok hn n2
      obtain ⟨⟨y0, y1, m0, m1⟩, d0, d1⟩ := id ok
      obtain ⟨l, hl⟩ : ∃ l, l = mlen y m := ⟨_, rfl⟩
      have l1 := (mlen_bd y m).2
      rw [← hl] at l1 d1 N
      have cn := fun w => Length_b y m l 0 w (.inl ⟨ok.1, hl, rfl⟩)
      obtain ⟨v, hv⟩ : ∃ v, v = wday n := ⟨_, rfl⟩
      obtain ⟨u, hu⟩ : ∃ u, u = wday (n + 1) := ⟨_, rfl⟩
      have cv := fun w => Weekday_b n v 0 w (.inl ⟨n0, n1, hv, rfl⟩)
      have cu := fun w => Weekday_b (n + 1) u 0 w (.inl ⟨by omega, by omega, hu, rfl⟩)
      have vb : 1 ≤ v ∧ v ≤ 7 ∧ v % 7 + 1 = u := by rw [hv, hu]; unfold wday; omega
      obtain ⟨v0, v1, vu⟩ := vb
      clear hv hu hl ok hn k
      rcases N with ⟨e1, r⟩ | ⟨e1, e2, r⟩ | ⟨e1, e2, r⟩
      · have cp := fun w => Of_b (n + 1) y m (d + 1) 0 w r
        clear r
        go_enter Tryd.func6, Tryd.ntmps6
        go_wp2_with fail
        refine (cl _ (by with_reducible first | exact tb.kept B1 | exact (tb.kept B1).alloc _ | exact ((tb.kept B1).alloc _).alloc _ | exact tb | exact tb.alloc _ | exact (tb.alloc _).alloc _ | exact tb.kept (bthen B1 (by first | assumption | exact Below.refl _ _ | exact (Below.refl _ _).drew)))).mono ?_
        rintro e w1 ⟨rfl, hb⟩
        have B1 := bthen (Below.refl _ w) hb
        clear hb
        go_wp2_with fail
        refine (co _ (by with_reducible first | exact tb.kept B1 | exact (tb.kept B1).alloc _ | exact ((tb.kept B1).alloc _).alloc _ | exact tb | exact tb.alloc _ | exact (tb.alloc _).alloc _ | exact tb.kept (bthen B1 (by first | assumption | exact Below.refl _ _ | exact (Below.refl _ _).drew)))).mono ?_
        rintro e w2 ⟨rfl, hb⟩
        replace B1 := bthen (B1) hb
        clear hb
        go_wp2_with fail
        refine (ca _ (by with_reducible first | exact tb.kept B1 | exact (tb.kept B1).alloc _ | exact ((tb.kept B1).alloc _).alloc _ | exact tb | exact tb.alloc _ | exact (tb.alloc _).alloc _ | exact tb.kept (bthen B1 (by first | assumption | exact Below.refl _ _ | exact (Below.refl _ _).drew)))).mono ?_
        rintro e w3 ⟨rfl, hb⟩
        have Q1 := (Tri.new w2 (.int .i64 y) (.int .i64 m) (.int .i64 d) 23).kept hb
        replace B1 := bthen (balloc (B1) _) hb
        try simp only [World.size_alloc] at Q1
        clear hb
        obtain ⟨z0, c00, c01, c02, _, _, _⟩ := id Q1
        go_wp2_with fail
        refine (cp _ (by with_reducible first | exact tb.kept B1 | exact (tb.kept B1).alloc _ | exact ((tb.kept B1).alloc _).alloc _ | exact tb | exact tb.alloc _ | exact (tb.alloc _).alloc _ | exact tb.kept (bthen B1 (by first | assumption | exact Below.refl _ _ | exact (Below.refl _ _).drew)))).mono ?_
        rintro e w4 ⟨rfl, hb⟩
        replace Q1 := (Q1).kept hb
        replace B1 := bthen (B1) hb
        clear hb z0 c00 c01 c02
        obtain ⟨z0, c00, c01, c02, _, _, _⟩ := id Q1
        go_wp2_with fail
        refine (cn _ (by with_reducible first | exact tb.kept B1 | exact (tb.kept B1).alloc _ | exact ((tb.kept B1).alloc _).alloc _ | exact tb | exact tb.alloc _ | exact (tb.alloc _).alloc _ | exact tb.kept (bthen B1 (by first | assumption | exact Below.refl _ _ | exact (Below.refl _ _).drew)))).mono ?_
        rintro e w5 ⟨rfl, hb⟩
        replace Q1 := ((Q1).alloc (.cells #[.int .i64 y, .int .i64 m, .int .i64 (d + 1)] 23)).kept hb
        have Q2 := (Tri.new w4 (.int .i64 y) (.int .i64 m) (.int .i64 (d + 1)) 23).kept hb
        replace B1 := bthen (balloc (B1) _) hb
        try simp only [World.size_alloc] at Q1 Q2
        clear hb z0 c00 c01 c02
        obtain ⟨z0, c00, c01, c02, _, _, _⟩ := id Q1
        obtain ⟨z1, c10, c11, c12, _, _, _⟩ := id Q2
        go_wp2_with fail
        refine (cv _ (by with_reducible first | exact tb.kept B1 | exact (tb.kept B1).alloc _ | exact ((tb.kept B1).alloc _).alloc _ | exact tb | exact tb.alloc _ | exact (tb.alloc _).alloc _ | exact tb.kept (bthen B1 (by first | assumption | exact Below.refl _ _ | exact (Below.refl _ _).drew)))).mono ?_
        rintro e w6 ⟨rfl, hb⟩
        replace Q1 := (Q1).kept hb
        replace Q2 := (Q2).kept hb
        replace B1 := bthen (B1) hb
        clear hb z0 c00 c01 c02 z1 c10 c11 c12
        obtain ⟨z0, c00, c01, c02, _, _, _⟩ := id Q1
        obtain ⟨z1, c10, c11, c12, _, _, _⟩ := id Q2
        go_wp2_with fail
        refine (cu _ (by with_reducible first | exact tb.kept B1 | exact (tb.kept B1).alloc _ | exact ((tb.kept B1).alloc _).alloc _ | exact tb | exact tb.alloc _ | exact (tb.alloc _).alloc _ | exact tb.kept (bthen B1 (by first | assumption | exact Below.refl _ _ | exact (Below.refl _ _).drew)))).mono ?_
        rintro e w7 ⟨rfl, hb⟩
        replace Q1 := (Q1).kept hb
        replace Q2 := (Q2).kept hb
        replace B1 := bthen (B1) hb
        clear hb z0 c00 c01 c02 z1 c10 c11 c12
        obtain ⟨z0, c00, c01, c02, _, _, _⟩ := id Q1
        obtain ⟨z1, c10, c11, c12, _, _, _⟩ := id Q2
        go_wp2
        go_ret
        exact ⟨by simp <;> omega, B1⟩
      · have cp := fun w => Of_b (n + 1) y (m + 1) 1 0 w r
        clear r
        have e3 : l ≤ d := by omega
        clear e1
        go_enter Tryd.func6, Tryd.ntmps6
        go_wp2_with fail
        refine (cl _ (by with_reducible first | exact tb.kept B1 | exact (tb.kept B1).alloc _ | exact ((tb.kept B1).alloc _).alloc _ | exact tb | exact tb.alloc _ | exact (tb.alloc _).alloc _ | exact tb.kept (bthen B1 (by first | assumption | exact Below.refl _ _ | exact (Below.refl _ _).drew)))).mono ?_
        rintro e w1 ⟨rfl, hb⟩
        have B1 := bthen (Below.refl _ w) hb
        clear hb
        go_wp2_with fail
        refine (co _ (by with_reducible first | exact tb.kept B1 | exact (tb.kept B1).alloc _ | exact ((tb.kept B1).alloc _).alloc _ | exact tb | exact tb.alloc _ | exact (tb.alloc _).alloc _ | exact tb.kept (bthen B1 (by first | assumption | exact Below.refl _ _ | exact (Below.refl _ _).drew)))).mono ?_
        rintro e w2 ⟨rfl, hb⟩
        replace B1 := bthen (B1) hb
        clear hb
        go_wp2_with fail
        refine (ca _ (by with_reducible first | exact tb.kept B1 | exact (tb.kept B1).alloc _ | exact ((tb.kept B1).alloc _).alloc _ | exact tb | exact tb.alloc _ | exact (tb.alloc _).alloc _ | exact tb.kept (bthen B1 (by first | assumption | exact Below.refl _ _ | exact (Below.refl _ _).drew)))).mono ?_
        rintro e w3 ⟨rfl, hb⟩
        have Q1 := (Tri.new w2 (.int .i64 y) (.int .i64 m) (.int .i64 d) 23).kept hb
        replace B1 := bthen (balloc (B1) _) hb
        try simp only [World.size_alloc] at Q1
        clear hb
        obtain ⟨z0, c00, c01, c02, _, _, _⟩ := id Q1
        go_wp2_with fail
        refine (cp _ (by with_reducible first | exact tb.kept B1 | exact (tb.kept B1).alloc _ | exact ((tb.kept B1).alloc _).alloc _ | exact tb | exact tb.alloc _ | exact (tb.alloc _).alloc _ | exact tb.kept (bthen B1 (by first | assumption | exact Below.refl _ _ | exact (Below.refl _ _).drew)))).mono ?_
        rintro e w4 ⟨rfl, hb⟩
        replace Q1 := (Q1).kept hb
        replace B1 := bthen (B1) hb
        clear hb z0 c00 c01 c02
        obtain ⟨z0, c00, c01, c02, _, _, _⟩ := id Q1
        go_wp2_with fail
        refine (cn _ (by with_reducible first | exact tb.kept B1 | exact (tb.kept B1).alloc _ | exact ((tb.kept B1).alloc _).alloc _ | exact tb | exact tb.alloc _ | exact (tb.alloc _).alloc _ | exact tb.kept (bthen B1 (by first | assumption | exact Below.refl _ _ | exact (Below.refl _ _).drew)))).mono ?_
        rintro e w5 ⟨rfl, hb⟩
        replace Q1 := ((Q1).alloc (.cells #[.int .i64 y, .int .i64 (m + 1), .int .i64 1] 23)).kept hb
        have Q2 := (Tri.new w4 (.int .i64 y) (.int .i64 (m + 1)) (.int .i64 1) 23).kept hb
        replace B1 := bthen (balloc (B1) _) hb
        try simp only [World.size_alloc] at Q1 Q2
        clear hb z0 c00 c01 c02
        obtain ⟨z0, c00, c01, c02, _, _, _⟩ := id Q1
        obtain ⟨z1, c10, c11, c12, _, _, _⟩ := id Q2
        go_wp2_with fail
        refine (cv _ (by with_reducible first | exact tb.kept B1 | exact (tb.kept B1).alloc _ | exact ((tb.kept B1).alloc _).alloc _ | exact tb | exact tb.alloc _ | exact (tb.alloc _).alloc _ | exact tb.kept (bthen B1 (by first | assumption | exact Below.refl _ _ | exact (Below.refl _ _).drew)))).mono ?_
        rintro e w6 ⟨rfl, hb⟩
        replace Q1 := (Q1).kept hb
        replace Q2 := (Q2).kept hb
        replace B1 := bthen (B1) hb
        clear hb z0 c00 c01 c02 z1 c10 c11 c12
        obtain ⟨z0, c00, c01, c02, _, _, _⟩ := id Q1
        obtain ⟨z1, c10, c11, c12, _, _, _⟩ := id Q2
        go_wp2_with fail
        refine (cu _ (by with_reducible first | exact tb.kept B1 | exact (tb.kept B1).alloc _ | exact ((tb.kept B1).alloc _).alloc _ | exact tb | exact tb.alloc _ | exact (tb.alloc _).alloc _ | exact tb.kept (bthen B1 (by first | assumption | exact Below.refl _ _ | exact (Below.refl _ _).drew)))).mono ?_
        rintro e w7 ⟨rfl, hb⟩
        replace Q1 := (Q1).kept hb
        replace Q2 := (Q2).kept hb
        replace B1 := bthen (B1) hb
        clear hb z0 c00 c01 c02 z1 c10 c11 c12
        obtain ⟨z0, c00, c01, c02, _, _, _⟩ := id Q1
        obtain ⟨z1, c10, c11, c12, _, _, _⟩ := id Q2
        go_wp2
        go_ret
        exact ⟨by simp <;> omega, B1⟩
      · have cp := fun w => Of_b (n + 1) (y + 1) 1 1 0 w r
        clear r
        have e3 : l ≤ d := by omega
        have e4 : 12 ≤ m := by omega
        clear e1 e2
        go_enter Tryd.func6, Tryd.ntmps6
        go_wp2_with fail
        refine (cl _ (by with_reducible first | exact tb.kept B1 | exact (tb.kept B1).alloc _ | exact ((tb.kept B1).alloc _).alloc _ | exact tb | exact tb.alloc _ | exact (tb.alloc _).alloc _ | exact tb.kept (bthen B1 (by first | assumption | exact Below.refl _ _ | exact (Below.refl _ _).drew)))).mono ?_
        rintro e w1 ⟨rfl, hb⟩
        have B1 := bthen (Below.refl _ w) hb
        clear hb
        go_wp2_with fail
        refine (co _ (by with_reducible first | exact tb.kept B1 | exact (tb.kept B1).alloc _ | exact ((tb.kept B1).alloc _).alloc _ | exact tb | exact tb.alloc _ | exact (tb.alloc _).alloc _ | exact tb.kept (bthen B1 (by first | assumption | exact Below.refl _ _ | exact (Below.refl _ _).drew)))).mono ?_
        rintro e w2 ⟨rfl, hb⟩
        replace B1 := bthen (B1) hb
        clear hb
        go_wp2_with fail
        refine (ca _ (by with_reducible first | exact tb.kept B1 | exact (tb.kept B1).alloc _ | exact ((tb.kept B1).alloc _).alloc _ | exact tb | exact tb.alloc _ | exact (tb.alloc _).alloc _ | exact tb.kept (bthen B1 (by first | assumption | exact Below.refl _ _ | exact (Below.refl _ _).drew)))).mono ?_
        rintro e w3 ⟨rfl, hb⟩
        have Q1 := (Tri.new w2 (.int .i64 y) (.int .i64 m) (.int .i64 d) 23).kept hb
        replace B1 := bthen (balloc (B1) _) hb
        try simp only [World.size_alloc] at Q1
        clear hb
        obtain ⟨z0, c00, c01, c02, _, _, _⟩ := id Q1
        go_wp2_with fail
        refine (cp _ (by with_reducible first | exact tb.kept B1 | exact (tb.kept B1).alloc _ | exact ((tb.kept B1).alloc _).alloc _ | exact tb | exact tb.alloc _ | exact (tb.alloc _).alloc _ | exact tb.kept (bthen B1 (by first | assumption | exact Below.refl _ _ | exact (Below.refl _ _).drew)))).mono ?_
        rintro e w4 ⟨rfl, hb⟩
        replace Q1 := (Q1).kept hb
        replace B1 := bthen (B1) hb
        clear hb z0 c00 c01 c02
        obtain ⟨z0, c00, c01, c02, _, _, _⟩ := id Q1
        go_wp2_with fail
        refine (cn _ (by with_reducible first | exact tb.kept B1 | exact (tb.kept B1).alloc _ | exact ((tb.kept B1).alloc _).alloc _ | exact tb | exact tb.alloc _ | exact (tb.alloc _).alloc _ | exact tb.kept (bthen B1 (by first | assumption | exact Below.refl _ _ | exact (Below.refl _ _).drew)))).mono ?_
        rintro e w5 ⟨rfl, hb⟩
        replace Q1 := ((Q1).alloc (.cells #[.int .i64 (y + 1), .int .i64 1, .int .i64 1] 23)).kept hb
        have Q2 := (Tri.new w4 (.int .i64 (y + 1)) (.int .i64 1) (.int .i64 1) 23).kept hb
        replace B1 := bthen (balloc (B1) _) hb
        try simp only [World.size_alloc] at Q1 Q2
        clear hb z0 c00 c01 c02
        obtain ⟨z0, c00, c01, c02, _, _, _⟩ := id Q1
        obtain ⟨z1, c10, c11, c12, _, _, _⟩ := id Q2
        go_wp2_with fail
        refine (cv _ (by with_reducible first | exact tb.kept B1 | exact (tb.kept B1).alloc _ | exact ((tb.kept B1).alloc _).alloc _ | exact tb | exact tb.alloc _ | exact (tb.alloc _).alloc _ | exact tb.kept (bthen B1 (by first | assumption | exact Below.refl _ _ | exact (Below.refl _ _).drew)))).mono ?_
        rintro e w6 ⟨rfl, hb⟩
        replace Q1 := (Q1).kept hb
        replace Q2 := (Q2).kept hb
        replace B1 := bthen (B1) hb
        clear hb z0 c00 c01 c02 z1 c10 c11 c12
        obtain ⟨z0, c00, c01, c02, _, _, _⟩ := id Q1
        obtain ⟨z1, c10, c11, c12, _, _, _⟩ := id Q2
        go_wp2_with fail
        refine (cu _ (by with_reducible first | exact tb.kept B1 | exact (tb.kept B1).alloc _ | exact ((tb.kept B1).alloc _).alloc _ | exact tb | exact tb.alloc _ | exact (tb.alloc _).alloc _ | exact tb.kept (bthen B1 (by first | assumption | exact Below.refl _ _ | exact (Below.refl _ _).drew)))).mono ?_
        rintro e w7 ⟨rfl, hb⟩
        replace Q1 := (Q1).kept hb
        replace Q2 := (Q2).kept hb
        replace B1 := bthen (B1) hb
        clear hb z0 c00 c01 c02 z1 c10 c11 c12
        obtain ⟨z0, c00, c01, c02, _, _, _⟩ := id Q1
        obtain ⟨z1, c10, c11, c12, _, _, _⟩ := id Q2
        go_wp2
        go_ret
        exact ⟨by simp <;> omega, B1⟩
  · have co := fun w => Of_b n 0 0 0 4 w (.inr ⟨by omega, rfl, rfl, rfl, rfl⟩)
    have ca := fun w => Add_b n 1 0 4 w (by omega) (by omega) (.inr ⟨by omega, rfl, rfl⟩)
    have h' : n < 0 ∨ (0 ≤ n ∧ 3068036 < n) := by omega
    clear h
    rcases h' with h | ⟨h, h4⟩
    all_goals
      go_enter Tryd.func6, Tryd.ntmps6
      go_wp2_with fail
      refine (cl _ (by with_reducible first | exact tb.kept B1 | exact (tb.kept B1).alloc _ | exact ((tb.kept B1).alloc _).alloc _ | exact tb | exact tb.alloc _ | exact (tb.alloc _).alloc _ | exact tb.kept (bthen B1 (by first | assumption | exact Below.refl _ _ | exact (Below.refl _ _).drew)))).mono ?_
      rintro e w1 ⟨rfl, hb⟩
      have B1 := bthen (Below.refl _ w) hb
      clear hb
      go_wp2_with fail
      refine (co _ (by with_reducible first | exact tb.kept B1 | exact (tb.kept B1).alloc _ | exact ((tb.kept B1).alloc _).alloc _ | exact tb | exact tb.alloc _ | exact (tb.alloc _).alloc _ | exact tb.kept (bthen B1 (by first | assumption | exact Below.refl _ _ | exact (Below.refl _ _).drew)))).mono ?_
      rintro e w2 ⟨rfl, hb⟩
      replace B1 := bthen (B1) hb
      clear hb
      go_wp2_with fail
      refine (ca _ (by with_reducible first | exact tb.kept B1 | exact (tb.kept B1).alloc _ | exact ((tb.kept B1).alloc _).alloc _ | exact tb | exact tb.alloc _ | exact (tb.alloc _).alloc _ | exact tb.kept (bthen B1 (by first | assumption | exact Below.refl _ _ | exact (Below.refl _ _).drew)))).mono ?_
      rintro e w3 ⟨rfl, hb⟩
      have Q1 := (Tri.new w2 (.int .i64 0) (.int .i64 0) (.int .i64 0) 23).kept hb
      replace B1 := bthen (balloc (B1) _) hb
      try simp only [World.size_alloc] at Q1
      clear hb
      obtain ⟨z0, c00, c01, c02, _, _, _⟩ := id Q1
      go_wp2
      go_ret
      exact ⟨by simp <;> omega, B1⟩

end Go.Proofs.YtapddciodoobfaaDoor.Cl
