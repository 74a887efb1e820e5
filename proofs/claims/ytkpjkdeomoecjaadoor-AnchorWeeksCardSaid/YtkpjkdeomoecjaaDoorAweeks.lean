/- AnchorWeeks' walk. -/
import Derived.Test.YtkpjkdeomoecjaaDoorAlive
import Derived.Test.YtkpjkdeomoecjaaDoorAlaw
namespace Go.Proofs.YtkpjkdeomoecjaaDoor.Al
set_option linter.unusedSimpArgs false
set_option linter.unusedVariables false
open Go.RowKit Go.Proofs.YtkpjkdeomoecjaaDoor.Bn Go.Proofs.YtkpjkdeomoecjaaDoor.Cp Go.Proofs.YtkpjkdeomoecjaaDoor.Am Go.Proofs.YtkpjkdeomoecjaaDoor.Fp Go.Proofs.YtkpjkdeomoecjaaDoor.Ap Go.Proofs.YtkpjkdeomoecjaaDoor.Cm Go.Proofs.YtkpjkdeomoecjaaDoor.Em Go.Proofs.YtkpjkdeomoecjaaDoor.Ep Go.Proofs.YtkpjkdeomoecjaaDoor.Bx

set_option maxHeartbeats 1000000

set_option maxRecDepth 100000 in
theorem aweeks_walk (c : CalZ) (y : Int) (w : World) (wf : CalWf c) (wy : (Lit.int .i64 y).wf = true) (tb : FTab w) :
    Calls Tryd.prog 5 #[.agg #[.string c.nm, .int .i64 c.k, .int .i64 c.d, .int .i64 c.m, .int .i64 c.s, .int .i64 c.sh, .int .i64 c.p0, .int .i64 c.p1, .int .i64 c.p2, .int .i64 c.cy, .int .i64 c.ex, .int .i64 c.fi, .int .i64 c.la, .int .i64 c.po], .int .i64 y] w fun e w' => e = .returned (.bool true) ∧ Below w.heap.size w w' := by
  have hm := wf.1
  clear wy
  by_cases hl : 100 < c.nm.size
  · have dl : decide ((100 : Int) < (c.nm.size : Int)) = true := decide_eq_true (by omega)
    clear hl
    go_enter Tryd.func5, Tryd.ntmps5
    go_wp2_with fail
    refine (alive_ok _ ((tb).alloc (.cells #[.string c.nm, .int .i64 c.k, .int .i64 c.d, .int .i64 c.m, .int .i64 c.s, .int .i64 c.sh, .int .i64 c.p0, .int .i64 c.p1, .int .i64 c.p2, .int .i64 c.cy, .int .i64 c.ex, .int .i64 c.fi, .int .i64 c.la, .int .i64 c.po] 24))).mono ?_
    rintro e w1 ⟨rfl, hb⟩
    have C := (CalIn.new w c 24).kept hb
    have T1 := ((tb).alloc (.cells #[.string c.nm, .int .i64 c.k, .int .i64 c.d, .int .i64 c.m, .int .i64 c.s, .int .i64 c.sh, .int .i64 c.p0, .int .i64 c.p1, .int .i64 c.p2, .int .i64 c.cy, .int .i64 c.ex, .int .i64 c.fi, .int .i64 c.la, .int .i64 c.po] 24)).kept hb
    have B1 := bthen (balloc (Below.refl _ w) (.cells #[.string c.nm, .int .i64 c.k, .int .i64 c.d, .int .i64 c.m, .int .i64 c.s, .int .i64 c.sh, .int .i64 c.p0, .int .i64 c.p1, .int .i64 c.p2, .int .i64 c.cy, .int .i64 c.ex, .int .i64 c.fi, .int .i64 c.la, .int .i64 c.po] 24)) hb
    try simp only [World.size_alloc] at C
    clear hb
    obtain ⟨z0, C_0, C_1, C_2, C_3, C_4, C_5, C_6, C_7, C_8, C_9, C_10, C_11, C_12, C_13⟩ := id C
    go_wp2
    go_ret
    exact ⟨by simp, B1⟩
  · have dl : decide ((100 : Int) < (c.nm.size : Int)) = false := decide_eq_false (by omega)
    clear hl
    by_cases hk : CalOk c ∧ c.k ≠ 6 ∧ 1601 ≤ y ∧ y ≤ 9997
    · obtain ⟨ok, k6, y0, y1⟩ := hk
      obtain ⟨a, ha⟩ : ∃ a, a = yend c (y - 1) := ⟨_, rfl⟩
      obtain ⟨b, hb'⟩ : ∃ b, b = yend c y := ⟨_, rfl⟩
      obtain ⟨a0, ab, b1, n0, n1, wa, wb⟩ := weeks_year ok.1 k6 y0 y1 ha hb'
      obtain ⟨n, hn⟩ : ∃ n, n = (b - a) / 7 := ⟨_, rfl⟩
      have kb := (kind_bd ok.1).2.2.2.2.2.2.1 k6
      have cW := fun w T => Weeks_any c y n 0 w (.inl ⟨ok, k6, y0, y1, by rw [hn, ha, hb'], rfl⟩) hm T
      have cd := fun w T => Days_any c y (b - a) 0 w (.inl ⟨ok, y0, y1, by rw [ha, hb'], rfl⟩) hm T
      have cs := fun w T => Start_any c y (a + 1) 0 w (.inl ⟨ok, y0, y1, by rw [ha], rfl⟩) hm T
      have ce := fun w T => End_any c y b 0 w (.inl ⟨ok, by omega, y1, hb', rfl⟩) hm T
      obtain ⟨u, hu⟩ : ∃ u, u = c.d % 7 + 1 := ⟨_, rfl⟩
      have cv := fun w => Weekday_any (a + 1) u 0 w (.inl ⟨by omega, by omega, by rw [hu, wa], rfl⟩)
      have cw := fun w => Weekday_any b c.d 0 w (.inl ⟨by omega, b1, wb.symm, rfl⟩)
      rw [← hn] at n0 n1
      have td : c.d.tmod 7 = c.d % 7 := Int.tmod_eq_emod_of_nonneg (by omega)
      have d0 := kb.1
      have d1 := kb.2
      clear ha hb' wa wb hn ok k6 hm y0 y1 kb
      rcases n0 with n0 | n0
      · subst n0
        go_enter Tryd.func5, Tryd.ntmps5
        go_wp2_with fail
        refine (alive_ok _ ((tb).alloc (.cells #[.string c.nm, .int .i64 c.k, .int .i64 c.d, .int .i64 c.m, .int .i64 c.s, .int .i64 c.sh, .int .i64 c.p0, .int .i64 c.p1, .int .i64 c.p2, .int .i64 c.cy, .int .i64 c.ex, .int .i64 c.fi, .int .i64 c.la, .int .i64 c.po] 24))).mono ?_
        rintro e w1 ⟨rfl, hb⟩
        have C := (CalIn.new w c 24).kept hb
        have T1 := ((tb).alloc (.cells #[.string c.nm, .int .i64 c.k, .int .i64 c.d, .int .i64 c.m, .int .i64 c.s, .int .i64 c.sh, .int .i64 c.p0, .int .i64 c.p1, .int .i64 c.p2, .int .i64 c.cy, .int .i64 c.ex, .int .i64 c.fi, .int .i64 c.la, .int .i64 c.po] 24)).kept hb
        have B1 := bthen (balloc (Below.refl _ w) (.cells #[.string c.nm, .int .i64 c.k, .int .i64 c.d, .int .i64 c.m, .int .i64 c.s, .int .i64 c.sh, .int .i64 c.p0, .int .i64 c.p1, .int .i64 c.p2, .int .i64 c.cy, .int .i64 c.ex, .int .i64 c.fi, .int .i64 c.la, .int .i64 c.po] 24)) hb
        try simp only [World.size_alloc] at C
        clear hb
        obtain ⟨z0, C_0, C_1, C_2, C_3, C_4, C_5, C_6, C_7, C_8, C_9, C_10, C_11, C_12, C_13⟩ := id C
        go_wp2_with fail
        refine (cW _ (T1)).mono ?_
        rintro e w2 ⟨rfl, hb⟩
        replace C := (C).kept hb
        have T2 := (T1).kept hb
        replace B1 := bthen B1 hb
        clear hb z0 C_0 C_1 C_2 C_3 C_4 C_5 C_6 C_7 C_8 C_9 C_10 C_11 C_12 C_13 T1
        obtain ⟨z0, C_0, C_1, C_2, C_3, C_4, C_5, C_6, C_7, C_8, C_9, C_10, C_11, C_12, C_13⟩ := id C
        go_wp2_with fail
        refine (cd _ (T2)).mono ?_
        rintro e w3 ⟨rfl, hb⟩
        replace C := (C).kept hb
        have T3 := (T2).kept hb
        replace B1 := bthen B1 hb
        clear hb z0 C_0 C_1 C_2 C_3 C_4 C_5 C_6 C_7 C_8 C_9 C_10 C_11 C_12 C_13 T2
        obtain ⟨z0, C_0, C_1, C_2, C_3, C_4, C_5, C_6, C_7, C_8, C_9, C_10, C_11, C_12, C_13⟩ := id C
        go_wp2_with fail
        refine (cs _ (T3)).mono ?_
        rintro e w4 ⟨rfl, hb⟩
        replace C := (C).kept hb
        have T4 := (T3).kept hb
        replace B1 := bthen B1 hb
        clear hb z0 C_0 C_1 C_2 C_3 C_4 C_5 C_6 C_7 C_8 C_9 C_10 C_11 C_12 C_13 T3
        obtain ⟨z0, C_0, C_1, C_2, C_3, C_4, C_5, C_6, C_7, C_8, C_9, C_10, C_11, C_12, C_13⟩ := id C
        go_wp2_with fail
        refine (ce _ (T4)).mono ?_
        rintro e w5 ⟨rfl, hb⟩
        replace C := (C).kept hb
        have T5 := (T4).kept hb
        replace B1 := bthen B1 hb
        clear hb z0 C_0 C_1 C_2 C_3 C_4 C_5 C_6 C_7 C_8 C_9 C_10 C_11 C_12 C_13 T4
        obtain ⟨z0, C_0, C_1, C_2, C_3, C_4, C_5, C_6, C_7, C_8, C_9, C_10, C_11, C_12, C_13⟩ := id C
        go_wp2_with fail
        refine (cv _).mono ?_
        rintro e w' ⟨rfl, rfl⟩
        go_wp2_with fail
        refine (cw _).mono ?_
        rintro e w' ⟨rfl, rfl⟩
        go_wp2
        go_ret
        exact ⟨by simp <;> omega, B1⟩
      · subst n0
        go_enter Tryd.func5, Tryd.ntmps5
        go_wp2_with fail
        refine (alive_ok _ ((tb).alloc (.cells #[.string c.nm, .int .i64 c.k, .int .i64 c.d, .int .i64 c.m, .int .i64 c.s, .int .i64 c.sh, .int .i64 c.p0, .int .i64 c.p1, .int .i64 c.p2, .int .i64 c.cy, .int .i64 c.ex, .int .i64 c.fi, .int .i64 c.la, .int .i64 c.po] 24))).mono ?_
        rintro e w1 ⟨rfl, hb⟩
        have C := (CalIn.new w c 24).kept hb
        have T1 := ((tb).alloc (.cells #[.string c.nm, .int .i64 c.k, .int .i64 c.d, .int .i64 c.m, .int .i64 c.s, .int .i64 c.sh, .int .i64 c.p0, .int .i64 c.p1, .int .i64 c.p2, .int .i64 c.cy, .int .i64 c.ex, .int .i64 c.fi, .int .i64 c.la, .int .i64 c.po] 24)).kept hb
        have B1 := bthen (balloc (Below.refl _ w) (.cells #[.string c.nm, .int .i64 c.k, .int .i64 c.d, .int .i64 c.m, .int .i64 c.s, .int .i64 c.sh, .int .i64 c.p0, .int .i64 c.p1, .int .i64 c.p2, .int .i64 c.cy, .int .i64 c.ex, .int .i64 c.fi, .int .i64 c.la, .int .i64 c.po] 24)) hb
        try simp only [World.size_alloc] at C
        clear hb
        obtain ⟨z0, C_0, C_1, C_2, C_3, C_4, C_5, C_6, C_7, C_8, C_9, C_10, C_11, C_12, C_13⟩ := id C
        go_wp2_with fail
        refine (cW _ (T1)).mono ?_
        rintro e w2 ⟨rfl, hb⟩
        replace C := (C).kept hb
        have T2 := (T1).kept hb
        replace B1 := bthen B1 hb
        clear hb z0 C_0 C_1 C_2 C_3 C_4 C_5 C_6 C_7 C_8 C_9 C_10 C_11 C_12 C_13 T1
        obtain ⟨z0, C_0, C_1, C_2, C_3, C_4, C_5, C_6, C_7, C_8, C_9, C_10, C_11, C_12, C_13⟩ := id C
        go_wp2_with fail
        refine (cd _ (T2)).mono ?_
        rintro e w3 ⟨rfl, hb⟩
        replace C := (C).kept hb
        have T3 := (T2).kept hb
        replace B1 := bthen B1 hb
        clear hb z0 C_0 C_1 C_2 C_3 C_4 C_5 C_6 C_7 C_8 C_9 C_10 C_11 C_12 C_13 T2
        obtain ⟨z0, C_0, C_1, C_2, C_3, C_4, C_5, C_6, C_7, C_8, C_9, C_10, C_11, C_12, C_13⟩ := id C
        go_wp2_with fail
        refine (cs _ (T3)).mono ?_
        rintro e w4 ⟨rfl, hb⟩
        replace C := (C).kept hb
        have T4 := (T3).kept hb
        replace B1 := bthen B1 hb
        clear hb z0 C_0 C_1 C_2 C_3 C_4 C_5 C_6 C_7 C_8 C_9 C_10 C_11 C_12 C_13 T3
        obtain ⟨z0, C_0, C_1, C_2, C_3, C_4, C_5, C_6, C_7, C_8, C_9, C_10, C_11, C_12, C_13⟩ := id C
        go_wp2_with fail
        refine (ce _ (T4)).mono ?_
        rintro e w5 ⟨rfl, hb⟩
        replace C := (C).kept hb
        have T5 := (T4).kept hb
        replace B1 := bthen B1 hb
        clear hb z0 C_0 C_1 C_2 C_3 C_4 C_5 C_6 C_7 C_8 C_9 C_10 C_11 C_12 C_13 T4
        obtain ⟨z0, C_0, C_1, C_2, C_3, C_4, C_5, C_6, C_7, C_8, C_9, C_10, C_11, C_12, C_13⟩ := id C
        go_wp2_with fail
        refine (cv _).mono ?_
        rintro e w' ⟨rfl, rfl⟩
        go_wp2_with fail
        refine (cw _).mono ?_
        rintro e w' ⟨rfl, rfl⟩
        go_wp2
        go_ret
        exact ⟨by simp <;> omega, B1⟩
    · obtain ⟨er, cW, he⟩ : ∃ er : Int, (∀ w, FTab w → Calls Tryd.prog 22 #[.agg #[.string c.nm, .int .i64 c.k, .int .i64 c.d, .int .i64 c.m, .int .i64 c.s, .int .i64 c.sh, .int .i64 c.p0, .int .i64 c.p1, .int .i64 c.p2, .int .i64 c.cy, .int .i64 c.ex, .int .i64 c.fi, .int .i64 c.la, .int .i64 c.po], .int .i64 y] w fun e w' => e = .returned (.tuple #[.int .i64 0, .int .i64 er]) ∧ Below w.heap.size w w') ∧ (er = 11 ∨ er = 1) := by
        by_cases h1 : CalOk c ∧ c.k ≠ 6
        · exact ⟨11, fun w T => Weeks_any c y 0 11 w (.inr (.inl ⟨h1.1, h1.2, fun k => hk ⟨h1.1, h1.2, k.1, k.2⟩, rfl, rfl⟩)) hm T, .inl rfl⟩
        · refine ⟨1, fun w T => Weeks_any c y 0 1 w (.inr (.inr ⟨?_, rfl, rfl⟩)) hm T, .inr rfl⟩
          by_cases o : CalOk c
          · exact .inr (Classical.byContradiction (fun k => h1 ⟨o, k⟩))
          · exact .inl o
      clear hk hm
      rcases he with rfl | rfl
      all_goals
        go_enter Tryd.func5, Tryd.ntmps5
        go_wp2_with fail
        refine (alive_ok _ ((tb).alloc (.cells #[.string c.nm, .int .i64 c.k, .int .i64 c.d, .int .i64 c.m, .int .i64 c.s, .int .i64 c.sh, .int .i64 c.p0, .int .i64 c.p1, .int .i64 c.p2, .int .i64 c.cy, .int .i64 c.ex, .int .i64 c.fi, .int .i64 c.la, .int .i64 c.po] 24))).mono ?_
        rintro e w1 ⟨rfl, hb⟩
        have C := (CalIn.new w c 24).kept hb
        have T1 := ((tb).alloc (.cells #[.string c.nm, .int .i64 c.k, .int .i64 c.d, .int .i64 c.m, .int .i64 c.s, .int .i64 c.sh, .int .i64 c.p0, .int .i64 c.p1, .int .i64 c.p2, .int .i64 c.cy, .int .i64 c.ex, .int .i64 c.fi, .int .i64 c.la, .int .i64 c.po] 24)).kept hb
        have B1 := bthen (balloc (Below.refl _ w) (.cells #[.string c.nm, .int .i64 c.k, .int .i64 c.d, .int .i64 c.m, .int .i64 c.s, .int .i64 c.sh, .int .i64 c.p0, .int .i64 c.p1, .int .i64 c.p2, .int .i64 c.cy, .int .i64 c.ex, .int .i64 c.fi, .int .i64 c.la, .int .i64 c.po] 24)) hb
        try simp only [World.size_alloc] at C
        clear hb
        obtain ⟨z0, C_0, C_1, C_2, C_3, C_4, C_5, C_6, C_7, C_8, C_9, C_10, C_11, C_12, C_13⟩ := id C
        go_wp2_with fail
        refine (cW _ (T1)).mono ?_
        rintro e w2 ⟨rfl, hb⟩
        replace C := (C).kept hb
        have T2 := (T1).kept hb
        replace B1 := bthen B1 hb
        clear hb z0 C_0 C_1 C_2 C_3 C_4 C_5 C_6 C_7 C_8 C_9 C_10 C_11 C_12 C_13 T1
        obtain ⟨z0, C_0, C_1, C_2, C_3, C_4, C_5, C_6, C_7, C_8, C_9, C_10, C_11, C_12, C_13⟩ := id C
        go_wp2
        go_ret
        exact ⟨by simp, B1⟩

end Go.Proofs.YtkpjkdeomoecjaaDoor.Al
