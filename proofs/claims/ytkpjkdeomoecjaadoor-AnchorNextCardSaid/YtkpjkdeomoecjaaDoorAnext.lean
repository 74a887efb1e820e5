/- AnchorNext's walk. -/
import Derived.Test.YtkpjkdeomoecjaaDoorAlive
namespace Go.Proofs.YtkpjkdeomoecjaaDoor.Al
set_option linter.unusedSimpArgs false
set_option linter.unusedVariables false
open Go.RowKit Go.Proofs.YtkpjkdeomoecjaaDoor.Bn Go.Proofs.YtkpjkdeomoecjaaDoor.Cp Go.Proofs.YtkpjkdeomoecjaaDoor.Am Go.Proofs.YtkpjkdeomoecjaaDoor.Fp Go.Proofs.YtkpjkdeomoecjaaDoor.Ap Go.Proofs.YtkpjkdeomoecjaaDoor.Cm Go.Proofs.YtkpjkdeomoecjaaDoor.Em Go.Proofs.YtkpjkdeomoecjaaDoor.Ep Go.Proofs.YtkpjkdeomoecjaaDoor.Bx

set_option maxHeartbeats 1000000

set_option maxRecDepth 100000 in
theorem anext_walk (c : CalZ) (y : Int) (w : World) (wf : CalWf c) (wy : (Lit.int .i64 y).wf = true) (tb : FTab w) :
    Calls Tryd.prog 4 #[.agg #[.string c.nm, .int .i64 c.k, .int .i64 c.d, .int .i64 c.m, .int .i64 c.s, .int .i64 c.sh, .int .i64 c.p0, .int .i64 c.p1, .int .i64 c.p2, .int .i64 c.cy, .int .i64 c.ex, .int .i64 c.fi, .int .i64 c.la, .int .i64 c.po], .int .i64 y] w fun e w' => e = .returned (.bool true) ∧ Below w.heap.size w w' := by
  have hm := wf.1
  clear wy
  by_cases hl : 100 < c.nm.size
  · have dl : decide ((100 : Int) < (c.nm.size : Int)) = true := decide_eq_true (by omega)
    clear hl
    go_enter Tryd.func4, Tryd.ntmps4
    go_wp2_with fail
    refine (alive_ok _ ((tb).alloc (.cells #[.string c.nm, .int .i64 c.k, .int .i64 c.d, .int .i64 c.m, .int .i64 c.s, .int .i64 c.sh, .int .i64 c.p0, .int .i64 c.p1, .int .i64 c.p2, .int .i64 c.cy, .int .i64 c.ex, .int .i64 c.fi, .int .i64 c.la, .int .i64 c.po] 24))).mono ?_
    rintro e w1 ⟨rfl, hb⟩
    have C := (CalIn.new w c 24).kept hb
    have T1 := ((tb).alloc (.cells #[.string c.nm, .int .i64 c.k, .int .i64 c.d, .int .i64 c.m, .int .i64 c.s, .int .i64 c.sh, .int .i64 c.p0, .int .i64 c.p1, .int .i64 c.p2, .int .i64 c.cy, .int .i64 c.ex, .int .i64 c.fi, .int .i64 c.la, .int .i64 c.po] 24)).kept hb
    have B1 := bthen (balloc (Below.refl _ w) (.cells #[.string c.nm, .int .i64 c.k, .int .i64 c.d, .int .i64 c.m, .int .i64 c.s, .int .i64 c.sh, .int .i64 c.p0, .int .i64 c.p1, .int .i64 c.p2, .int .i64 c.cy, .int .i64 c.ex, .int .i64 c.fi, .int .i64 c.la, .int .i64 c.po] 24)) hb
    try simp only [World.size_alloc] at C
    clear hb
    obtain ⟨z0, C_0, C_1, C_2, C_3, C_4, C_5, C_6, C_7, C_8, C_9, C_10, C_11, C_12, C_13⟩ := id C
    go_wp2
    go_ret
    exact ⟨by simp, B1⟩
  · have dl : decide ((100 : Int) < (c.nm.size : Int)) = false := decide_eq_false (by omega)
    clear hl
    by_cases ok : CalOk c
    · by_cases hy : 1601 ≤ y ∧ y ≤ 9997
      · obtain ⟨y0, y1⟩ := hy
        obtain ⟨a, ha⟩ : ∃ a, a = yend c (y - 1) := ⟨_, rfl⟩
        obtain ⟨b, hb'⟩ : ∃ b, b = yend c y := ⟨_, rfl⟩
        have s := yend_step ok.1 (y := y - 1) (by omega) (by omega)
        have bd := yend_bd ok.1 (y := y - 1) (by omega) (by omega)
        have bz := yend_bd ok.1 (y := y) (by omega) y1
        rw [show y - 1 + 1 = y by omega] at s
        have cs := fun w T => Start_any c y (a + 1) 0 w (.inl ⟨ok, y0, y1, by rw [ha], rfl⟩) hm T
        have ca := fun w T => End_any c (y - 1) a 0 w (.inl ⟨ok, by omega, by omega, ha, rfl⟩) hm T
        have cb := fun w T => End_any c y b 0 w (.inl ⟨ok, by omega, y1, hb', rfl⟩) hm T
        have cn := fun w T => Days_any c y (b - a) 0 w (.inl ⟨ok, y0, y1, by rw [ha, hb'], rfl⟩) hm T
        rw [← ha, ← hb'] at s
        rw [← ha] at bd
        rw [← hb'] at bz
        have s0 : a + 364 ≤ b := by omega
        have s1 : b ≤ a + 371 := by omega
        obtain ⟨a0, a1⟩ := bd
        obtain ⟨b0, b1⟩ := bz
        clear ha hb' s ok hm
        go_enter Tryd.func4, Tryd.ntmps4
        go_wp2_with fail
        refine (alive_ok _ ((tb).alloc (.cells #[.string c.nm, .int .i64 c.k, .int .i64 c.d, .int .i64 c.m, .int .i64 c.s, .int .i64 c.sh, .int .i64 c.p0, .int .i64 c.p1, .int .i64 c.p2, .int .i64 c.cy, .int .i64 c.ex, .int .i64 c.fi, .int .i64 c.la, .int .i64 c.po] 24))).mono ?_
        rintro e w1 ⟨rfl, hb⟩
        have C := (CalIn.new w c 24).kept hb
        have T1 := ((tb).alloc (.cells #[.string c.nm, .int .i64 c.k, .int .i64 c.d, .int .i64 c.m, .int .i64 c.s, .int .i64 c.sh, .int .i64 c.p0, .int .i64 c.p1, .int .i64 c.p2, .int .i64 c.cy, .int .i64 c.ex, .int .i64 c.fi, .int .i64 c.la, .int .i64 c.po] 24)).kept hb
        have B1 := bthen (balloc (Below.refl _ w) (.cells #[.string c.nm, .int .i64 c.k, .int .i64 c.d, .int .i64 c.m, .int .i64 c.s, .int .i64 c.sh, .int .i64 c.p0, .int .i64 c.p1, .int .i64 c.p2, .int .i64 c.cy, .int .i64 c.ex, .int .i64 c.fi, .int .i64 c.la, .int .i64 c.po] 24)) hb
        try simp only [World.size_alloc] at C
        clear hb
        obtain ⟨z0, C_0, C_1, C_2, C_3, C_4, C_5, C_6, C_7, C_8, C_9, C_10, C_11, C_12, C_13⟩ := id C
        go_wp2_with fail
        refine (cs _ (T1)).mono ?_
        rintro e w2 ⟨rfl, hb⟩
        replace C := (C).kept hb
        have T2 := (T1).kept hb
        replace B1 := bthen B1 hb
        clear hb z0 C_0 C_1 C_2 C_3 C_4 C_5 C_6 C_7 C_8 C_9 C_10 C_11 C_12 C_13 T1
        obtain ⟨z0, C_0, C_1, C_2, C_3, C_4, C_5, C_6, C_7, C_8, C_9, C_10, C_11, C_12, C_13⟩ := id C
        go_wp2_with fail
        refine (ca _ (T2)).mono ?_
        rintro e w3 ⟨rfl, hb⟩
        replace C := (C).kept hb
        have T3 := (T2).kept hb
        replace B1 := bthen B1 hb
        clear hb z0 C_0 C_1 C_2 C_3 C_4 C_5 C_6 C_7 C_8 C_9 C_10 C_11 C_12 C_13 T2
        obtain ⟨z0, C_0, C_1, C_2, C_3, C_4, C_5, C_6, C_7, C_8, C_9, C_10, C_11, C_12, C_13⟩ := id C
        go_wp2_with fail
        refine (cb _ (T3)).mono ?_
        rintro e w4 ⟨rfl, hb⟩
        replace C := (C).kept hb
        have T4 := (T3).kept hb
        replace B1 := bthen B1 hb
        clear hb z0 C_0 C_1 C_2 C_3 C_4 C_5 C_6 C_7 C_8 C_9 C_10 C_11 C_12 C_13 T3
        obtain ⟨z0, C_0, C_1, C_2, C_3, C_4, C_5, C_6, C_7, C_8, C_9, C_10, C_11, C_12, C_13⟩ := id C
        go_wp2_with fail
        refine (cn _ (T4)).mono ?_
        rintro e w5 ⟨rfl, hb⟩
        replace C := (C).kept hb
        have T5 := (T4).kept hb
        replace B1 := bthen B1 hb
        clear hb z0 C_0 C_1 C_2 C_3 C_4 C_5 C_6 C_7 C_8 C_9 C_10 C_11 C_12 C_13 T4
        obtain ⟨z0, C_0, C_1, C_2, C_3, C_4, C_5, C_6, C_7, C_8, C_9, C_10, C_11, C_12, C_13⟩ := id C
        go_wp2
        go_ret
        exact ⟨by simp <;> omega, B1⟩
      · have cs := fun w T => Start_any c y 0 11 w (.inr (.inl ⟨ok, hy, rfl, rfl⟩)) hm T
        have ck := fun w T => Check_any c 0 w (.inl ⟨ok, rfl⟩) hm T
        have O : y < 1601 ∨ (1601 ≤ y ∧ 9997 < y) := by omega
        clear ok hm hy
        rcases O with y0 | ⟨y0, y1⟩
        all_goals
          go_enter Tryd.func4, Tryd.ntmps4
          go_wp2_with fail
          refine (alive_ok _ ((tb).alloc (.cells #[.string c.nm, .int .i64 c.k, .int .i64 c.d, .int .i64 c.m, .int .i64 c.s, .int .i64 c.sh, .int .i64 c.p0, .int .i64 c.p1, .int .i64 c.p2, .int .i64 c.cy, .int .i64 c.ex, .int .i64 c.fi, .int .i64 c.la, .int .i64 c.po] 24))).mono ?_
          rintro e w1 ⟨rfl, hb⟩
          have C := (CalIn.new w c 24).kept hb
          have T1 := ((tb).alloc (.cells #[.string c.nm, .int .i64 c.k, .int .i64 c.d, .int .i64 c.m, .int .i64 c.s, .int .i64 c.sh, .int .i64 c.p0, .int .i64 c.p1, .int .i64 c.p2, .int .i64 c.cy, .int .i64 c.ex, .int .i64 c.fi, .int .i64 c.la, .int .i64 c.po] 24)).kept hb
          have B1 := bthen (balloc (Below.refl _ w) (.cells #[.string c.nm, .int .i64 c.k, .int .i64 c.d, .int .i64 c.m, .int .i64 c.s, .int .i64 c.sh, .int .i64 c.p0, .int .i64 c.p1, .int .i64 c.p2, .int .i64 c.cy, .int .i64 c.ex, .int .i64 c.fi, .int .i64 c.la, .int .i64 c.po] 24)) hb
          try simp only [World.size_alloc] at C
          clear hb
          obtain ⟨z0, C_0, C_1, C_2, C_3, C_4, C_5, C_6, C_7, C_8, C_9, C_10, C_11, C_12, C_13⟩ := id C
          go_wp2_with fail
          refine (cs _ (T1)).mono ?_
          rintro e w2 ⟨rfl, hb⟩
          replace C := (C).kept hb
          have T2 := (T1).kept hb
          replace B1 := bthen B1 hb
          clear hb z0 C_0 C_1 C_2 C_3 C_4 C_5 C_6 C_7 C_8 C_9 C_10 C_11 C_12 C_13 T1
          obtain ⟨z0, C_0, C_1, C_2, C_3, C_4, C_5, C_6, C_7, C_8, C_9, C_10, C_11, C_12, C_13⟩ := id C
          go_wp2_with fail
          refine (ck _ (T2)).mono ?_
          rintro e w3 ⟨rfl, hb⟩
          replace C := (C).kept hb
          have T3 := (T2).kept hb
          replace B1 := bthen B1 hb
          clear hb z0 C_0 C_1 C_2 C_3 C_4 C_5 C_6 C_7 C_8 C_9 C_10 C_11 C_12 C_13 T2
          obtain ⟨z0, C_0, C_1, C_2, C_3, C_4, C_5, C_6, C_7, C_8, C_9, C_10, C_11, C_12, C_13⟩ := id C
          go_wp2
          go_ret
          exact ⟨by simp, B1⟩
    · have cs := fun w T => Start_any c y 0 1 w (.inr (.inr ⟨ok, rfl, rfl⟩)) hm T
      have ck := fun w T => Check_any c 1 w (.inr ⟨ok, rfl⟩) hm T
      clear ok hm
      go_enter Tryd.func4, Tryd.ntmps4
      go_wp2_with fail
      refine (alive_ok _ ((tb).alloc (.cells #[.string c.nm, .int .i64 c.k, .int .i64 c.d, .int .i64 c.m, .int .i64 c.s, .int .i64 c.sh, .int .i64 c.p0, .int .i64 c.p1, .int .i64 c.p2, .int .i64 c.cy, .int .i64 c.ex, .int .i64 c.fi, .int .i64 c.la, .int .i64 c.po] 24))).mono ?_
      rintro e w1 ⟨rfl, hb⟩
      have C := (CalIn.new w c 24).kept hb
      have T1 := ((tb).alloc (.cells #[.string c.nm, .int .i64 c.k, .int .i64 c.d, .int .i64 c.m, .int .i64 c.s, .int .i64 c.sh, .int .i64 c.p0, .int .i64 c.p1, .int .i64 c.p2, .int .i64 c.cy, .int .i64 c.ex, .int .i64 c.fi, .int .i64 c.la, .int .i64 c.po] 24)).kept hb
      have B1 := bthen (balloc (Below.refl _ w) (.cells #[.string c.nm, .int .i64 c.k, .int .i64 c.d, .int .i64 c.m, .int .i64 c.s, .int .i64 c.sh, .int .i64 c.p0, .int .i64 c.p1, .int .i64 c.p2, .int .i64 c.cy, .int .i64 c.ex, .int .i64 c.fi, .int .i64 c.la, .int .i64 c.po] 24)) hb
      try simp only [World.size_alloc] at C
      clear hb
      obtain ⟨z0, C_0, C_1, C_2, C_3, C_4, C_5, C_6, C_7, C_8, C_9, C_10, C_11, C_12, C_13⟩ := id C
      go_wp2_with fail
      refine (cs _ (T1)).mono ?_
      rintro e w2 ⟨rfl, hb⟩
      replace C := (C).kept hb
      have T2 := (T1).kept hb
      replace B1 := bthen B1 hb
      clear hb z0 C_0 C_1 C_2 C_3 C_4 C_5 C_6 C_7 C_8 C_9 C_10 C_11 C_12 C_13 T1
      obtain ⟨z0, C_0, C_1, C_2, C_3, C_4, C_5, C_6, C_7, C_8, C_9, C_10, C_11, C_12, C_13⟩ := id C
      go_wp2_with fail
      refine (ck _ (T2)).mono ?_
      rintro e w3 ⟨rfl, hb⟩
      replace C := (C).kept hb
      have T3 := (T2).kept hb
      replace B1 := bthen B1 hb
      clear hb z0 C_0 C_1 C_2 C_3 C_4 C_5 C_6 C_7 C_8 C_9 C_10 C_11 C_12 C_13 T2
      obtain ⟨z0, C_0, C_1, C_2, C_3, C_4, C_5, C_6, C_7, C_8, C_9, C_10, C_11, C_12, C_13⟩ := id C
      go_wp2
      go_ret
      exact ⟨by simp, B1⟩

end Go.Proofs.YtkpjkdeomoecjaaDoor.Al
