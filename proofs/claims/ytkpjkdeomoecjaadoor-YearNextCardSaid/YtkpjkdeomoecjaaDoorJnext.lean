/- YearNext's walk. -/
import Derived.Test.YtkpjkdeomoecjaaDoorJlive
import Derived.Test.YtkpjkdeomoecjaaDoorJlaw
namespace Go.Proofs.YtkpjkdeomoecjaaDoor.Jl
set_option linter.unusedSimpArgs false
set_option linter.unusedVariables false
open Go.RowKit Go.Proofs.YtkpjkdeomoecjaaDoor.Bn Go.Proofs.YtkpjkdeomoecjaaDoor.Am Go.Proofs.YtkpjkdeomoecjaaDoor.Fp Go.Proofs.YtkpjkdeomoecjaaDoor.Ap Go.Proofs.YtkpjkdeomoecjaaDoor.Cm Go.Proofs.YtkpjkdeomoecjaaDoor.Em Go.Proofs.YtkpjkdeomoecjaaDoor.Ep Go.Proofs.YtkpjkdeomoecjaaDoor.Bx Go.Proofs.YtkpjkdeomoecjaaDoor.Pr Go.Proofs.YtkpjkdeomoecjaaDoor.Jp

open Go.Proofs.YtkpjkdeomoecjaaDoor.Cp (Tab Day_any Length_any Weekday_any)

set_option maxHeartbeats 1000000

set_option maxRecDepth 100000 in
theorem jnext_walk (c : CalZ) (n : Int) (w : World) (wf : CalWf c) (wy : (Lit.int .i64 n).wf = true) (tb : FTab w) :
    Calls Tryd.prog 11 #[.agg #[.string c.nm, .int .i64 c.k, .int .i64 c.d, .int .i64 c.m, .int .i64 c.s, .int .i64 c.sh, .int .i64 c.p0, .int .i64 c.p1, .int .i64 c.p2, .int .i64 c.cy, .int .i64 c.ex, .int .i64 c.fi, .int .i64 c.la, .int .i64 c.po], .int .i64 n] w fun e w' => e = .returned (.bool true) ∧ Below w.heap.size w w' := by
  have hm := wf.1
  obtain ⟨wn0, wn1⟩ := bounds_i64 wy
  clear wy
  by_cases hl : 100 < c.nm.size
  · have dl : decide ((100 : Int) < (c.nm.size : Int)) = true := decide_eq_true (by omega)
    clear hl
    go_enter Tryd.func11, Tryd.ntmps11
    go_wp2_with fail
    refine (jlive_ok _ ((tb).alloc (.cells #[.string c.nm, .int .i64 c.k, .int .i64 c.d, .int .i64 c.m, .int .i64 c.s, .int .i64 c.sh, .int .i64 c.p0, .int .i64 c.p1, .int .i64 c.p2, .int .i64 c.cy, .int .i64 c.ex, .int .i64 c.fi, .int .i64 c.la, .int .i64 c.po] 24))).mono ?_
    rintro e w1 ⟨rfl, hb⟩
    have C := (CalIn.new w c 24).kept hb
    have T1 := ((tb).alloc (.cells #[.string c.nm, .int .i64 c.k, .int .i64 c.d, .int .i64 c.m, .int .i64 c.s, .int .i64 c.sh, .int .i64 c.p0, .int .i64 c.p1, .int .i64 c.p2, .int .i64 c.cy, .int .i64 c.ex, .int .i64 c.fi, .int .i64 c.la, .int .i64 c.po] 24)).kept hb
    have B1 := bthen (balloc (Below.refl _ w) (.cells #[.string c.nm, .int .i64 c.k, .int .i64 c.d, .int .i64 c.m, .int .i64 c.s, .int .i64 c.sh, .int .i64 c.p0, .int .i64 c.p1, .int .i64 c.p2, .int .i64 c.cy, .int .i64 c.ex, .int .i64 c.fi, .int .i64 c.la, .int .i64 c.po] 24)) hb
    try simp only [World.size_alloc] at C
    clear hb
    obtain ⟨z0, C_0, C_1, C_2, C_3, C_4, C_5, C_6, C_7, C_8, C_9, C_10, C_11, C_12, C_13⟩ := id C
    go_wp2
    go_ret
    exact ⟨by simp, B1⟩
  · have dl : decide ((100 : Int) < (c.nm.size : Int)) = false := decide_eq_false (by omega)
    clear hl
    by_cases hx : n = 9223372036854775807
    · subst hx
      go_enter Tryd.func11, Tryd.ntmps11
      go_wp2_with fail
      refine (jlive_ok _ ((tb).alloc (.cells #[.string c.nm, .int .i64 c.k, .int .i64 c.d, .int .i64 c.m, .int .i64 c.s, .int .i64 c.sh, .int .i64 c.p0, .int .i64 c.p1, .int .i64 c.p2, .int .i64 c.cy, .int .i64 c.ex, .int .i64 c.fi, .int .i64 c.la, .int .i64 c.po] 24))).mono ?_
      rintro e w1 ⟨rfl, hb⟩
      have C := (CalIn.new w c 24).kept hb
      have T1 := ((tb).alloc (.cells #[.string c.nm, .int .i64 c.k, .int .i64 c.d, .int .i64 c.m, .int .i64 c.s, .int .i64 c.sh, .int .i64 c.p0, .int .i64 c.p1, .int .i64 c.p2, .int .i64 c.cy, .int .i64 c.ex, .int .i64 c.fi, .int .i64 c.la, .int .i64 c.po] 24)).kept hb
      have B1 := bthen (balloc (Below.refl _ w) (.cells #[.string c.nm, .int .i64 c.k, .int .i64 c.d, .int .i64 c.m, .int .i64 c.s, .int .i64 c.sh, .int .i64 c.p0, .int .i64 c.p1, .int .i64 c.p2, .int .i64 c.cy, .int .i64 c.ex, .int .i64 c.fi, .int .i64 c.la, .int .i64 c.po] 24)) hb
      try simp only [World.size_alloc] at C
      clear hb
      obtain ⟨z0, C_0, C_1, C_2, C_3, C_4, C_5, C_6, C_7, C_8, C_9, C_10, C_11, C_12, C_13⟩ := id C
      go_wp2
      go_ret
      exact ⟨by simp, B1⟩
    · have kx : (n == 9223372036854775807) = false := beq_eq_false_iff_ne.2 hx
      have hw : IntKind.i64.wrap (n + 1) = n + 1 := by rw [IntWalk.i64_in _ (by omega)]
      obtain ⟨y, er, R⟩ := ofa_ex c n
      have co := fun w T => Of_any c n y er w R hm T
      by_cases he : er = 0
      · subst he
        obtain ⟨ok, n0, n1, y0, y1, ya, yb⟩ : CalOk c ∧ 0 ≤ n ∧ n ≤ 3068036 ∧ 1601 ≤ y ∧ y ≤ 9997 ∧ yend c (y - 1) < n ∧ n ≤ yend c y := by
          rcases R with ⟨a1, a2, a3, a4, a5, a6, a7, _⟩ | ⟨_, _, _, _, _, h⟩ | ⟨_, _, _, h⟩ | ⟨_, _, h⟩
          · exact ⟨a1, a2, a3, a4, a5, a6, a7⟩
          · exact absurd h (by decide)
          · exact absurd h (by decide)
          · exact absurd h (by decide)
        obtain ⟨a, ha⟩ : ∃ a, a = yend c (y - 1) := ⟨_, rfl⟩
        obtain ⟨b, hb'⟩ : ∃ b, b = yend c y := ⟨_, rfl⟩
        have bd := yend_bd ok.1 (y := y - 1) (by omega) (by omega)
        have bz := yend_bd ok.1 (y := y) (by omega) y1
        have cn := fun w T => Nth_any c n (n - a) 0 w ⟨y, R, fun _ => by rw [ha], fun h => absurd rfl h⟩ hm T
        have cd := fun w T => Days_any c y (b - a) 0 w (.inl ⟨ok, y0, y1, by rw [ha, hb'], rfl⟩) hm T
        have O := next_year ok n0 y0 y1 ya yb
        rw [← ha] at ya bd
        rw [← hb'] at yb bz
        obtain ⟨a0, a1⟩ := bd
        obtain ⟨b0, b1⟩ := bz
        rcases O with ⟨h1, R2⟩ | ⟨h1, h2, R2⟩ | ⟨h1, h2, e2, h3, R2⟩
        · have cp := fun w T => Of_any c (n + 1) y 0 w R2 hm T
          have cm := fun w T => Nth_any c (n + 1) (n + 1 - a) 0 w ⟨y, R2, fun _ => by rw [ha], fun h => absurd rfl h⟩ hm T
          rw [← hb'] at h1
          clear ha hb' ok R R2 hm hx
          go_enter Tryd.func11, Tryd.ntmps11
          go_wp2_with fail
          refine (jlive_ok _ ((tb).alloc (.cells #[.string c.nm, .int .i64 c.k, .int .i64 c.d, .int .i64 c.m, .int .i64 c.s, .int .i64 c.sh, .int .i64 c.p0, .int .i64 c.p1, .int .i64 c.p2, .int .i64 c.cy, .int .i64 c.ex, .int .i64 c.fi, .int .i64 c.la, .int .i64 c.po] 24))).mono ?_
          rintro e w1 ⟨rfl, hb⟩
          have C := (CalIn.new w c 24).kept hb
          have T1 := ((tb).alloc (.cells #[.string c.nm, .int .i64 c.k, .int .i64 c.d, .int .i64 c.m, .int .i64 c.s, .int .i64 c.sh, .int .i64 c.p0, .int .i64 c.p1, .int .i64 c.p2, .int .i64 c.cy, .int .i64 c.ex, .int .i64 c.fi, .int .i64 c.la, .int .i64 c.po] 24)).kept hb
          have B1 := bthen (balloc (Below.refl _ w) (.cells #[.string c.nm, .int .i64 c.k, .int .i64 c.d, .int .i64 c.m, .int .i64 c.s, .int .i64 c.sh, .int .i64 c.p0, .int .i64 c.p1, .int .i64 c.p2, .int .i64 c.cy, .int .i64 c.ex, .int .i64 c.fi, .int .i64 c.la, .int .i64 c.po] 24)) hb
          try simp only [World.size_alloc] at C
          clear hb
          obtain ⟨z0, C_0, C_1, C_2, C_3, C_4, C_5, C_6, C_7, C_8, C_9, C_10, C_11, C_12, C_13⟩ := id C
          go_wp2_with fail
          refine (co _ (T1)).mono ?_
          rintro e w2 ⟨rfl, hb⟩
          replace C := (C).kept hb
          have T2 := (T1).kept hb
          replace B1 := bthen B1 hb
          clear hb z0 C_0 C_1 C_2 C_3 C_4 C_5 C_6 C_7 C_8 C_9 C_10 C_11 C_12 C_13 T1
          obtain ⟨z0, C_0, C_1, C_2, C_3, C_4, C_5, C_6, C_7, C_8, C_9, C_10, C_11, C_12, C_13⟩ := id C
          go_wp2_with fail
          refine (cp _ (T2)).mono ?_
          rintro e w3 ⟨rfl, hb⟩
          replace C := (C).kept hb
          have T3 := (T2).kept hb
          replace B1 := bthen B1 hb
          clear hb z0 C_0 C_1 C_2 C_3 C_4 C_5 C_6 C_7 C_8 C_9 C_10 C_11 C_12 C_13 T2
          obtain ⟨z0, C_0, C_1, C_2, C_3, C_4, C_5, C_6, C_7, C_8, C_9, C_10, C_11, C_12, C_13⟩ := id C
          go_wp2_with fail
          refine (cn _ (T3)).mono ?_
          rintro e w4 ⟨rfl, hb⟩
          replace C := (C).kept hb
          have T4 := (T3).kept hb
          replace B1 := bthen B1 hb
          clear hb z0 C_0 C_1 C_2 C_3 C_4 C_5 C_6 C_7 C_8 C_9 C_10 C_11 C_12 C_13 T3
          obtain ⟨z0, C_0, C_1, C_2, C_3, C_4, C_5, C_6, C_7, C_8, C_9, C_10, C_11, C_12, C_13⟩ := id C
          go_wp2_with fail
          refine (cd _ (T4)).mono ?_
          rintro e w5 ⟨rfl, hb⟩
          replace C := (C).kept hb
          have T5 := (T4).kept hb
          replace B1 := bthen B1 hb
          clear hb z0 C_0 C_1 C_2 C_3 C_4 C_5 C_6 C_7 C_8 C_9 C_10 C_11 C_12 C_13 T4
          obtain ⟨z0, C_0, C_1, C_2, C_3, C_4, C_5, C_6, C_7, C_8, C_9, C_10, C_11, C_12, C_13⟩ := id C
          go_wp2_with fail
          refine (cm _ (T5)).mono ?_
          rintro e w6 ⟨rfl, hb⟩
          replace C := (C).kept hb
          have T6 := (T5).kept hb
          replace B1 := bthen B1 hb
          clear hb z0 C_0 C_1 C_2 C_3 C_4 C_5 C_6 C_7 C_8 C_9 C_10 C_11 C_12 C_13 T5
          obtain ⟨z0, C_0, C_1, C_2, C_3, C_4, C_5, C_6, C_7, C_8, C_9, C_10, C_11, C_12, C_13⟩ := id C
          go_wp2
          go_ret
          exact ⟨by simp <;> omega, B1⟩
        · have cp := fun w T => Of_any c (n + 1) (y + 1) 0 w R2 hm T
          have cm := fun w T => Nth_any c (n + 1) 1 0 w ⟨y + 1, R2, fun _ => by rw [show y + 1 - 1 = y by omega]; omega, fun h => absurd rfl h⟩ hm T
          rw [← hb'] at h1
          clear ha hb' ok R R2 hm hx
          subst h1
          go_enter Tryd.func11, Tryd.ntmps11
          go_wp2_with fail
          refine (jlive_ok _ ((tb).alloc (.cells #[.string c.nm, .int .i64 c.k, .int .i64 c.d, .int .i64 c.m, .int .i64 c.s, .int .i64 c.sh, .int .i64 c.p0, .int .i64 c.p1, .int .i64 c.p2, .int .i64 c.cy, .int .i64 c.ex, .int .i64 c.fi, .int .i64 c.la, .int .i64 c.po] 24))).mono ?_
          rintro e w1 ⟨rfl, hb⟩
          have C := (CalIn.new w c 24).kept hb
          have T1 := ((tb).alloc (.cells #[.string c.nm, .int .i64 c.k, .int .i64 c.d, .int .i64 c.m, .int .i64 c.s, .int .i64 c.sh, .int .i64 c.p0, .int .i64 c.p1, .int .i64 c.p2, .int .i64 c.cy, .int .i64 c.ex, .int .i64 c.fi, .int .i64 c.la, .int .i64 c.po] 24)).kept hb
          have B1 := bthen (balloc (Below.refl _ w) (.cells #[.string c.nm, .int .i64 c.k, .int .i64 c.d, .int .i64 c.m, .int .i64 c.s, .int .i64 c.sh, .int .i64 c.p0, .int .i64 c.p1, .int .i64 c.p2, .int .i64 c.cy, .int .i64 c.ex, .int .i64 c.fi, .int .i64 c.la, .int .i64 c.po] 24)) hb
          try simp only [World.size_alloc] at C
          clear hb
          obtain ⟨z0, C_0, C_1, C_2, C_3, C_4, C_5, C_6, C_7, C_8, C_9, C_10, C_11, C_12, C_13⟩ := id C
          go_wp2_with fail
          refine (co _ (T1)).mono ?_
          rintro e w2 ⟨rfl, hb⟩
          replace C := (C).kept hb
          have T2 := (T1).kept hb
          replace B1 := bthen B1 hb
          clear hb z0 C_0 C_1 C_2 C_3 C_4 C_5 C_6 C_7 C_8 C_9 C_10 C_11 C_12 C_13 T1
          obtain ⟨z0, C_0, C_1, C_2, C_3, C_4, C_5, C_6, C_7, C_8, C_9, C_10, C_11, C_12, C_13⟩ := id C
          go_wp2_with fail
          refine (cp _ (T2)).mono ?_
          rintro e w3 ⟨rfl, hb⟩
          replace C := (C).kept hb
          have T3 := (T2).kept hb
          replace B1 := bthen B1 hb
          clear hb z0 C_0 C_1 C_2 C_3 C_4 C_5 C_6 C_7 C_8 C_9 C_10 C_11 C_12 C_13 T2
          obtain ⟨z0, C_0, C_1, C_2, C_3, C_4, C_5, C_6, C_7, C_8, C_9, C_10, C_11, C_12, C_13⟩ := id C
          go_wp2_with fail
          refine (cn _ (T3)).mono ?_
          rintro e w4 ⟨rfl, hb⟩
          replace C := (C).kept hb
          have T4 := (T3).kept hb
          replace B1 := bthen B1 hb
          clear hb z0 C_0 C_1 C_2 C_3 C_4 C_5 C_6 C_7 C_8 C_9 C_10 C_11 C_12 C_13 T3
          obtain ⟨z0, C_0, C_1, C_2, C_3, C_4, C_5, C_6, C_7, C_8, C_9, C_10, C_11, C_12, C_13⟩ := id C
          go_wp2_with fail
          refine (cd _ (T4)).mono ?_
          rintro e w5 ⟨rfl, hb⟩
          replace C := (C).kept hb
          have T5 := (T4).kept hb
          replace B1 := bthen B1 hb
          clear hb z0 C_0 C_1 C_2 C_3 C_4 C_5 C_6 C_7 C_8 C_9 C_10 C_11 C_12 C_13 T4
          obtain ⟨z0, C_0, C_1, C_2, C_3, C_4, C_5, C_6, C_7, C_8, C_9, C_10, C_11, C_12, C_13⟩ := id C
          go_wp2_with fail
          refine (cm _ (T5)).mono ?_
          rintro e w6 ⟨rfl, hb⟩
          replace C := (C).kept hb
          have T6 := (T5).kept hb
          replace B1 := bthen B1 hb
          clear hb z0 C_0 C_1 C_2 C_3 C_4 C_5 C_6 C_7 C_8 C_9 C_10 C_11 C_12 C_13 T5
          obtain ⟨z0, C_0, C_1, C_2, C_3, C_4, C_5, C_6, C_7, C_8, C_9, C_10, C_11, C_12, C_13⟩ := id C
          go_wp2
          go_ret
          exact ⟨by simp <;> omega, B1⟩
        · have cp := fun w T => Of_any c (n + 1) 0 e2 w R2 hm T
          have k2 : (e2 != 0) = true := bne_iff_ne.2 h3
          rw [← hb'] at h1
          clear ha hb' ok R R2 hm hx h3
          subst h1 h2
          go_enter Tryd.func11, Tryd.ntmps11
          go_wp2_with fail
          refine (jlive_ok _ ((tb).alloc (.cells #[.string c.nm, .int .i64 c.k, .int .i64 c.d, .int .i64 c.m, .int .i64 c.s, .int .i64 c.sh, .int .i64 c.p0, .int .i64 c.p1, .int .i64 c.p2, .int .i64 c.cy, .int .i64 c.ex, .int .i64 c.fi, .int .i64 c.la, .int .i64 c.po] 24))).mono ?_
          rintro e w1 ⟨rfl, hb⟩
          have C := (CalIn.new w c 24).kept hb
          have T1 := ((tb).alloc (.cells #[.string c.nm, .int .i64 c.k, .int .i64 c.d, .int .i64 c.m, .int .i64 c.s, .int .i64 c.sh, .int .i64 c.p0, .int .i64 c.p1, .int .i64 c.p2, .int .i64 c.cy, .int .i64 c.ex, .int .i64 c.fi, .int .i64 c.la, .int .i64 c.po] 24)).kept hb
          have B1 := bthen (balloc (Below.refl _ w) (.cells #[.string c.nm, .int .i64 c.k, .int .i64 c.d, .int .i64 c.m, .int .i64 c.s, .int .i64 c.sh, .int .i64 c.p0, .int .i64 c.p1, .int .i64 c.p2, .int .i64 c.cy, .int .i64 c.ex, .int .i64 c.fi, .int .i64 c.la, .int .i64 c.po] 24)) hb
          try simp only [World.size_alloc] at C
          clear hb
          obtain ⟨z0, C_0, C_1, C_2, C_3, C_4, C_5, C_6, C_7, C_8, C_9, C_10, C_11, C_12, C_13⟩ := id C
          go_wp2_with fail
          refine (co _ (T1)).mono ?_
          rintro e w2 ⟨rfl, hb⟩
          replace C := (C).kept hb
          have T2 := (T1).kept hb
          replace B1 := bthen B1 hb
          clear hb z0 C_0 C_1 C_2 C_3 C_4 C_5 C_6 C_7 C_8 C_9 C_10 C_11 C_12 C_13 T1
          obtain ⟨z0, C_0, C_1, C_2, C_3, C_4, C_5, C_6, C_7, C_8, C_9, C_10, C_11, C_12, C_13⟩ := id C
          go_wp2_with fail
          refine (cp _ (T2)).mono ?_
          rintro e w3 ⟨rfl, hb⟩
          replace C := (C).kept hb
          have T3 := (T2).kept hb
          replace B1 := bthen B1 hb
          clear hb z0 C_0 C_1 C_2 C_3 C_4 C_5 C_6 C_7 C_8 C_9 C_10 C_11 C_12 C_13 T2
          obtain ⟨z0, C_0, C_1, C_2, C_3, C_4, C_5, C_6, C_7, C_8, C_9, C_10, C_11, C_12, C_13⟩ := id C
          go_wp2_with fail
          refine (cn _ (T3)).mono ?_
          rintro e w4 ⟨rfl, hb⟩
          replace C := (C).kept hb
          have T4 := (T3).kept hb
          replace B1 := bthen B1 hb
          clear hb z0 C_0 C_1 C_2 C_3 C_4 C_5 C_6 C_7 C_8 C_9 C_10 C_11 C_12 C_13 T3
          obtain ⟨z0, C_0, C_1, C_2, C_3, C_4, C_5, C_6, C_7, C_8, C_9, C_10, C_11, C_12, C_13⟩ := id C
          go_wp2_with fail
          refine (cd _ (T4)).mono ?_
          rintro e w5 ⟨rfl, hb⟩
          replace C := (C).kept hb
          have T5 := (T4).kept hb
          replace B1 := bthen B1 hb
          clear hb z0 C_0 C_1 C_2 C_3 C_4 C_5 C_6 C_7 C_8 C_9 C_10 C_11 C_12 C_13 T4
          obtain ⟨z0, C_0, C_1, C_2, C_3, C_4, C_5, C_6, C_7, C_8, C_9, C_10, C_11, C_12, C_13⟩ := id C
          go_wp2
          go_ret
          exact ⟨by simp <;> omega, B1⟩
      · have k0 : (er != 0) = true := bne_iff_ne.2 he
        obtain rfl : y = 0 := by
          rcases ofa_cases R with ⟨h, _⟩ | ⟨h, _⟩ | ⟨h, _⟩ | ⟨h, _⟩
          · exact absurd h he
          · exact h
          · exact h
          · exact h
        obtain ⟨z, e2, R2⟩ := ofa_ex c (n + 1)
        have cp := fun w T => Of_any c (n + 1) z e2 w R2 hm T
        clear R R2 hm he hx
        go_enter Tryd.func11, Tryd.ntmps11
        go_wp2_with fail
        refine (jlive_ok _ ((tb).alloc (.cells #[.string c.nm, .int .i64 c.k, .int .i64 c.d, .int .i64 c.m, .int .i64 c.s, .int .i64 c.sh, .int .i64 c.p0, .int .i64 c.p1, .int .i64 c.p2, .int .i64 c.cy, .int .i64 c.ex, .int .i64 c.fi, .int .i64 c.la, .int .i64 c.po] 24))).mono ?_
        rintro e w1 ⟨rfl, hb⟩
        have C := (CalIn.new w c 24).kept hb
        have T1 := ((tb).alloc (.cells #[.string c.nm, .int .i64 c.k, .int .i64 c.d, .int .i64 c.m, .int .i64 c.s, .int .i64 c.sh, .int .i64 c.p0, .int .i64 c.p1, .int .i64 c.p2, .int .i64 c.cy, .int .i64 c.ex, .int .i64 c.fi, .int .i64 c.la, .int .i64 c.po] 24)).kept hb
        have B1 := bthen (balloc (Below.refl _ w) (.cells #[.string c.nm, .int .i64 c.k, .int .i64 c.d, .int .i64 c.m, .int .i64 c.s, .int .i64 c.sh, .int .i64 c.p0, .int .i64 c.p1, .int .i64 c.p2, .int .i64 c.cy, .int .i64 c.ex, .int .i64 c.fi, .int .i64 c.la, .int .i64 c.po] 24)) hb
        try simp only [World.size_alloc] at C
        clear hb
        obtain ⟨z0, C_0, C_1, C_2, C_3, C_4, C_5, C_6, C_7, C_8, C_9, C_10, C_11, C_12, C_13⟩ := id C
        go_wp2_with fail
        refine (co _ (T1)).mono ?_
        rintro e w2 ⟨rfl, hb⟩
        replace C := (C).kept hb
        have T2 := (T1).kept hb
        replace B1 := bthen B1 hb
        clear hb z0 C_0 C_1 C_2 C_3 C_4 C_5 C_6 C_7 C_8 C_9 C_10 C_11 C_12 C_13 T1
        obtain ⟨z0, C_0, C_1, C_2, C_3, C_4, C_5, C_6, C_7, C_8, C_9, C_10, C_11, C_12, C_13⟩ := id C
        go_wp2_with fail
        refine (cp _ (T2)).mono ?_
        rintro e w3 ⟨rfl, hb⟩
        replace C := (C).kept hb
        have T3 := (T2).kept hb
        replace B1 := bthen B1 hb
        clear hb z0 C_0 C_1 C_2 C_3 C_4 C_5 C_6 C_7 C_8 C_9 C_10 C_11 C_12 C_13 T2
        obtain ⟨z0, C_0, C_1, C_2, C_3, C_4, C_5, C_6, C_7, C_8, C_9, C_10, C_11, C_12, C_13⟩ := id C
        go_wp2
        go_ret
        exact ⟨by simp <;> omega, B1⟩

end Go.Proofs.YtkpjkdeomoecjaaDoor.Jl
