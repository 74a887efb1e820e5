/- UnitWeeks's walk. -/
import Derived.Test.YtidemknapbkeiaaDoorIdown
namespace Go.Proofs.YtidemknapbkeiaaDoor.Il
set_option linter.unusedSimpArgs false
set_option linter.unusedVariables false
open Go.RowKit Go.Proofs.YtidemknapbkeiaaDoor.Bn Go.Proofs.YtidemknapbkeiaaDoor.Bx Go.Proofs.YtidemknapbkeiaaDoor.Cp Go.Proofs.YtidemknapbkeiaaDoor.Am Go.Proofs.YtidemknapbkeiaaDoor.Fp Go.Proofs.YtidemknapbkeiaaDoor.Ap Go.Proofs.YtidemknapbkeiaaDoor.Cm Go.Proofs.YtidemknapbkeiaaDoor.Em Go.Proofs.YtidemknapbkeiaaDoor.Ep Go.Proofs.YtidemknapbkeiaaDoor.Rk Go.Proofs.YtidemknapbkeiaaDoor.Hp Go.Proofs.YtidemknapbkeiaaDoor.Ip

set_option maxHeartbeats 16000000

set_option maxRecDepth 100000 in
theorem iweeks_walk (c : CalZ) (L y i : Int) (w : World) (wf : CalWf c) (wL : (Lit.int .i64 L).wf = true) (wy : (Lit.int .i64 y).wf = true) (wi : (Lit.int .i64 i).wf = true) (tb : FTab w) :
    Calls Tryd.prog 13 #[.agg #[.string c.nm, .int .i64 c.k, .int .i64 c.d, .int .i64 c.m, .int .i64 c.s, .int .i64 c.sh, .int .i64 c.p0, .int .i64 c.p1, .int .i64 c.p2, .int .i64 c.cy, .int .i64 c.ex, .int .i64 c.fi, .int .i64 c.la, .int .i64 c.po], .agg #[.int .i64 L, .int .i64 y, .int .i64 i]] w fun e w' => e = .returned (.bool true) ∧ Below w.heap.size w w' := by
  have T := tb
  have C := CalIn.new w c 24
  have B := balloc (Below.refl _ w) (.cells #[.string c.nm, .int .i64 c.k, .int .i64 c.d, .int .i64 c.m, .int .i64 c.s, .int .i64 c.sh, .int .i64 c.p0, .int .i64 c.p1, .int .i64 c.p2, .int .i64 c.cy, .int .i64 c.ex, .int .i64 c.fi, .int .i64 c.la, .int .i64 c.po] 24)
  replace T := T.alloc (.cells #[.string c.nm, .int .i64 c.k, .int .i64 c.d, .int .i64 c.m, .int .i64 c.s, .int .i64 c.sh, .int .i64 c.p0, .int .i64 c.p1, .int .i64 c.p2, .int .i64 c.cy, .int .i64 c.ex, .int .i64 c.fi, .int .i64 c.la, .int .i64 c.po] 24)
  have U := Go.Proofs.YtidemknapbkeiaaDoor.Bx.Tri.new (w.alloc (.cells #[.string c.nm, .int .i64 c.k, .int .i64 c.d, .int .i64 c.m, .int .i64 c.s, .int .i64 c.sh, .int .i64 c.p0, .int .i64 c.p1, .int .i64 c.p2, .int .i64 c.cy, .int .i64 c.ex, .int .i64 c.fi, .int .i64 c.la, .int .i64 c.po] 24)) (.int .i64 L) (.int .i64 y) (.int .i64 i) 49
  rw [World.size_alloc] at U
  replace C := C.alloc (.cells #[.int .i64 L, .int .i64 y, .int .i64 i] 49)
  replace B := balloc B (.cells #[.int .i64 L, .int .i64 y, .int .i64 i] 49)
  replace T := T.alloc (.cells #[.int .i64 L, .int .i64 y, .int .i64 i] 49)
  have hm := wf.1
  by_cases hl : 100 < c.nm.size
  · have dl : decide ((100 : Int) < (c.nm.size : Int)) = true := decide_eq_true (by omega)
    clear hl
    go_enter Tryd.func13, Tryd.ntmps13
    go_upto_region 1 with fail
    generalize (w.alloc (.cells #[.string c.nm, .int .i64 c.k, .int .i64 c.d, .int .i64 c.m, .int .i64 c.s, .int .i64 c.sh, .int .i64 c.p0, .int .i64 c.p1, .int .i64 c.p2, .int .i64 c.cy, .int .i64 c.ex, .int .i64 c.fi, .int .i64 c.la, .int .i64 c.po] 24)).alloc (.cells #[.int .i64 L, .int .i64 y, .int .i64 i] 49) = W0 at *
    obtain ⟨_, c0, c1, c2, c3, c4, c5, c6, c7, c8, c9, c10, c11, c12, c13⟩ := id C
    obtain ⟨_, u0, u1, u2, fu0, fu1, fu2⟩ := id U
    go_wp2_with fail
    refine (ilive_ok _ T).mono ?_
    rintro e w1 ⟨rfl, hb⟩
    replace C := C.kept hb
    replace B := bthen B hb
    replace T := T.kept hb
    replace U := U.kept hb
    clear hb c0 c1 c2 c3 c4 c5 c6 c7 c8 c9 c10 c11 c12 c13 u0 u1 u2 fu0 fu1 fu2
    obtain ⟨_, c0, c1, c2, c3, c4, c5, c6, c7, c8, c9, c10, c11, c12, c13⟩ := id C
    obtain ⟨_, u0, u1, u2, fu0, fu1, fu2⟩ := id U
    go_wp2
    go_ret
    exact ⟨by simp <;> omega, B⟩
  have dl : decide ((100 : Int) < (c.nm.size : Int)) = false := decide_eq_false (by omega)
  clear hl
  by_cases hL : L = 5
  · subst hL
    obtain ⟨a, b, e1, S1⟩ := spana_ex c 5 y i
    have cs := fun w T => Span_any c 5 y i a b e1 w S1 hm T
    rcases S1 with ⟨uo, ha, hb', rfl⟩ | ⟨no, ck, rfl, rfl⟩
    · have ud := unit_days uo
      have k := uo.1.1
      have uc := ucount_is c y
      obtain ⟨_, dd, _, y0, y1, _, _⟩ := ud
      have i0 := uo.2.2.2.1
      have i1 := uo.2.2.2.2
      rw [uc.2.2.2.2] at i1
      rw [uend_5] at ha hb'
      have nb := nwk_bd k y0 y1
      have pb := per_bd k
      have bd0 := pend_bd k y0 y1 (p := 0) (by omega) (by omega)
      by_cases k6 : c.k = 6
      · obtain ⟨P, hP, w0, w1', x1, x2, x3, _⟩ := wend_step k y0 y1 i0 i1
        have pe := perN_is k
        have w00 := wsum_step k y0 y1 (a := 0) (b := P) (by omega) (by omega)
        rw [show wsum c y 0 = 0 from rfl] at w00
        obtain ⟨p, hp⟩ : ∃ p, p = pend c y (P : Int) + 1 := ⟨_, rfl⟩
        obtain ⟨t, ht⟩ : ∃ t, t = pend c y ((P : Int) + 1) := ⟨_, rfl⟩
        obtain ⟨j, hj⟩ : ∃ j, j = i - 1 - wsum c y P := ⟨_, rfl⟩
        have bdp := pend_bd k y0 y1 (p := (P : Int)) (by omega) (by omega)
        have bdt := pend_bd k y0 y1 (p := (P : Int) + 1) (by omega) (by omega)
        have cu := fun w T => Up_any c 5 y i 4 4 y ((P : Int) + 1) 0 w (.inl ⟨uo, by omega, by omega, ⟨by omega, by rw [uc.2.2.2.1]; omega, by rw [uend_4, uend_5, show (P : Int) + 1 - 1 = P by omega]; omega, by rw [uend_4, uend_5]; omega⟩, rfl, rfl, rfl⟩) hm T
        have cp := fun w T => Span_any c 4 y ((P : Int) + 1) p t 0 w (.inl ⟨⟨uo.1, ⟨by omega, by omega⟩, uo.2.2.1, by omega, by rw [uc.2.2.2.1]; omega⟩, by rw [uend_4, show (P : Int) + 1 - 1 = P by omega]; exact hp, by rw [uend_4]; exact ht, rfl⟩) hm T
        have e6 : (c.k != 6) = false := by rw [k6]; rfl
        have ea : a = p + 7 * j := by rw [ha, x1, hp, hj]; omega
        have O : (b = a + 6 ∧ a + 6 ≤ t) ∨ (b = t ∧ a ≤ t ∧ t < a + 6) := by omega
        obtain ⟨p0, p1⟩ : 0 ≤ p ∧ p ≤ 3068037 := by omega
        obtain ⟨j0, j1⟩ : 0 ≤ j ∧ j ≤ 60 := by omega
        obtain ⟨q1, q2⟩ : 0 ≤ (P : Int) ∧ (P : Int) ≤ 60 := by omega
        obtain ⟨r1, r2⟩ : 0 ≤ t ∧ t ≤ 3068037 := by omega
        clear uo k uc ha hb' nb pb bd0 k6 hP w00 w0 w1' x1 x2 x3 pe hp ht hj bdp bdt i0 i1 dd y0 y1
        subst ea
        have em : (p + 7 * j - p).tmod 7 = 0 := by rw [show p + 7 * j - p = 7 * j by omega]; exact Int.mul_tmod_right 7 j
        have em2 : (p + 7 * j - p) % 7 = 0 := by omega
        have OH := Lib.hid O
        obtain ⟨b0, b1⟩ : p + 7 * j ≤ b ∧ b ≤ p + 7 * j + 6 := by omega
        clear O
        go_enter Tryd.func13, Tryd.ntmps13
        go_upto_region 1 with fail
        generalize (w.alloc (.cells #[.string c.nm, .int .i64 c.k, .int .i64 c.d, .int .i64 c.m, .int .i64 c.s, .int .i64 c.sh, .int .i64 c.p0, .int .i64 c.p1, .int .i64 c.p2, .int .i64 c.cy, .int .i64 c.ex, .int .i64 c.fi, .int .i64 c.la, .int .i64 c.po] 24)).alloc (.cells #[.int .i64 5, .int .i64 y, .int .i64 i] 49) = W0 at *
        obtain ⟨_, c0, c1, c2, c3, c4, c5, c6, c7, c8, c9, c10, c11, c12, c13⟩ := id C
        obtain ⟨_, u0, u1, u2, fu0, fu1, fu2⟩ := id U
        go_wp2_with fail
        refine (ilive_ok _ T).mono ?_
        rintro e w2 ⟨rfl, hb⟩
        replace C := C.kept hb
        replace B := bthen B hb
        replace T := T.kept hb
        replace U := U.kept hb
        clear hb c0 c1 c2 c3 c4 c5 c6 c7 c8 c9 c10 c11 c12 c13 u0 u1 u2 fu0 fu1 fu2
        obtain ⟨_, c0, c1, c2, c3, c4, c5, c6, c7, c8, c9, c10, c11, c12, c13⟩ := id C
        obtain ⟨_, u0, u1, u2, fu0, fu1, fu2⟩ := id U
        go_wp2_with fail
        refine (cs _ T).mono ?_
        rintro e w3 ⟨rfl, hb⟩
        replace C := C.kept hb
        replace B := bthen B hb
        replace T := T.kept hb
        replace U := U.kept hb
        clear hb c0 c1 c2 c3 c4 c5 c6 c7 c8 c9 c10 c11 c12 c13 u0 u1 u2 fu0 fu1 fu2
        obtain ⟨_, c0, c1, c2, c3, c4, c5, c6, c7, c8, c9, c10, c11, c12, c13⟩ := id C
        obtain ⟨_, u0, u1, u2, fu0, fu1, fu2⟩ := id U
        have S := Go.Proofs.YtidemknapbkeiaaDoor.Pr.Two.new w3 (.int .i64 (p + 7 * j)) (.int .i64 b) 45
        replace C := C.alloc (.cells #[.int .i64 (p + 7 * j), .int .i64 b] 45)
        replace T := T.alloc (.cells #[.int .i64 (p + 7 * j), .int .i64 b] 45)
        replace U := U.alloc (.cells #[.int .i64 (p + 7 * j), .int .i64 b] 45)
        replace B := balloc B (.cells #[.int .i64 (p + 7 * j), .int .i64 b] 45)
        clear c0 c1 c2 c3 c4 c5 c6 c7 c8 c9 c10 c11 c12 c13 u0 u1 u2 fu0 fu1 fu2
        obtain ⟨_, c0, c1, c2, c3, c4, c5, c6, c7, c8, c9, c10, c11, c12, c13⟩ := id C
        obtain ⟨_, u0, u1, u2, fu0, fu1, fu2⟩ := id U
        obtain ⟨_, s0, s1, fs0, fs1⟩ := id S
        go_wp2_with fail
        refine (cu _ T).mono ?_
        rintro e w4 ⟨rfl, hb⟩
        replace C := C.kept hb
        replace B := bthen B hb
        replace T := T.kept hb
        replace U := U.kept hb
        replace S := S.kept hb
        clear hb c0 c1 c2 c3 c4 c5 c6 c7 c8 c9 c10 c11 c12 c13 u0 u1 u2 fu0 fu1 fu2 s0 s1 fs0 fs1
        obtain ⟨_, c0, c1, c2, c3, c4, c5, c6, c7, c8, c9, c10, c11, c12, c13⟩ := id C
        obtain ⟨_, u0, u1, u2, fu0, fu1, fu2⟩ := id U
        obtain ⟨_, s0, s1, fs0, fs1⟩ := id S
        have V := Go.Proofs.YtidemknapbkeiaaDoor.Bx.Tri.new w4 (.int .i64 4) (.int .i64 y) (.int .i64 ((P : Int) + 1)) 49
        replace C := C.alloc (.cells #[.int .i64 4, .int .i64 y, .int .i64 ((P : Int) + 1)] 49)
        replace T := T.alloc (.cells #[.int .i64 4, .int .i64 y, .int .i64 ((P : Int) + 1)] 49)
        replace U := U.alloc (.cells #[.int .i64 4, .int .i64 y, .int .i64 ((P : Int) + 1)] 49)
        replace S := S.alloc (.cells #[.int .i64 4, .int .i64 y, .int .i64 ((P : Int) + 1)] 49)
        replace B := balloc B (.cells #[.int .i64 4, .int .i64 y, .int .i64 ((P : Int) + 1)] 49)
        clear c0 c1 c2 c3 c4 c5 c6 c7 c8 c9 c10 c11 c12 c13 u0 u1 u2 fu0 fu1 fu2 s0 s1 fs0 fs1
        obtain ⟨_, c0, c1, c2, c3, c4, c5, c6, c7, c8, c9, c10, c11, c12, c13⟩ := id C
        obtain ⟨_, u0, u1, u2, fu0, fu1, fu2⟩ := id U
        obtain ⟨_, s0, s1, fs0, fs1⟩ := id S
        obtain ⟨_, v0, v1, v2, fv0, fv1, fv2⟩ := id V
        go_wp2_with fail
        refine (cp _ T).mono ?_
        rintro e w5 ⟨rfl, hb⟩
        replace C := C.kept hb
        replace B := bthen B hb
        replace T := T.kept hb
        replace U := U.kept hb
        replace S := S.kept hb
        replace V := V.kept hb
        clear hb c0 c1 c2 c3 c4 c5 c6 c7 c8 c9 c10 c11 c12 c13 u0 u1 u2 fu0 fu1 fu2 s0 s1 fs0 fs1 v0 v1 v2 fv0 fv1 fv2
        obtain ⟨_, c0, c1, c2, c3, c4, c5, c6, c7, c8, c9, c10, c11, c12, c13⟩ := id C
        obtain ⟨_, u0, u1, u2, fu0, fu1, fu2⟩ := id U
        obtain ⟨_, s0, s1, fs0, fs1⟩ := id S
        obtain ⟨_, v0, v1, v2, fv0, fv1, fv2⟩ := id V
        have D := Go.Proofs.YtidemknapbkeiaaDoor.Pr.Two.new w5 (.int .i64 p) (.int .i64 t) 45
        replace C := C.alloc (.cells #[.int .i64 p, .int .i64 t] 45)
        replace T := T.alloc (.cells #[.int .i64 p, .int .i64 t] 45)
        replace U := U.alloc (.cells #[.int .i64 p, .int .i64 t] 45)
        replace S := S.alloc (.cells #[.int .i64 p, .int .i64 t] 45)
        replace V := V.alloc (.cells #[.int .i64 p, .int .i64 t] 45)
        replace B := balloc B (.cells #[.int .i64 p, .int .i64 t] 45)
        clear c0 c1 c2 c3 c4 c5 c6 c7 c8 c9 c10 c11 c12 c13 u0 u1 u2 fu0 fu1 fu2 s0 s1 fs0 fs1 v0 v1 v2 fv0 fv1 fv2
        obtain ⟨_, c0, c1, c2, c3, c4, c5, c6, c7, c8, c9, c10, c11, c12, c13⟩ := id C
        obtain ⟨_, u0, u1, u2, fu0, fu1, fu2⟩ := id U
        obtain ⟨_, s0, s1, fs0, fs1⟩ := id S
        obtain ⟨_, v0, v1, v2, fv0, fv1, fv2⟩ := id V
        obtain ⟨_, d0, d1, fd0, fd1⟩ := id D
        rcases OH.out with ⟨rfl, o1⟩ | ⟨rfl, o1, o2⟩
        all_goals
          go_wp2
          go_ret
          exact ⟨by simp, B⟩
      · have n5 : (c.k != 6) = true := bne_iff_ne.2 k6
        have we := wend_weeks k k6 y0 y1 (i := i) (by omega) i1
        have we1 := wend_weeks k k6 y0 y1 (i := i - 1) (by omega) (by omega)
        obtain ⟨x, hx⟩ : ∃ x, x = pend c y 0 + 1 := ⟨_, rfl⟩
        have wd := yend_wday (y := y - 1) k k6
        have kb := (kind_bd k).2.2.2.2.2.2.1 k6
        have cst := fun w T => Start_any c y x 0 w (.inl ⟨uo.1, y0, y1, by rw [hx, pend_zero], rfl⟩) hm T
        have ea : a = x + 7 * (i - 1) := by omega
        have eb : b = x + 7 * (i - 1) + 6 := by omega
        have bdl := uend_bd (L := 5) (y := y) (i := i) k y0 y1 ⟨by omega, by omega⟩ (by omega) (by rw [uc.2.2.2.2]; omega)
        rw [uend_5] at bdl
        have cw := fun w T => Weekday_b a (c.d % 7 + 1) 0 w (.inl ⟨by omega, by omega, by
          rw [← pend_zero] at wd
          unfold wday at wd ⊢
          omega, rfl⟩) T
        have tm : c.d.tmod 7 = c.d % 7 := Int.tmod_eq_emod_of_nonneg (by omega)
        obtain ⟨x0, x1⟩ : 0 ≤ x ∧ x ≤ 3068037 := by omega
        obtain ⟨d0, d1⟩ := kb
        have i60 : i ≤ 60 := by omega
        clear uo k uc ha hb' nb pb bd0 k6 we we1 hx wd i1 dd y0 y1 bdl
        subst ea
        subst eb
        go_enter Tryd.func13, Tryd.ntmps13
        go_upto_region 1 with fail
        generalize (w.alloc (.cells #[.string c.nm, .int .i64 c.k, .int .i64 c.d, .int .i64 c.m, .int .i64 c.s, .int .i64 c.sh, .int .i64 c.p0, .int .i64 c.p1, .int .i64 c.p2, .int .i64 c.cy, .int .i64 c.ex, .int .i64 c.fi, .int .i64 c.la, .int .i64 c.po] 24)).alloc (.cells #[.int .i64 5, .int .i64 y, .int .i64 i] 49) = W0 at *
        obtain ⟨_, c0, c1, c2, c3, c4, c5, c6, c7, c8, c9, c10, c11, c12, c13⟩ := id C
        obtain ⟨_, u0, u1, u2, fu0, fu1, fu2⟩ := id U
        go_wp2_with fail
        refine (ilive_ok _ T).mono ?_
        rintro e w6 ⟨rfl, hb⟩
        replace C := C.kept hb
        replace B := bthen B hb
        replace T := T.kept hb
        replace U := U.kept hb
        clear hb c0 c1 c2 c3 c4 c5 c6 c7 c8 c9 c10 c11 c12 c13 u0 u1 u2 fu0 fu1 fu2
        obtain ⟨_, c0, c1, c2, c3, c4, c5, c6, c7, c8, c9, c10, c11, c12, c13⟩ := id C
        obtain ⟨_, u0, u1, u2, fu0, fu1, fu2⟩ := id U
        go_wp2_with fail
        refine (cs _ T).mono ?_
        rintro e w7 ⟨rfl, hb⟩
        replace C := C.kept hb
        replace B := bthen B hb
        replace T := T.kept hb
        replace U := U.kept hb
        clear hb c0 c1 c2 c3 c4 c5 c6 c7 c8 c9 c10 c11 c12 c13 u0 u1 u2 fu0 fu1 fu2
        obtain ⟨_, c0, c1, c2, c3, c4, c5, c6, c7, c8, c9, c10, c11, c12, c13⟩ := id C
        obtain ⟨_, u0, u1, u2, fu0, fu1, fu2⟩ := id U
        have S := Go.Proofs.YtidemknapbkeiaaDoor.Pr.Two.new w7 (.int .i64 (x + 7 * (i - 1))) (.int .i64 (x + 7 * (i - 1) + 6)) 45
        replace C := C.alloc (.cells #[.int .i64 (x + 7 * (i - 1)), .int .i64 (x + 7 * (i - 1) + 6)] 45)
        replace T := T.alloc (.cells #[.int .i64 (x + 7 * (i - 1)), .int .i64 (x + 7 * (i - 1) + 6)] 45)
        replace U := U.alloc (.cells #[.int .i64 (x + 7 * (i - 1)), .int .i64 (x + 7 * (i - 1) + 6)] 45)
        replace B := balloc B (.cells #[.int .i64 (x + 7 * (i - 1)), .int .i64 (x + 7 * (i - 1) + 6)] 45)
        clear c0 c1 c2 c3 c4 c5 c6 c7 c8 c9 c10 c11 c12 c13 u0 u1 u2 fu0 fu1 fu2
        obtain ⟨_, c0, c1, c2, c3, c4, c5, c6, c7, c8, c9, c10, c11, c12, c13⟩ := id C
        obtain ⟨_, u0, u1, u2, fu0, fu1, fu2⟩ := id U
        obtain ⟨_, s0, s1, fs0, fs1⟩ := id S
        go_wp2_with fail
        refine (cst _ T).mono ?_
        rintro e w8 ⟨rfl, hb⟩
        replace C := C.kept hb
        replace B := bthen B hb
        replace T := T.kept hb
        replace U := U.kept hb
        replace S := S.kept hb
        clear hb c0 c1 c2 c3 c4 c5 c6 c7 c8 c9 c10 c11 c12 c13 u0 u1 u2 fu0 fu1 fu2 s0 s1 fs0 fs1
        obtain ⟨_, c0, c1, c2, c3, c4, c5, c6, c7, c8, c9, c10, c11, c12, c13⟩ := id C
        obtain ⟨_, u0, u1, u2, fu0, fu1, fu2⟩ := id U
        obtain ⟨_, s0, s1, fs0, fs1⟩ := id S
        go_wp2_with fail
        refine (cw _ T.civ).mono ?_
        rintro e w9 ⟨rfl, hb⟩
        replace C := C.kept hb
        replace B := bthen B hb
        replace T := T.kept hb
        replace U := U.kept hb
        replace S := S.kept hb
        clear hb c0 c1 c2 c3 c4 c5 c6 c7 c8 c9 c10 c11 c12 c13 u0 u1 u2 fu0 fu1 fu2 s0 s1 fs0 fs1
        obtain ⟨_, c0, c1, c2, c3, c4, c5, c6, c7, c8, c9, c10, c11, c12, c13⟩ := id C
        obtain ⟨_, u0, u1, u2, fu0, fu1, fu2⟩ := id U
        obtain ⟨_, s0, s1, fs0, fs1⟩ := id S
        go_wp2
        go_ret
        exact ⟨by simp, B⟩
    · have O := spana_no ck (fun q => no ((uchka_ok ck).1 q))
      clear no ck
      rcases O with rfl | rfl | rfl
      all_goals
        go_enter Tryd.func13, Tryd.ntmps13
        go_upto_region 1 with fail
        generalize (w.alloc (.cells #[.string c.nm, .int .i64 c.k, .int .i64 c.d, .int .i64 c.m, .int .i64 c.s, .int .i64 c.sh, .int .i64 c.p0, .int .i64 c.p1, .int .i64 c.p2, .int .i64 c.cy, .int .i64 c.ex, .int .i64 c.fi, .int .i64 c.la, .int .i64 c.po] 24)).alloc (.cells #[.int .i64 5, .int .i64 y, .int .i64 i] 49) = W0 at *
        obtain ⟨_, c0, c1, c2, c3, c4, c5, c6, c7, c8, c9, c10, c11, c12, c13⟩ := id C
        obtain ⟨_, u0, u1, u2, fu0, fu1, fu2⟩ := id U
        go_wp2_with fail
        refine (ilive_ok _ T).mono ?_
        rintro e w10 ⟨rfl, hb⟩
        replace C := C.kept hb
        replace B := bthen B hb
        replace T := T.kept hb
        replace U := U.kept hb
        clear hb c0 c1 c2 c3 c4 c5 c6 c7 c8 c9 c10 c11 c12 c13 u0 u1 u2 fu0 fu1 fu2
        obtain ⟨_, c0, c1, c2, c3, c4, c5, c6, c7, c8, c9, c10, c11, c12, c13⟩ := id C
        obtain ⟨_, u0, u1, u2, fu0, fu1, fu2⟩ := id U
        go_wp2_with fail
        refine (cs _ T).mono ?_
        rintro e w11 ⟨rfl, hb⟩
        replace C := C.kept hb
        replace B := bthen B hb
        replace T := T.kept hb
        replace U := U.kept hb
        clear hb c0 c1 c2 c3 c4 c5 c6 c7 c8 c9 c10 c11 c12 c13 u0 u1 u2 fu0 fu1 fu2
        obtain ⟨_, c0, c1, c2, c3, c4, c5, c6, c7, c8, c9, c10, c11, c12, c13⟩ := id C
        obtain ⟨_, u0, u1, u2, fu0, fu1, fu2⟩ := id U
        have S := Go.Proofs.YtidemknapbkeiaaDoor.Pr.Two.new w11 (.int .i64 0) (.int .i64 0) 45
        replace C := C.alloc (.cells #[.int .i64 0, .int .i64 0] 45)
        replace T := T.alloc (.cells #[.int .i64 0, .int .i64 0] 45)
        replace U := U.alloc (.cells #[.int .i64 0, .int .i64 0] 45)
        replace B := balloc B (.cells #[.int .i64 0, .int .i64 0] 45)
        clear c0 c1 c2 c3 c4 c5 c6 c7 c8 c9 c10 c11 c12 c13 u0 u1 u2 fu0 fu1 fu2
        obtain ⟨_, c0, c1, c2, c3, c4, c5, c6, c7, c8, c9, c10, c11, c12, c13⟩ := id C
        obtain ⟨_, u0, u1, u2, fu0, fu1, fu2⟩ := id U
        obtain ⟨_, s0, s1, fs0, fs1⟩ := id S
        go_wp2
        go_ret
        exact ⟨by simp, B⟩
  · have n5 : (L != 5) = true := bne_iff_ne.2 hL
    clear hL
    go_enter Tryd.func13, Tryd.ntmps13
    go_upto_region 1 with fail
    generalize (w.alloc (.cells #[.string c.nm, .int .i64 c.k, .int .i64 c.d, .int .i64 c.m, .int .i64 c.s, .int .i64 c.sh, .int .i64 c.p0, .int .i64 c.p1, .int .i64 c.p2, .int .i64 c.cy, .int .i64 c.ex, .int .i64 c.fi, .int .i64 c.la, .int .i64 c.po] 24)).alloc (.cells #[.int .i64 L, .int .i64 y, .int .i64 i] 49) = W0 at *
    obtain ⟨_, c0, c1, c2, c3, c4, c5, c6, c7, c8, c9, c10, c11, c12, c13⟩ := id C
    obtain ⟨_, u0, u1, u2, fu0, fu1, fu2⟩ := id U
    go_wp2_with fail
    refine (ilive_ok _ T).mono ?_
    rintro e w12 ⟨rfl, hb⟩
    replace C := C.kept hb
    replace B := bthen B hb
    replace T := T.kept hb
    replace U := U.kept hb
    clear hb c0 c1 c2 c3 c4 c5 c6 c7 c8 c9 c10 c11 c12 c13 u0 u1 u2 fu0 fu1 fu2
    obtain ⟨_, c0, c1, c2, c3, c4, c5, c6, c7, c8, c9, c10, c11, c12, c13⟩ := id C
    obtain ⟨_, u0, u1, u2, fu0, fu1, fu2⟩ := id U
    go_wp2
    go_ret
    exact ⟨by simp, B⟩

end Go.Proofs.YtidemknapbkeiaaDoor.Il
