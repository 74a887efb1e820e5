/- UnitDown's walk. -/
import Derived.Test.YtidemknapbkeiaaDoorIlive
namespace Go.Proofs.YtidemknapbkeiaaDoor.Il
set_option linter.unusedSimpArgs false
set_option linter.unusedVariables false
open Go.RowKit Go.Proofs.YtidemknapbkeiaaDoor.Bn Go.Proofs.YtidemknapbkeiaaDoor.Bx Go.Proofs.YtidemknapbkeiaaDoor.Cp Go.Proofs.YtidemknapbkeiaaDoor.Am Go.Proofs.YtidemknapbkeiaaDoor.Fp Go.Proofs.YtidemknapbkeiaaDoor.Ap Go.Proofs.YtidemknapbkeiaaDoor.Cm Go.Proofs.YtidemknapbkeiaaDoor.Em Go.Proofs.YtidemknapbkeiaaDoor.Ep Go.Proofs.YtidemknapbkeiaaDoor.Rk Go.Proofs.YtidemknapbkeiaaDoor.Hp Go.Proofs.YtidemknapbkeiaaDoor.Ip

set_option maxHeartbeats 16000000

theorem counta_uniq {c : CalZ} {L y v e v' e' : Int} (h : CountA c L y v e) (k : CountA c L y v' e') : v = v' ∧ e = e' := by
  rcases h with ⟨a, b, d, rfl, rfl⟩ | ⟨a, b, d, rfl, rfl⟩ | ⟨a, b, rfl, rfl⟩ | ⟨a, rfl, rfl⟩
  all_goals
    rcases k with ⟨a', b', d', rfl, rfl⟩ | ⟨a', b', d', rfl, rfl⟩ | ⟨a', b', rfl, rfl⟩ | ⟨a', rfl, rfl⟩
    all_goals first | exact ⟨rfl, rfl⟩ | (exfalso; first | exact absurd a a' | exact absurd a' a | exact absurd b b' | exact absurd b' b | exact absurd d d' | exact absurd d' d)

set_option maxRecDepth 100000 in
theorem down_walk (c : CalZ) (L y i M : Int) (w : World) (wf : CalWf c) (wL : (Lit.int .i64 L).wf = true) (wy : (Lit.int .i64 y).wf = true) (wi : (Lit.int .i64 i).wf = true) (wM : (Lit.int .i64 M).wf = true) (tb : FTab w) :
    Calls Tryd.prog 14 #[.agg #[.string c.nm, .int .i64 c.k, .int .i64 c.d, .int .i64 c.m, .int .i64 c.s, .int .i64 c.sh, .int .i64 c.p0, .int .i64 c.p1, .int .i64 c.p2, .int .i64 c.cy, .int .i64 c.ex, .int .i64 c.fi, .int .i64 c.la, .int .i64 c.po], .agg #[.int .i64 L, .int .i64 y, .int .i64 i], .int .i64 M] w fun e w' => e = .returned (.bool true) ∧ Below w.heap.size w w' := by
  have T := tb
  have C := CalIn.new w c 24
  have B := balloc (Below.refl _ w) (.cells #[.string c.nm, .int .i64 c.k, .int .i64 c.d, .int .i64 c.m, .int .i64 c.s, .int .i64 c.sh, .int .i64 c.p0, .int .i64 c.p1, .int .i64 c.p2, .int .i64 c.cy, .int .i64 c.ex, .int .i64 c.fi, .int .i64 c.la, .int .i64 c.po] 24)
  replace T := T.alloc (.cells #[.string c.nm, .int .i64 c.k, .int .i64 c.d, .int .i64 c.m, .int .i64 c.s, .int .i64 c.sh, .int .i64 c.p0, .int .i64 c.p1, .int .i64 c.p2, .int .i64 c.cy, .int .i64 c.ex, .int .i64 c.fi, .int .i64 c.la, .int .i64 c.po] 24)
  have U := Go.Proofs.YtidemknapbkeiaaDoor.Bx.Tri.new (w.alloc (.cells #[.string c.nm, .int .i64 c.k, .int .i64 c.d, .int .i64 c.m, .int .i64 c.s, .int .i64 c.sh, .int .i64 c.p0, .int .i64 c.p1, .int .i64 c.p2, .int .i64 c.cy, .int .i64 c.ex, .int .i64 c.fi, .int .i64 c.la, .int .i64 c.po] 24)) (.int .i64 L) (.int .i64 y) (.int .i64 i) 49
  rw [World.size_alloc] at U
  replace C := C.alloc (.cells #[.int .i64 L, .int .i64 y, .int .i64 i] 49)
  replace B := balloc B (.cells #[.int .i64 L, .int .i64 y, .int .i64 i] 49)
  replace T := T.alloc (.cells #[.int .i64 L, .int .i64 y, .int .i64 i] 49)
  have hm := wf.1
  by_cases hl : 100 < c.nm.size
  · have dl : decide ((100 : Int) < (c.nm.size : Int)) = true := decide_eq_true (by omega)
    clear hl
    go_enter Tryd.func14, Tryd.ntmps14
    go_upto_region 1 with fail
    generalize (w.alloc (.cells #[.string c.nm, .int .i64 c.k, .int .i64 c.d, .int .i64 c.m, .int .i64 c.s, .int .i64 c.sh, .int .i64 c.p0, .int .i64 c.p1, .int .i64 c.p2, .int .i64 c.cy, .int .i64 c.ex, .int .i64 c.fi, .int .i64 c.la, .int .i64 c.po] 24)).alloc (.cells #[.int .i64 L, .int .i64 y, .int .i64 i] 49) = W0 at *
    obtain ⟨_, c0, c1, c2, c3, c4, c5, c6, c7, c8, c9, c10, c11, c12, c13⟩ := id C
    obtain ⟨_, u0, u1, u2, fu0, fu1, fu2⟩ := id U
    go_wp2_with fail
    refine (ilive_ok _ T).mono ?_
    rintro e w1 ⟨rfl, hb⟩
    replace C := C.kept hb
    replace B := bthen B hb
    replace T := T.kept hb
    replace U := U.kept hb
    clear hb c0 c1 c2 c3 c4 c5 c6 c7 c8 c9 c10 c11 c12 c13 u0 u1 u2 fu0 fu1 fu2
    obtain ⟨_, c0, c1, c2, c3, c4, c5, c6, c7, c8, c9, c10, c11, c12, c13⟩ := id C
    obtain ⟨_, u0, u1, u2, fu0, fu1, fu2⟩ := id U
    go_wp2
    go_ret
    exact ⟨by simp <;> omega, B⟩
  have dl : decide ((100 : Int) < (c.nm.size : Int)) = false := decide_eq_false (by omega)
  clear hl
  obtain ⟨a, b, e1, S1⟩ := spana_ex c L y i
  have cs := fun w T => Span_any c L y i a b e1 w S1 hm T
  obtain ⟨p, q, r, s, er, R⟩ := downa_ex c L y i M
  have cd := fun w T => Down_any c L y i M p q r s er w R hm T
  rcases R with ⟨uo, m0, m1, hr, hs, rfl, rfl, rfl⟩ | ⟨uo, mm, rfl, rfl, rfl, rfl, rfl⟩ | ⟨no, ck, rfl, rfl, rfl, rfl⟩
  · have S2 : a = uend c q L (i - 1) + 1 ∧ b = uend c q L i ∧ e1 = 0 := by
      rcases S1 with ⟨_, x, z, h⟩ | ⟨h, _⟩
      · exact ⟨x, z, h⟩
      · exact absurd uo h
    obtain ⟨ha, hb', rfl⟩ := S2
    have ud := unit_days uo
    have k := uo.1.1
    obtain ⟨_, dd, _, y0, y1, L0, L5⟩ := ud
    have lM : LevOk p := ⟨by omega, m1⟩
    obtain ⟨r', x1, x2⟩ := first_in (M := p) (i := i) k y0 y1 L0 m1 m0 uo.2.2.2.1 uo.2.2.2.2
    obtain rfl : r = r' := inu_uniq k y0 y1 lM hr x1
    obtain ⟨s', x3, x4⟩ := last_in (M := p) (i := i) k y0 y1 L0 m1 m0 uo.2.2.2.1 uo.2.2.2.2
    obtain rfl : s = s' := inu_uniq k y0 y1 lM hs x3
    have vo : UnitOk c p q r := ⟨uo.1, lM, uo.2.2.1, hr.1, hr.2.1⟩
    have wo : UnitOk c p q s := ⟨uo.1, lM, uo.2.2.1, hs.1, hs.2.1⟩
    obtain ⟨b2, hb2⟩ : ∃ b2, b2 = uend c q p r := ⟨_, rfl⟩
    obtain ⟨a2, ha2⟩ : ∃ a2, a2 = uend c q p (s - 1) + 1 := ⟨_, rfl⟩
    have cA := fun w T => Span_any c p q r a b2 0 w (.inl ⟨vo, by rw [ha, x2], hb2, rfl⟩) hm T
    have cB := fun w T => Span_any c p q s a2 b 0 w (.inl ⟨wo, ha2, by rw [hb', x4], rfl⟩) hm T
    have ub := ucount_bd (L := p) (y := q) k y0 y1
    have rs : r ≤ s := by
      by_cases h : r ≤ s
      · exact h
      · have := uend_mono (y := q) k y0 y1 lM (a := s) (b := r - 1) (by have := hs.1; omega) (by omega) (by have := hr.2.1; omega)
        omega
    obtain ⟨r0, s60⟩ : 1 ≤ r ∧ s ≤ 60 := by have := hr.1; have := hs.2.1; omega
    have FA : Hid (∀ j : Int, r ≤ j → j ≤ s → ∀ w, FTab w → Calls Tryd.prog 37 #[.agg #[.string c.nm, .int .i64 c.k, .int .i64 c.d, .int .i64 c.m, .int .i64 c.s, .int .i64 c.sh, .int .i64 c.p0, .int .i64 c.p1, .int .i64 c.p2, .int .i64 c.cy, .int .i64 c.ex, .int .i64 c.fi, .int .i64 c.la, .int .i64 c.po], .agg #[.int .i64 p, .int .i64 q, .int .i64 j], .int .i64 L] w fun e w' => e = .returned (.tuple #[.agg #[.int .i64 L, .int .i64 q, .int .i64 i], .int .i64 0]) ∧ Below w.heap.size w w') :=
      Lib.hid (fun j j0 j1 w T => by
        have t1 := uend_mono (y := q) k y0 y1 lM (a := r - 1) (b := j - 1) (by omega) (by omega) (by have := hs.2.1; omega)
        have t2 := uend_mono (y := q) k y0 y1 lM (a := j) (b := s) (by omega) j1 hs.2.1
        have t3 := uend_step (y := q) (i := j - 1) k y0 y1 lM (by omega) (by have := hs.2.1; omega)
        rw [show j - 1 + 1 = j by omega] at t3
        exact Up_any c p q j L L q i 0 w (.inl ⟨⟨uo.1, lM, uo.2.2.1, by omega, by have := hs.2.1; omega⟩, L0, m0, ⟨uo.2.2.2.1, uo.2.2.2.2, by omega, by omega⟩, rfl, rfl, rfl⟩) hm T)
    have n0 : decide (p < L) = false := decide_eq_false (by omega)
    have n1 : decide (5 < p) = false := decide_eq_false (by omega)
    have n2 : decide (s < r) = false := decide_eq_false (by omega)
    have n3 : decide (r < 1) = false := decide_eq_false (by omega)
    have n4 : decide (60 < s) = false := decide_eq_false (by omega)
    clear uo m0 m1 hr hs S1 ha hb' k y0 y1 lM x1 x2 x3 x4 vo wo hb2 ha2 ub L0 L5 dd
    go_enter Tryd.func14, Tryd.ntmps14
    go_upto_region 1 with fail
    generalize (w.alloc (.cells #[.string c.nm, .int .i64 c.k, .int .i64 c.d, .int .i64 c.m, .int .i64 c.s, .int .i64 c.sh, .int .i64 c.p0, .int .i64 c.p1, .int .i64 c.p2, .int .i64 c.cy, .int .i64 c.ex, .int .i64 c.fi, .int .i64 c.la, .int .i64 c.po] 24)).alloc (.cells #[.int .i64 L, .int .i64 q, .int .i64 i] 49) = W0 at *
    obtain ⟨_, c0, c1, c2, c3, c4, c5, c6, c7, c8, c9, c10, c11, c12, c13⟩ := id C
    obtain ⟨_, u0, u1, u2, fu0, fu1, fu2⟩ := id U
    go_wp2_with fail
    refine (ilive_ok _ T).mono ?_
    rintro e w2 ⟨rfl, hb⟩
    replace C := C.kept hb
    replace B := bthen B hb
    replace T := T.kept hb
    replace U := U.kept hb
    clear hb c0 c1 c2 c3 c4 c5 c6 c7 c8 c9 c10 c11 c12 c13 u0 u1 u2 fu0 fu1 fu2
    obtain ⟨_, c0, c1, c2, c3, c4, c5, c6, c7, c8, c9, c10, c11, c12, c13⟩ := id C
    obtain ⟨_, u0, u1, u2, fu0, fu1, fu2⟩ := id U
    go_wp2_with fail
    refine (cs _ T).mono ?_
    rintro e w3 ⟨rfl, hb⟩
    replace C := C.kept hb
    replace B := bthen B hb
    replace T := T.kept hb
    replace U := U.kept hb
    clear hb c0 c1 c2 c3 c4 c5 c6 c7 c8 c9 c10 c11 c12 c13 u0 u1 u2 fu0 fu1 fu2
    obtain ⟨_, c0, c1, c2, c3, c4, c5, c6, c7, c8, c9, c10, c11, c12, c13⟩ := id C
    obtain ⟨_, u0, u1, u2, fu0, fu1, fu2⟩ := id U
    have S := Go.Proofs.YtidemknapbkeiaaDoor.Pr.Two.new w3 (.int .i64 a) (.int .i64 b) 45
    replace C := C.alloc (.cells #[.int .i64 a, .int .i64 b] 45)
    replace T := T.alloc (.cells #[.int .i64 a, .int .i64 b] 45)
    replace U := U.alloc (.cells #[.int .i64 a, .int .i64 b] 45)
    replace B := balloc B (.cells #[.int .i64 a, .int .i64 b] 45)
    clear c0 c1 c2 c3 c4 c5 c6 c7 c8 c9 c10 c11 c12 c13 u0 u1 u2 fu0 fu1 fu2
    obtain ⟨_, c0, c1, c2, c3, c4, c5, c6, c7, c8, c9, c10, c11, c12, c13⟩ := id C
    obtain ⟨_, u0, u1, u2, fu0, fu1, fu2⟩ := id U
    obtain ⟨_, s0, s1, fs0, fs1⟩ := id S
    go_wp2_with fail
    refine (cd _ T).mono ?_
    rintro e w4 ⟨rfl, hb⟩
    replace C := C.kept hb
    replace B := bthen B hb
    replace T := T.kept hb
    replace U := U.kept hb
    replace S := S.kept hb
    clear hb c0 c1 c2 c3 c4 c5 c6 c7 c8 c9 c10 c11 c12 c13 u0 u1 u2 fu0 fu1 fu2 s0 s1 fs0 fs1
    obtain ⟨_, c0, c1, c2, c3, c4, c5, c6, c7, c8, c9, c10, c11, c12, c13⟩ := id C
    obtain ⟨_, u0, u1, u2, fu0, fu1, fu2⟩ := id U
    obtain ⟨_, s0, s1, fs0, fs1⟩ := id S
    have V := Go.Proofs.YtidemknapbkeiaaDoor.Bx.Tri.new w4 (.int .i64 p) (.int .i64 q) (.int .i64 r) 49
    replace C := C.alloc (.cells #[.int .i64 p, .int .i64 q, .int .i64 r] 49)
    replace T := T.alloc (.cells #[.int .i64 p, .int .i64 q, .int .i64 r] 49)
    replace U := U.alloc (.cells #[.int .i64 p, .int .i64 q, .int .i64 r] 49)
    replace S := S.alloc (.cells #[.int .i64 p, .int .i64 q, .int .i64 r] 49)
    replace B := balloc B (.cells #[.int .i64 p, .int .i64 q, .int .i64 r] 49)
    clear c0 c1 c2 c3 c4 c5 c6 c7 c8 c9 c10 c11 c12 c13 u0 u1 u2 fu0 fu1 fu2 s0 s1 fs0 fs1
    obtain ⟨_, c0, c1, c2, c3, c4, c5, c6, c7, c8, c9, c10, c11, c12, c13⟩ := id C
    obtain ⟨_, u0, u1, u2, fu0, fu1, fu2⟩ := id U
    obtain ⟨_, s0, s1, fs0, fs1⟩ := id S
    obtain ⟨_, v0, v1, v2, fv0, fv1, fv2⟩ := id V
    have N := Go.Proofs.YtidemknapbkeiaaDoor.Bx.Tri.new (w4.alloc (.cells #[.int .i64 p, .int .i64 q, .int .i64 r] 49)) (.int .i64 p) (.int .i64 q) (.int .i64 s) 49
    rw [World.size_alloc] at N
    replace C := C.alloc (.cells #[.int .i64 p, .int .i64 q, .int .i64 s] 49)
    replace T := T.alloc (.cells #[.int .i64 p, .int .i64 q, .int .i64 s] 49)
    replace U := U.alloc (.cells #[.int .i64 p, .int .i64 q, .int .i64 s] 49)
    replace S := S.alloc (.cells #[.int .i64 p, .int .i64 q, .int .i64 s] 49)
    replace V := V.alloc (.cells #[.int .i64 p, .int .i64 q, .int .i64 s] 49)
    replace B := balloc B (.cells #[.int .i64 p, .int .i64 q, .int .i64 s] 49)
    clear c0 c1 c2 c3 c4 c5 c6 c7 c8 c9 c10 c11 c12 c13 u0 u1 u2 fu0 fu1 fu2 s0 s1 fs0 fs1 v0 v1 v2 fv0 fv1 fv2
    obtain ⟨_, c0, c1, c2, c3, c4, c5, c6, c7, c8, c9, c10, c11, c12, c13⟩ := id C
    obtain ⟨_, u0, u1, u2, fu0, fu1, fu2⟩ := id U
    obtain ⟨_, s0, s1, fs0, fs1⟩ := id S
    obtain ⟨_, v0, v1, v2, fv0, fv1, fv2⟩ := id V
    obtain ⟨_, n00, n01, n02, fn0, fn1, fn2⟩ := id N
    go_wp2_with fail
    refine (cA _ T).mono ?_
    rintro e w5 ⟨rfl, hb⟩
    replace C := C.kept hb
    replace B := bthen B hb
    replace T := T.kept hb
    replace U := U.kept hb
    replace S := S.kept hb
    replace V := V.kept hb
    replace N := N.kept hb
    clear hb c0 c1 c2 c3 c4 c5 c6 c7 c8 c9 c10 c11 c12 c13 u0 u1 u2 fu0 fu1 fu2 s0 s1 fs0 fs1 v0 v1 v2 fv0 fv1 fv2 n00 n01 n02 fn0 fn1 fn2
    obtain ⟨_, c0, c1, c2, c3, c4, c5, c6, c7, c8, c9, c10, c11, c12, c13⟩ := id C
    obtain ⟨_, u0, u1, u2, fu0, fu1, fu2⟩ := id U
    obtain ⟨_, s0, s1, fs0, fs1⟩ := id S
    obtain ⟨_, v0, v1, v2, fv0, fv1, fv2⟩ := id V
    obtain ⟨_, n00, n01, n02, fn0, fn1, fn2⟩ := id N
    have A := Go.Proofs.YtidemknapbkeiaaDoor.Pr.Two.new w5 (.int .i64 a) (.int .i64 b2) 45
    replace C := C.alloc (.cells #[.int .i64 a, .int .i64 b2] 45)
    replace T := T.alloc (.cells #[.int .i64 a, .int .i64 b2] 45)
    replace U := U.alloc (.cells #[.int .i64 a, .int .i64 b2] 45)
    replace S := S.alloc (.cells #[.int .i64 a, .int .i64 b2] 45)
    replace V := V.alloc (.cells #[.int .i64 a, .int .i64 b2] 45)
    replace N := N.alloc (.cells #[.int .i64 a, .int .i64 b2] 45)
    replace B := balloc B (.cells #[.int .i64 a, .int .i64 b2] 45)
    clear c0 c1 c2 c3 c4 c5 c6 c7 c8 c9 c10 c11 c12 c13 u0 u1 u2 fu0 fu1 fu2 s0 s1 fs0 fs1 v0 v1 v2 fv0 fv1 fv2 n00 n01 n02 fn0 fn1 fn2
    obtain ⟨_, c0, c1, c2, c3, c4, c5, c6, c7, c8, c9, c10, c11, c12, c13⟩ := id C
    obtain ⟨_, u0, u1, u2, fu0, fu1, fu2⟩ := id U
    obtain ⟨_, s0, s1, fs0, fs1⟩ := id S
    obtain ⟨_, v0, v1, v2, fv0, fv1, fv2⟩ := id V
    obtain ⟨_, n00, n01, n02, fn0, fn1, fn2⟩ := id N
    obtain ⟨_, a0, a1, fa0, fa1⟩ := id A
    go_wp2_with fail
    refine (cB _ T).mono ?_
    rintro e w6 ⟨rfl, hb⟩
    replace C := C.kept hb
    replace B := bthen B hb
    replace T := T.kept hb
    replace U := U.kept hb
    replace S := S.kept hb
    replace V := V.kept hb
    replace N := N.kept hb
    replace A := A.kept hb
    clear hb c0 c1 c2 c3 c4 c5 c6 c7 c8 c9 c10 c11 c12 c13 u0 u1 u2 fu0 fu1 fu2 s0 s1 fs0 fs1 v0 v1 v2 fv0 fv1 fv2 n00 n01 n02 fn0 fn1 fn2 a0 a1 fa0 fa1
    obtain ⟨_, c0, c1, c2, c3, c4, c5, c6, c7, c8, c9, c10, c11, c12, c13⟩ := id C
    obtain ⟨_, u0, u1, u2, fu0, fu1, fu2⟩ := id U
    obtain ⟨_, s0, s1, fs0, fs1⟩ := id S
    obtain ⟨_, v0, v1, v2, fv0, fv1, fv2⟩ := id V
    obtain ⟨_, n00, n01, n02, fn0, fn1, fn2⟩ := id N
    obtain ⟨_, a0, a1, fa0, fa1⟩ := id A
    have D := Go.Proofs.YtidemknapbkeiaaDoor.Pr.Two.new w6 (.int .i64 a2) (.int .i64 b) 45
    replace C := C.alloc (.cells #[.int .i64 a2, .int .i64 b] 45)
    replace T := T.alloc (.cells #[.int .i64 a2, .int .i64 b] 45)
    replace U := U.alloc (.cells #[.int .i64 a2, .int .i64 b] 45)
    replace S := S.alloc (.cells #[.int .i64 a2, .int .i64 b] 45)
    replace V := V.alloc (.cells #[.int .i64 a2, .int .i64 b] 45)
    replace N := N.alloc (.cells #[.int .i64 a2, .int .i64 b] 45)
    replace A := A.alloc (.cells #[.int .i64 a2, .int .i64 b] 45)
    replace B := balloc B (.cells #[.int .i64 a2, .int .i64 b] 45)
    clear c0 c1 c2 c3 c4 c5 c6 c7 c8 c9 c10 c11 c12 c13 u0 u1 u2 fu0 fu1 fu2 s0 s1 fs0 fs1 v0 v1 v2 fv0 fv1 fv2 n00 n01 n02 fn0 fn1 fn2 a0 a1 fa0 fa1
    obtain ⟨_, c0, c1, c2, c3, c4, c5, c6, c7, c8, c9, c10, c11, c12, c13⟩ := id C
    obtain ⟨_, u0, u1, u2, fu0, fu1, fu2⟩ := id U
    obtain ⟨_, s0, s1, fs0, fs1⟩ := id S
    obtain ⟨_, v0, v1, v2, fv0, fv1, fv2⟩ := id V
    obtain ⟨_, n00, n01, n02, fn0, fn1, fn2⟩ := id N
    obtain ⟨_, a0, a1, fa0, fa1⟩ := id A
    obtain ⟨_, d0, d1, fd0, fd1⟩ := id D
    clear cs cd cA cB
    generalize hWL : w6.alloc (.cells #[.int .i64 a2, .int .i64 b] 45) = WL at *
    go_wp2
    go_loopw [16] (fun X wr => ∃ j : Int, r ≤ j ∧ j ≤ s + 1 ∧ X = .int .i64 j ∧ Below WL.heap.size WL wr) (fun X _ => (64 - intOf X).toNat)
    case atStart => exact ⟨r, by omega, by omega, rfl, Below.refl _ _⟩
    case round =>
      obtain ⟨j, j0, j1, rfl, B2⟩ := hrel
      replace C := C.kept B2
      replace T := T.kept B2
      replace B := bthen B B2
      replace U := U.kept B2
      replace N := N.kept B2
      clear A D S V
      clear c0 c1 c2 c3 c4 c5 c6 c7 c8 c9 c10 c11 c12 c13 u0 u1 u2 fu0 fu1 fu2 v0 v1 v2 fv0 fv1 fv2 n00 n01 n02 fn0 fn1 fn2 s0 s1 fs0 fs1 a0 a1 fa0 fa1 d0 d1 fd0 fd1
      obtain ⟨_, c0, c1, c2, c3, c4, c5, c6, c7, c8, c9, c10, c11, c12, c13⟩ := id C
      obtain ⟨_, u0, u1, u2, fu0, fu1, fu2⟩ := id U
      obtain ⟨_, n00, n01, n02, fn0, fn1, fn2⟩ := id N
      by_cases hlt : j ≤ s
      · have cu := FA.out j j0 hlt
        have dj : decide (j ≤ s) = true := decide_eq_true hlt
        go_wp2_with fail
        refine (cu _ T).mono ?_
        rintro e w8 ⟨rfl, hb⟩
        replace U := U.kept hb
        have B3 := balloc (bthen B2 hb) (.cells #[.int .i64 L, .int .i64 q, .int .i64 i] 49)
        clear hb cu C T
        clear c0 c1 c2 c3 c4 c5 c6 c7 c8 c9 c10 c11 c12 c13 u0 u1 u2 fu0 fu1 fu2 n00 n01 n02 fn0 fn1 fn2
        obtain ⟨_, u0, u1, u2, fu0, fu1, fu2⟩ := id U
        go_wp2
        go_roundw
        case rel => exact ⟨j + 1, by omega, by omega, by go_num, B3⟩
        case measure => simp [intOf]; omega
      · have dj : decide (j ≤ s) = false := decide_eq_false hlt
        go_wp2
        go_ret
        exact ⟨by simp, B⟩
  · have S2 : e1 = 0 := by
      rcases S1 with ⟨_, x, z, h⟩ | ⟨h, _⟩
      · exact h
      · exact absurd uo h
    have O : decide (M < L) = true ∨ (decide (M < L) = false ∧ decide (5 < M) = true) := by
      by_cases h : M < L
      · exact .inl (decide_eq_true h)
      · exact .inr ⟨decide_eq_false h, decide_eq_true (by omega)⟩
    subst S2
    clear uo mm S1
    rcases O with n0 | ⟨n0, n1⟩
    all_goals
      go_enter Tryd.func14, Tryd.ntmps14
      go_upto_region 1 with fail
      generalize (w.alloc (.cells #[.string c.nm, .int .i64 c.k, .int .i64 c.d, .int .i64 c.m, .int .i64 c.s, .int .i64 c.sh, .int .i64 c.p0, .int .i64 c.p1, .int .i64 c.p2, .int .i64 c.cy, .int .i64 c.ex, .int .i64 c.fi, .int .i64 c.la, .int .i64 c.po] 24)).alloc (.cells #[.int .i64 L, .int .i64 y, .int .i64 i] 49) = W0 at *
      obtain ⟨_, c0, c1, c2, c3, c4, c5, c6, c7, c8, c9, c10, c11, c12, c13⟩ := id C
      obtain ⟨_, u0, u1, u2, fu0, fu1, fu2⟩ := id U
      go_wp2_with fail
      refine (ilive_ok _ T).mono ?_
      rintro e w7 ⟨rfl, hb⟩
      replace C := C.kept hb
      replace B := bthen B hb
      replace T := T.kept hb
      replace U := U.kept hb
      clear hb c0 c1 c2 c3 c4 c5 c6 c7 c8 c9 c10 c11 c12 c13 u0 u1 u2 fu0 fu1 fu2
      obtain ⟨_, c0, c1, c2, c3, c4, c5, c6, c7, c8, c9, c10, c11, c12, c13⟩ := id C
      obtain ⟨_, u0, u1, u2, fu0, fu1, fu2⟩ := id U
      go_wp2_with fail
      refine (cs _ T).mono ?_
      rintro e w8 ⟨rfl, hb⟩
      replace C := C.kept hb
      replace B := bthen B hb
      replace T := T.kept hb
      replace U := U.kept hb
      clear hb c0 c1 c2 c3 c4 c5 c6 c7 c8 c9 c10 c11 c12 c13 u0 u1 u2 fu0 fu1 fu2
      obtain ⟨_, c0, c1, c2, c3, c4, c5, c6, c7, c8, c9, c10, c11, c12, c13⟩ := id C
      obtain ⟨_, u0, u1, u2, fu0, fu1, fu2⟩ := id U
      have S := Go.Proofs.YtidemknapbkeiaaDoor.Pr.Two.new w8 (.int .i64 a) (.int .i64 b) 45
      replace C := C.alloc (.cells #[.int .i64 a, .int .i64 b] 45)
      replace T := T.alloc (.cells #[.int .i64 a, .int .i64 b] 45)
      replace U := U.alloc (.cells #[.int .i64 a, .int .i64 b] 45)
      replace B := balloc B (.cells #[.int .i64 a, .int .i64 b] 45)
      clear c0 c1 c2 c3 c4 c5 c6 c7 c8 c9 c10 c11 c12 c13 u0 u1 u2 fu0 fu1 fu2
      obtain ⟨_, c0, c1, c2, c3, c4, c5, c6, c7, c8, c9, c10, c11, c12, c13⟩ := id C
      obtain ⟨_, u0, u1, u2, fu0, fu1, fu2⟩ := id U
      obtain ⟨_, s0, s1, fs0, fs1⟩ := id S
      go_wp2_with fail
      refine (cd _ T).mono ?_
      rintro e w9 ⟨rfl, hb⟩
      replace C := C.kept hb
      replace B := bthen B hb
      replace T := T.kept hb
      replace U := U.kept hb
      replace S := S.kept hb
      clear hb c0 c1 c2 c3 c4 c5 c6 c7 c8 c9 c10 c11 c12 c13 u0 u1 u2 fu0 fu1 fu2 s0 s1 fs0 fs1
      obtain ⟨_, c0, c1, c2, c3, c4, c5, c6, c7, c8, c9, c10, c11, c12, c13⟩ := id C
      obtain ⟨_, u0, u1, u2, fu0, fu1, fu2⟩ := id U
      obtain ⟨_, s0, s1, fs0, fs1⟩ := id S
      go_wp2
      go_ret
      exact ⟨by simp, balloc (balloc B _) _⟩
  · have S2 : a = 0 ∧ b = 0 ∧ e1 = er := by
      rcases S1 with ⟨h, _⟩ | ⟨_, ck2, x, z⟩
      · exact absurd h no
      · refine ⟨x, z, ?_⟩
        obtain ⟨v1, f1, A1, O1⟩ := ck
        obtain ⟨v2, f2, A2, O2⟩ := ck2
        have : v1 = v2 ∧ f1 = f2 := counta_uniq A1 A2
        omega
    obtain ⟨rfl, rfl, rfl⟩ := S2
    have O := spana_no ck (fun q => no ((uchka_ok ck).1 q))
    clear no ck S1
    rcases O with rfl | rfl | rfl
    all_goals
      go_enter Tryd.func14, Tryd.ntmps14
      go_upto_region 1 with fail
      generalize (w.alloc (.cells #[.string c.nm, .int .i64 c.k, .int .i64 c.d, .int .i64 c.m, .int .i64 c.s, .int .i64 c.sh, .int .i64 c.p0, .int .i64 c.p1, .int .i64 c.p2, .int .i64 c.cy, .int .i64 c.ex, .int .i64 c.fi, .int .i64 c.la, .int .i64 c.po] 24)).alloc (.cells #[.int .i64 L, .int .i64 y, .int .i64 i] 49) = W0 at *
      obtain ⟨_, c0, c1, c2, c3, c4, c5, c6, c7, c8, c9, c10, c11, c12, c13⟩ := id C
      obtain ⟨_, u0, u1, u2, fu0, fu1, fu2⟩ := id U
      go_wp2_with fail
      refine (ilive_ok _ T).mono ?_
      rintro e w10 ⟨rfl, hb⟩
      replace C := C.kept hb
      replace B := bthen B hb
      replace T := T.kept hb
      replace U := U.kept hb
      clear hb c0 c1 c2 c3 c4 c5 c6 c7 c8 c9 c10 c11 c12 c13 u0 u1 u2 fu0 fu1 fu2
      obtain ⟨_, c0, c1, c2, c3, c4, c5, c6, c7, c8, c9, c10, c11, c12, c13⟩ := id C
      obtain ⟨_, u0, u1, u2, fu0, fu1, fu2⟩ := id U
      go_wp2_with fail
      refine (cs _ T).mono ?_
      rintro e w11 ⟨rfl, hb⟩
      replace C := C.kept hb
      replace B := bthen B hb
      replace T := T.kept hb
      replace U := U.kept hb
      clear hb c0 c1 c2 c3 c4 c5 c6 c7 c8 c9 c10 c11 c12 c13 u0 u1 u2 fu0 fu1 fu2
      obtain ⟨_, c0, c1, c2, c3, c4, c5, c6, c7, c8, c9, c10, c11, c12, c13⟩ := id C
      obtain ⟨_, u0, u1, u2, fu0, fu1, fu2⟩ := id U
      have S := Go.Proofs.YtidemknapbkeiaaDoor.Pr.Two.new w11 (.int .i64 0) (.int .i64 0) 45
      replace C := C.alloc (.cells #[.int .i64 0, .int .i64 0] 45)
      replace T := T.alloc (.cells #[.int .i64 0, .int .i64 0] 45)
      replace U := U.alloc (.cells #[.int .i64 0, .int .i64 0] 45)
      replace B := balloc B (.cells #[.int .i64 0, .int .i64 0] 45)
      clear c0 c1 c2 c3 c4 c5 c6 c7 c8 c9 c10 c11 c12 c13 u0 u1 u2 fu0 fu1 fu2
      obtain ⟨_, c0, c1, c2, c3, c4, c5, c6, c7, c8, c9, c10, c11, c12, c13⟩ := id C
      obtain ⟨_, u0, u1, u2, fu0, fu1, fu2⟩ := id U
      obtain ⟨_, s0, s1, fs0, fs1⟩ := id S
      go_wp2_with fail
      refine (cd _ T).mono ?_
      rintro e w12 ⟨rfl, hb⟩
      replace C := C.kept hb
      replace B := bthen B hb
      replace T := T.kept hb
      replace U := U.kept hb
      replace S := S.kept hb
      clear hb c0 c1 c2 c3 c4 c5 c6 c7 c8 c9 c10 c11 c12 c13 u0 u1 u2 fu0 fu1 fu2 s0 s1 fs0 fs1
      obtain ⟨_, c0, c1, c2, c3, c4, c5, c6, c7, c8, c9, c10, c11, c12, c13⟩ := id C
      obtain ⟨_, u0, u1, u2, fu0, fu1, fu2⟩ := id U
      obtain ⟨_, s0, s1, fs0, fs1⟩ := id S
      go_wp2
      go_ret
      exact ⟨by simp, balloc (balloc B _) _⟩

end Go.Proofs.YtidemknapbkeiaaDoor.Il
