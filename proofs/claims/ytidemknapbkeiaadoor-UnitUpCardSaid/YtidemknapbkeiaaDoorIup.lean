/- UnitUp's walk. -/
import Derived.Test.YtidemknapbkeiaaDoorIlive
namespace Go.Proofs.YtidemknapbkeiaaDoor.Il
set_option linter.unusedSimpArgs false
set_option linter.unusedVariables false
open Go.RowKit Go.Proofs.YtidemknapbkeiaaDoor.Bn Go.Proofs.YtidemknapbkeiaaDoor.Bx Go.Proofs.YtidemknapbkeiaaDoor.Cp Go.Proofs.YtidemknapbkeiaaDoor.Am Go.Proofs.YtidemknapbkeiaaDoor.Fp Go.Proofs.YtidemknapbkeiaaDoor.Ap Go.Proofs.YtidemknapbkeiaaDoor.Cm Go.Proofs.YtidemknapbkeiaaDoor.Em Go.Proofs.YtidemknapbkeiaaDoor.Ep Go.Proofs.YtidemknapbkeiaaDoor.Rk Go.Proofs.YtidemknapbkeiaaDoor.Hp Go.Proofs.YtidemknapbkeiaaDoor.Ip

set_option maxHeartbeats 16000000

theorem up_two {c : CalZ} {L y i M t d r r2 : Int} (h : KindOk c) (y0 : 1601 ≤ y) (y1 : y ≤ 9997) (t0 : 1 ≤ t) (tM : t ≤ M) (M5 : M ≤ 5) (a : InU c y M d r) (b : InU c y t (uend c y M (r - 1) + 1) r2) : InU c y t d r2 := by
  have x := inside h y0 y1 t0 M5 tM a.1 a.2.1 b
  obtain ⟨a0, a1, a2, a3⟩ := a
  obtain ⟨b0, b1, b2, b3⟩ := b
  exact ⟨b0, b1, by omega, by omega⟩
theorem half_of {c : CalZ} {y i r : Int} (h : KindOk c) (y0 : 1601 ≤ y) (y1 : y ≤ 9997) (i0 : 1 ≤ i) (i1 : i ≤ ucount c y 3) (a : InU c y 2 (uend c y 3 (i - 1) + 1) r) : r = (i + 1) / 2 := by
  have uc := ucount_is c y
  have e : ∀ j : Int, uend c y 2 j = uend c y 3 (2 * j) := fun j => by rw [uend_2, uend_3]
  refine inu_uniq h y0 y1 ⟨by omega, by omega⟩ a ⟨by omega, by omega, ?_, ?_⟩
  · rw [e]
    have := uend_mono (L := 3) (y := y) h y0 y1 ⟨by omega, by omega⟩ (a := 2 * ((i + 1) / 2 - 1)) (b := i - 1) (by omega) (by omega) (by omega)
    omega
  · rw [e]
    have := uend_mono (L := 3) (y := y) h y0 y1 ⟨by omega, by omega⟩ (a := i) (b := 2 * ((i + 1) / 2)) (by omega) (by omega) (by omega)
    have := uend_step (L := 3) (y := y) h y0 y1 ⟨by omega, by omega⟩ (i := i - 1) (by omega) (by omega)
    rw [show i - 1 + 1 = i by omega] at this
    omega

set_option maxRecDepth 100000 in
theorem up_walk (c : CalZ) (L y i M t : Int) (w : World) (wf : CalWf c) (wL : (Lit.int .i64 L).wf = true) (wy : (Lit.int .i64 y).wf = true) (wi : (Lit.int .i64 i).wf = true) (wM : (Lit.int .i64 M).wf = true) (wt : (Lit.int .i64 t).wf = true) (tb : FTab w) :
    Calls Tryd.prog 16 #[.agg #[.string c.nm, .int .i64 c.k, .int .i64 c.d, .int .i64 c.m, .int .i64 c.s, .int .i64 c.sh, .int .i64 c.p0, .int .i64 c.p1, .int .i64 c.p2, .int .i64 c.cy, .int .i64 c.ex, .int .i64 c.fi, .int .i64 c.la, .int .i64 c.po], .agg #[.int .i64 L, .int .i64 y, .int .i64 i], .int .i64 M, .int .i64 t] w fun e w' => e = .returned (.bool true) ∧ Below w.heap.size w w' := by
  have T := tb
  have C := CalIn.new w c 24
  have B := balloc (Below.refl _ w) (.cells #[.string c.nm, .int .i64 c.k, .int .i64 c.d, .int .i64 c.m, .int .i64 c.s, .int .i64 c.sh, .int .i64 c.p0, .int .i64 c.p1, .int .i64 c.p2, .int .i64 c.cy, .int .i64 c.ex, .int .i64 c.fi, .int .i64 c.la, .int .i64 c.po] 24)
  replace T := T.alloc (.cells #[.string c.nm, .int .i64 c.k, .int .i64 c.d, .int .i64 c.m, .int .i64 c.s, .int .i64 c.sh, .int .i64 c.p0, .int .i64 c.p1, .int .i64 c.p2, .int .i64 c.cy, .int .i64 c.ex, .int .i64 c.fi, .int .i64 c.la, .int .i64 c.po] 24)
  have U := Go.Proofs.YtidemknapbkeiaaDoor.Bx.Tri.new (w.alloc (.cells #[.string c.nm, .int .i64 c.k, .int .i64 c.d, .int .i64 c.m, .int .i64 c.s, .int .i64 c.sh, .int .i64 c.p0, .int .i64 c.p1, .int .i64 c.p2, .int .i64 c.cy, .int .i64 c.ex, .int .i64 c.fi, .int .i64 c.la, .int .i64 c.po] 24)) (.int .i64 L) (.int .i64 y) (.int .i64 i) 49
  rw [World.size_alloc] at U
  replace C := C.alloc (.cells #[.int .i64 L, .int .i64 y, .int .i64 i] 49)
  replace B := balloc B (.cells #[.int .i64 L, .int .i64 y, .int .i64 i] 49)
  replace T := T.alloc (.cells #[.int .i64 L, .int .i64 y, .int .i64 i] 49)
  have hm := wf.1
  by_cases hl : 100 < c.nm.size
  · have dl : decide ((100 : Int) < (c.nm.size : Int)) = true := decide_eq_true (by omega)
    clear hl
    go_enter Tryd.func16, Tryd.ntmps16
    go_upto_region 1 with fail
    generalize (w.alloc (.cells #[.string c.nm, .int .i64 c.k, .int .i64 c.d, .int .i64 c.m, .int .i64 c.s, .int .i64 c.sh, .int .i64 c.p0, .int .i64 c.p1, .int .i64 c.p2, .int .i64 c.cy, .int .i64 c.ex, .int .i64 c.fi, .int .i64 c.la, .int .i64 c.po] 24)).alloc (.cells #[.int .i64 L, .int .i64 y, .int .i64 i] 49) = W0 at *
    obtain ⟨_, c0, c1, c2, c3, c4, c5, c6, c7, c8, c9, c10, c11, c12, c13⟩ := id C
    obtain ⟨_, u0, u1, u2, fu0, fu1, fu2⟩ := id U
    go_wp2_with fail
    refine (ilive_ok _ T).mono ?_
    rintro e w1 ⟨rfl, hb⟩
    replace C := C.kept hb
    replace B := bthen B hb
    replace T := T.kept hb
    replace U := U.kept hb
    clear hb c0 c1 c2 c3 c4 c5 c6 c7 c8 c9 c10 c11 c12 c13 u0 u1 u2 fu0 fu1 fu2
    obtain ⟨_, c0, c1, c2, c3, c4, c5, c6, c7, c8, c9, c10, c11, c12, c13⟩ := id C
    obtain ⟨_, u0, u1, u2, fu0, fu1, fu2⟩ := id U
    go_wp2
    go_ret
    exact ⟨by simp <;> omega, B⟩
  have dl : decide ((100 : Int) < (c.nm.size : Int)) = false := decide_eq_false (by omega)
  clear hl
  obtain ⟨p, q, r, er, R⟩ := upa_ex c L y i M
  have ca := fun w T => Up_any c L y i M p q r er w R hm T
  rcases R with ⟨uo, m0, m1, hr, rfl, rfl, rfl⟩ | ⟨uo, mm, rfl, rfl, rfl, rfl⟩ | ⟨no, ck, rfl, rfl, rfl⟩
  · have ud := unit_days uo
    have k := uo.1.1
    obtain ⟨_, _, _, y0, y1, L0, L5⟩ := ud
    have ii : InU c q L (uend c q L (i - 1) + 1) i := by
      have st := uend_step (y := q) (i := i - 1) k y0 y1 uo.2.1 (by have := uo.2.2.2.1; omega) (by have := uo.2.2.2.2; omega)
      rw [show i - 1 + 1 = i by omega] at st
      exact ⟨uo.2.2.2.1, uo.2.2.2.2, by omega, by omega⟩
    have vo : UnitOk c p q r := ⟨uo.1, ⟨m0, by omega⟩, uo.2.2.1, hr.1, hr.2.1⟩
    have e1 : p = L → r = i := fun e => by subst e; exact inu_uniq k y0 y1 ⟨by omega, by omega⟩ hr ii
    have e2 : p = 2 → L = 3 → r = (i + 1) / 2 := fun e f => by subst e; subst f; exact half_of k y0 y1 ii.1 ii.2.1 hr
    obtain ⟨i0, i60⟩ : 1 ≤ i ∧ i ≤ 60 := by have := uo.2.2.2.1; have := uo.2.2.2.2; have := ucount_bd (L := L) (y := q) k y0 y1; omega
    have X : ∃ p1 q1 r1 f1 p2 q2 r2 f2, UpA c L q i t p1 q1 r1 f1 ∧ UpA c p q r t p2 q2 r2 f2 ∧ ((decide (1 ≤ t) = false) ∨ (decide (1 ≤ t) = true ∧ decide (t ≤ p) = false) ∨ (decide (1 ≤ t) = true ∧ decide (t ≤ p) = true ∧ f1 = 0 ∧ f2 = 0 ∧ p1 = p2 ∧ q1 = q2 ∧ r1 = r2)) := by
      obtain ⟨p1, q1, r1, f1, A⟩ := upa_ex c L q i t
      obtain ⟨p2, q2, r2, f2, D⟩ := upa_ex c p q r t
      refine ⟨p1, q1, r1, f1, p2, q2, r2, f2, A, D, ?_⟩
      by_cases t0 : 1 ≤ t
      · by_cases t1 : t ≤ p
        · rcases A with ⟨_, _, _, x1, rfl, rfl, rfl⟩ | ⟨_, h, _⟩ | ⟨h, _⟩
          · rcases D with ⟨_, _, _, x2, rfl, rfl, rfl⟩ | ⟨_, h, _⟩ | ⟨h, _⟩
            · refine .inr (.inr ⟨decide_eq_true t0, decide_eq_true t1, rfl, rfl, rfl, rfl, ?_⟩)
              exact inu_uniq k y0 y1 ⟨t0, by omega⟩ x1 (up_two (L := L) (i := i) k y0 y1 t0 t1 (by omega) hr x2)
            · exact absurd ⟨t0, t1⟩ h
            · exact absurd vo h
          · exact absurd ⟨t0, by omega⟩ h
          · exact absurd uo h
        · exact .inr (.inl ⟨decide_eq_true t0, decide_eq_false t1⟩)
      · exact .inl (decide_eq_false t0)
    obtain ⟨p1, q1, r1, f1, p2, q2, r2, f2, A, D, O⟩ := X
    have cb := fun w T => Up_any c L q i t p1 q1 r1 f1 w A hm T
    have cd := fun w T => Up_any c p q r t p2 q2 r2 f2 w D hm T
    have Z : ((p == L) = true ∧ r = i ∧ p = L ∧ ((p != 2) = true ∨ ((p != 2) = false ∧ (L != 3) = true))) ∨ ((p == L) = false ∧ (p != 2) = true) ∨ ((p == L) = false ∧ (p != 2) = false ∧ (L != 3) = true) ∨ ((p == L) = false ∧ (p != 2) = false ∧ (L != 3) = false ∧ r = (i + 1) / 2) := by
      by_cases a : p = L
      · refine .inl ⟨by rw [a]; simp, e1 a, a, ?_⟩
        by_cases b : p = 2
        · exact .inr ⟨by rw [b]; rfl, bne_iff_ne.2 (by omega)⟩
        · exact .inl (bne_iff_ne.2 b)
      · have a' : (p == L) = false := beq_eq_false_iff_ne.2 a
        by_cases b : p = 2
        · by_cases d : L = 3
          · exact .inr (.inr (.inr ⟨a', by rw [b]; rfl, by rw [d]; rfl, e2 b d⟩))
          · exact .inr (.inr (.inl ⟨a', by rw [b]; rfl, bne_iff_ne.2 d⟩))
        · exact .inr (.inl ⟨a', bne_iff_ne.2 b⟩)
    clear uo hr k vo ii e1 e2 A D m0 m1 L0 L5 y0 y1
    have O' := Lib.hid O
    have Z' := Lib.hid Z
    clear O Z
    go_enter Tryd.func16, Tryd.ntmps16
    go_upto_region 1 with fail
    generalize (w.alloc (.cells #[.string c.nm, .int .i64 c.k, .int .i64 c.d, .int .i64 c.m, .int .i64 c.s, .int .i64 c.sh, .int .i64 c.p0, .int .i64 c.p1, .int .i64 c.p2, .int .i64 c.cy, .int .i64 c.ex, .int .i64 c.fi, .int .i64 c.la, .int .i64 c.po] 24)).alloc (.cells #[.int .i64 L, .int .i64 q, .int .i64 i] 49) = W0 at *
    obtain ⟨_, c0, c1, c2, c3, c4, c5, c6, c7, c8, c9, c10, c11, c12, c13⟩ := id C
    obtain ⟨_, u0, u1, u2, fu0, fu1, fu2⟩ := id U
    go_wp2_with fail
    refine (ilive_ok _ T).mono ?_
    rintro e w2 ⟨rfl, hb⟩
    replace C := C.kept hb
    replace B := bthen B hb
    replace T := T.kept hb
    replace U := U.kept hb
    clear hb c0 c1 c2 c3 c4 c5 c6 c7 c8 c9 c10 c11 c12 c13 u0 u1 u2 fu0 fu1 fu2
    obtain ⟨_, c0, c1, c2, c3, c4, c5, c6, c7, c8, c9, c10, c11, c12, c13⟩ := id C
    obtain ⟨_, u0, u1, u2, fu0, fu1, fu2⟩ := id U
    go_wp2_with fail
    refine (ca _ T).mono ?_
    rintro e w3 ⟨rfl, hb⟩
    replace C := C.kept hb
    replace B := bthen B hb
    replace T := T.kept hb
    replace U := U.kept hb
    clear hb c0 c1 c2 c3 c4 c5 c6 c7 c8 c9 c10 c11 c12 c13 u0 u1 u2 fu0 fu1 fu2
    obtain ⟨_, c0, c1, c2, c3, c4, c5, c6, c7, c8, c9, c10, c11, c12, c13⟩ := id C
    obtain ⟨_, u0, u1, u2, fu0, fu1, fu2⟩ := id U
    have V := Go.Proofs.YtidemknapbkeiaaDoor.Bx.Tri.new w3 (.int .i64 p) (.int .i64 q) (.int .i64 r) 49
    replace C := C.alloc (.cells #[.int .i64 p, .int .i64 q, .int .i64 r] 49)
    replace T := T.alloc (.cells #[.int .i64 p, .int .i64 q, .int .i64 r] 49)
    replace U := U.alloc (.cells #[.int .i64 p, .int .i64 q, .int .i64 r] 49)
    replace B := balloc B (.cells #[.int .i64 p, .int .i64 q, .int .i64 r] 49)
    clear c0 c1 c2 c3 c4 c5 c6 c7 c8 c9 c10 c11 c12 c13 u0 u1 u2 fu0 fu1 fu2
    obtain ⟨_, c0, c1, c2, c3, c4, c5, c6, c7, c8, c9, c10, c11, c12, c13⟩ := id C
    obtain ⟨_, u0, u1, u2, fu0, fu1, fu2⟩ := id U
    obtain ⟨_, v0, v1, v2, fv0, fv1, fv2⟩ := id V
    go_wp2_with fail
    refine (cb _ T).mono ?_
    rintro e w4 ⟨rfl, hb⟩
    replace C := C.kept hb
    replace B := bthen B hb
    replace T := T.kept hb
    replace U := U.kept hb
    replace V := V.kept hb
    clear hb c0 c1 c2 c3 c4 c5 c6 c7 c8 c9 c10 c11 c12 c13 u0 u1 u2 fu0 fu1 fu2 v0 v1 v2 fv0 fv1 fv2
    obtain ⟨_, c0, c1, c2, c3, c4, c5, c6, c7, c8, c9, c10, c11, c12, c13⟩ := id C
    obtain ⟨_, u0, u1, u2, fu0, fu1, fu2⟩ := id U
    obtain ⟨_, v0, v1, v2, fv0, fv1, fv2⟩ := id V
    have A := Go.Proofs.YtidemknapbkeiaaDoor.Bx.Tri.new w4 (.int .i64 p1) (.int .i64 q1) (.int .i64 r1) 49
    replace C := C.alloc (.cells #[.int .i64 p1, .int .i64 q1, .int .i64 r1] 49)
    replace T := T.alloc (.cells #[.int .i64 p1, .int .i64 q1, .int .i64 r1] 49)
    replace U := U.alloc (.cells #[.int .i64 p1, .int .i64 q1, .int .i64 r1] 49)
    replace V := V.alloc (.cells #[.int .i64 p1, .int .i64 q1, .int .i64 r1] 49)
    replace B := balloc B (.cells #[.int .i64 p1, .int .i64 q1, .int .i64 r1] 49)
    clear c0 c1 c2 c3 c4 c5 c6 c7 c8 c9 c10 c11 c12 c13 u0 u1 u2 fu0 fu1 fu2 v0 v1 v2 fv0 fv1 fv2
    obtain ⟨_, c0, c1, c2, c3, c4, c5, c6, c7, c8, c9, c10, c11, c12, c13⟩ := id C
    obtain ⟨_, u0, u1, u2, fu0, fu1, fu2⟩ := id U
    obtain ⟨_, v0, v1, v2, fv0, fv1, fv2⟩ := id V
    obtain ⟨_, a0, a1, a2, fa0, fa1, fa2⟩ := id A
    go_wp2_with fail
    refine (cd _ T).mono ?_
    rintro e w5 ⟨rfl, hb⟩
    replace C := C.kept hb
    replace B := bthen B hb
    replace T := T.kept hb
    replace U := U.kept hb
    replace V := V.kept hb
    replace A := A.kept hb
    clear hb c0 c1 c2 c3 c4 c5 c6 c7 c8 c9 c10 c11 c12 c13 u0 u1 u2 fu0 fu1 fu2 v0 v1 v2 fv0 fv1 fv2 a0 a1 a2 fa0 fa1 fa2
    obtain ⟨_, c0, c1, c2, c3, c4, c5, c6, c7, c8, c9, c10, c11, c12, c13⟩ := id C
    obtain ⟨_, u0, u1, u2, fu0, fu1, fu2⟩ := id U
    obtain ⟨_, v0, v1, v2, fv0, fv1, fv2⟩ := id V
    obtain ⟨_, a0, a1, a2, fa0, fa1, fa2⟩ := id A
    have D := Go.Proofs.YtidemknapbkeiaaDoor.Bx.Tri.new w5 (.int .i64 p2) (.int .i64 q2) (.int .i64 r2) 49
    replace C := C.alloc (.cells #[.int .i64 p2, .int .i64 q2, .int .i64 r2] 49)
    replace T := T.alloc (.cells #[.int .i64 p2, .int .i64 q2, .int .i64 r2] 49)
    replace U := U.alloc (.cells #[.int .i64 p2, .int .i64 q2, .int .i64 r2] 49)
    replace V := V.alloc (.cells #[.int .i64 p2, .int .i64 q2, .int .i64 r2] 49)
    replace A := A.alloc (.cells #[.int .i64 p2, .int .i64 q2, .int .i64 r2] 49)
    replace B := balloc B (.cells #[.int .i64 p2, .int .i64 q2, .int .i64 r2] 49)
    clear c0 c1 c2 c3 c4 c5 c6 c7 c8 c9 c10 c11 c12 c13 u0 u1 u2 fu0 fu1 fu2 v0 v1 v2 fv0 fv1 fv2 a0 a1 a2 fa0 fa1 fa2
    obtain ⟨_, c0, c1, c2, c3, c4, c5, c6, c7, c8, c9, c10, c11, c12, c13⟩ := id C
    obtain ⟨_, u0, u1, u2, fu0, fu1, fu2⟩ := id U
    obtain ⟨_, v0, v1, v2, fv0, fv1, fv2⟩ := id V
    obtain ⟨_, a0, a1, a2, fa0, fa1, fa2⟩ := id A
    obtain ⟨_, d0, d1, d2, fd0, fd1, fd2⟩ := id D
    clear ca cb cd
    rcases O'.out with t0 | ⟨t0, t1⟩ | ⟨t0, t1, rfl, rfl, rfl, rfl, rfl⟩
    all_goals
      rcases Z'.out with ⟨z1, rfl, z2, z3 | ⟨z3, z4⟩⟩ | ⟨z1, z3⟩ | ⟨z1, z3, z4⟩ | ⟨z1, z3, z4, z5⟩
      · subst z2
        go_wp2
        go_ret
        exact ⟨by simp, B⟩
      · subst z2
        go_wp2
        go_ret
        exact ⟨by simp, B⟩
      all_goals
        go_wp2
        go_ret
        exact ⟨by simp [*], B⟩
  · clear uo mm
    go_enter Tryd.func16, Tryd.ntmps16
    go_upto_region 1 with fail
    generalize (w.alloc (.cells #[.string c.nm, .int .i64 c.k, .int .i64 c.d, .int .i64 c.m, .int .i64 c.s, .int .i64 c.sh, .int .i64 c.p0, .int .i64 c.p1, .int .i64 c.p2, .int .i64 c.cy, .int .i64 c.ex, .int .i64 c.fi, .int .i64 c.la, .int .i64 c.po] 24)).alloc (.cells #[.int .i64 L, .int .i64 y, .int .i64 i] 49) = W0 at *
    obtain ⟨_, c0, c1, c2, c3, c4, c5, c6, c7, c8, c9, c10, c11, c12, c13⟩ := id C
    obtain ⟨_, u0, u1, u2, fu0, fu1, fu2⟩ := id U
    go_wp2_with fail
    refine (ilive_ok _ T).mono ?_
    rintro e w6 ⟨rfl, hb⟩
    replace C := C.kept hb
    replace B := bthen B hb
    replace T := T.kept hb
    replace U := U.kept hb
    clear hb c0 c1 c2 c3 c4 c5 c6 c7 c8 c9 c10 c11 c12 c13 u0 u1 u2 fu0 fu1 fu2
    obtain ⟨_, c0, c1, c2, c3, c4, c5, c6, c7, c8, c9, c10, c11, c12, c13⟩ := id C
    obtain ⟨_, u0, u1, u2, fu0, fu1, fu2⟩ := id U
    go_wp2_with fail
    refine (ca _ T).mono ?_
    rintro e w7 ⟨rfl, hb⟩
    replace C := C.kept hb
    replace B := bthen B hb
    replace T := T.kept hb
    replace U := U.kept hb
    clear hb c0 c1 c2 c3 c4 c5 c6 c7 c8 c9 c10 c11 c12 c13 u0 u1 u2 fu0 fu1 fu2
    obtain ⟨_, c0, c1, c2, c3, c4, c5, c6, c7, c8, c9, c10, c11, c12, c13⟩ := id C
    obtain ⟨_, u0, u1, u2, fu0, fu1, fu2⟩ := id U
    have V := Go.Proofs.YtidemknapbkeiaaDoor.Bx.Tri.new w7 (.int .i64 0) (.int .i64 0) (.int .i64 0) 49
    replace C := C.alloc (.cells #[.int .i64 0, .int .i64 0, .int .i64 0] 49)
    replace T := T.alloc (.cells #[.int .i64 0, .int .i64 0, .int .i64 0] 49)
    replace U := U.alloc (.cells #[.int .i64 0, .int .i64 0, .int .i64 0] 49)
    replace B := balloc B (.cells #[.int .i64 0, .int .i64 0, .int .i64 0] 49)
    clear c0 c1 c2 c3 c4 c5 c6 c7 c8 c9 c10 c11 c12 c13 u0 u1 u2 fu0 fu1 fu2
    obtain ⟨_, c0, c1, c2, c3, c4, c5, c6, c7, c8, c9, c10, c11, c12, c13⟩ := id C
    obtain ⟨_, u0, u1, u2, fu0, fu1, fu2⟩ := id U
    obtain ⟨_, v0, v1, v2, fv0, fv1, fv2⟩ := id V
    go_wp2
    go_ret
    exact ⟨by simp, B⟩
  · have O := spana_no ck (fun q => no ((uchka_ok ck).1 q))
    clear no ck
    rcases O with rfl | rfl | rfl
    all_goals
      go_enter Tryd.func16, Tryd.ntmps16
      go_upto_region 1 with fail
      generalize (w.alloc (.cells #[.string c.nm, .int .i64 c.k, .int .i64 c.d, .int .i64 c.m, .int .i64 c.s, .int .i64 c.sh, .int .i64 c.p0, .int .i64 c.p1, .int .i64 c.p2, .int .i64 c.cy, .int .i64 c.ex, .int .i64 c.fi, .int .i64 c.la, .int .i64 c.po] 24)).alloc (.cells #[.int .i64 L, .int .i64 y, .int .i64 i] 49) = W0 at *
      obtain ⟨_, c0, c1, c2, c3, c4, c5, c6, c7, c8, c9, c10, c11, c12, c13⟩ := id C
      obtain ⟨_, u0, u1, u2, fu0, fu1, fu2⟩ := id U
      go_wp2_with fail
      refine (ilive_ok _ T).mono ?_
      rintro e w8 ⟨rfl, hb⟩
      replace C := C.kept hb
      replace B := bthen B hb
      replace T := T.kept hb
      replace U := U.kept hb
      clear hb c0 c1 c2 c3 c4 c5 c6 c7 c8 c9 c10 c11 c12 c13 u0 u1 u2 fu0 fu1 fu2
      obtain ⟨_, c0, c1, c2, c3, c4, c5, c6, c7, c8, c9, c10, c11, c12, c13⟩ := id C
      obtain ⟨_, u0, u1, u2, fu0, fu1, fu2⟩ := id U
      go_wp2_with fail
      refine (ca _ T).mono ?_
      rintro e w9 ⟨rfl, hb⟩
      replace C := C.kept hb
      replace B := bthen B hb
      replace T := T.kept hb
      replace U := U.kept hb
      clear hb c0 c1 c2 c3 c4 c5 c6 c7 c8 c9 c10 c11 c12 c13 u0 u1 u2 fu0 fu1 fu2
      obtain ⟨_, c0, c1, c2, c3, c4, c5, c6, c7, c8, c9, c10, c11, c12, c13⟩ := id C
      obtain ⟨_, u0, u1, u2, fu0, fu1, fu2⟩ := id U
      have V := Go.Proofs.YtidemknapbkeiaaDoor.Bx.Tri.new w9 (.int .i64 0) (.int .i64 0) (.int .i64 0) 49
      replace C := C.alloc (.cells #[.int .i64 0, .int .i64 0, .int .i64 0] 49)
      replace T := T.alloc (.cells #[.int .i64 0, .int .i64 0, .int .i64 0] 49)
      replace U := U.alloc (.cells #[.int .i64 0, .int .i64 0, .int .i64 0] 49)
      replace B := balloc B (.cells #[.int .i64 0, .int .i64 0, .int .i64 0] 49)
      clear c0 c1 c2 c3 c4 c5 c6 c7 c8 c9 c10 c11 c12 c13 u0 u1 u2 fu0 fu1 fu2
      obtain ⟨_, c0, c1, c2, c3, c4, c5, c6, c7, c8, c9, c10, c11, c12, c13⟩ := id C
      obtain ⟨_, u0, u1, u2, fu0, fu1, fu2⟩ := id U
      obtain ⟨_, v0, v1, v2, fv0, fv1, fv2⟩ := id V
      go_wp2
      go_ret
      exact ⟨by simp, B⟩

end Go.Proofs.YtidemknapbkeiaaDoor.Il
