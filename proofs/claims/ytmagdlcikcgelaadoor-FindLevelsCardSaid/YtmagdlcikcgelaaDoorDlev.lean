/- FindLevels' walk. -/
import Derived.Test.YtmagdlcikcgelaaDoorDlive
import Derived.Test.YtmagdlcikcgelaaDoorIcode8
namespace Go.Proofs.YtmagdlcikcgelaaDoor.Dl
set_option linter.unusedSimpArgs false
set_option linter.unusedVariables false
open Go.RowKit Go.Proofs.YtmagdlcikcgelaaDoor.Bn Go.Proofs.YtmagdlcikcgelaaDoor.Bx Go.Proofs.YtmagdlcikcgelaaDoor.Cp Go.Proofs.YtmagdlcikcgelaaDoor.Am Go.Proofs.YtmagdlcikcgelaaDoor.Fp Go.Proofs.YtmagdlcikcgelaaDoor.Ap Go.Proofs.YtmagdlcikcgelaaDoor.Cm Go.Proofs.YtmagdlcikcgelaaDoor.Em Go.Proofs.YtmagdlcikcgelaaDoor.Ep Go.Proofs.YtmagdlcikcgelaaDoor.Rk Go.Proofs.YtmagdlcikcgelaaDoor.Hp Go.Proofs.YtmagdlcikcgelaaDoor.Ip Go.Proofs.YtmagdlcikcgelaaDoor.Jp Go.Proofs.YtmagdlcikcgelaaDoor.Dp

set_option maxHeartbeats 8000000

theorem day_up {c : CalZ} {L y i t d r : Int} (h : UnitOk c L y i) (d0 : uend c y L (i - 1) < d) (d1 : d ≤ uend c y L i) (t0 : 1 ≤ t) (tL : t ≤ L) (b : InU c y t (uend c y L (i - 1) + 1) r) : InU c y t d r ∧ UnitOk c t y r := by
  obtain ⟨ok, l, s, i0, i1⟩ := h
  have st := served_told ok s
  have x := inside ok.1 (by omega) (by omega) t0 l.2 tL i0 i1 b
  obtain ⟨b0, b1, b2, b3⟩ := b
  exact ⟨⟨b0, b1, by omega, by omega⟩, ok, ⟨t0, by have := l.2; omega⟩, s, b0, b1⟩

set_option maxRecDepth 100000 in
theorem findlevels_walk (c : CalZ) (d L t : Int) (w : World) (wf : CalWf c) (wd : (Lit.int .i64 d).wf = true) (wL : (Lit.int .i64 L).wf = true) (wt : (Lit.int .i64 t).wf = true) (tb : FTab w) :
    Calls Tryd.prog 5 #[.agg #[.string c.nm, .int .i64 c.k, .int .i64 c.d, .int .i64 c.m, .int .i64 c.s, .int .i64 c.sh, .int .i64 c.p0, .int .i64 c.p1, .int .i64 c.p2, .int .i64 c.cy, .int .i64 c.ex, .int .i64 c.fi, .int .i64 c.la, .int .i64 c.po], .int .i64 d, .int .i64 L, .int .i64 t] w fun e w' => e = .returned (.bool true) ∧ Below w.heap.size w w' := by
  have T := tb
  have C := CalIn.new w c 24
  have B := balloc (Below.refl _ w) (.cells #[.string c.nm, .int .i64 c.k, .int .i64 c.d, .int .i64 c.m, .int .i64 c.s, .int .i64 c.sh, .int .i64 c.p0, .int .i64 c.p1, .int .i64 c.p2, .int .i64 c.cy, .int .i64 c.ex, .int .i64 c.fi, .int .i64 c.la, .int .i64 c.po] 24)
  replace T := T.alloc (.cells #[.string c.nm, .int .i64 c.k, .int .i64 c.d, .int .i64 c.m, .int .i64 c.s, .int .i64 c.sh, .int .i64 c.p0, .int .i64 c.p1, .int .i64 c.p2, .int .i64 c.cy, .int .i64 c.ex, .int .i64 c.fi, .int .i64 c.la, .int .i64 c.po] 24)
  have hm := wf.1
  by_cases hl : 100 < c.nm.size
  · have dl : decide ((100 : Int) < (c.nm.size : Int)) = true := decide_eq_true (by omega)
    clear hl
    go_enter Tryd.func5, Tryd.ntmps5
    go_upto_region 1 with fail
    generalize w.alloc (.cells #[.string c.nm, .int .i64 c.k, .int .i64 c.d, .int .i64 c.m, .int .i64 c.s, .int .i64 c.sh, .int .i64 c.p0, .int .i64 c.p1, .int .i64 c.p2, .int .i64 c.cy, .int .i64 c.ex, .int .i64 c.fi, .int .i64 c.la, .int .i64 c.po] 24) = W0 at *
    obtain ⟨_, c0, c1, c2, c3, c4, c5, c6, c7, c8, c9, c10, c11, c12, c13⟩ := id C
    go_wp2_with fail
    refine (dlive_ok _ T).mono ?_
    rintro e w1 ⟨rfl, hb⟩
    replace C := C.kept hb
    replace B := bthen B hb
    replace T := T.kept hb
    clear hb c0 c1 c2 c3 c4 c5 c6 c7 c8 c9 c10 c11 c12 c13
    obtain ⟨_, c0, c1, c2, c3, c4, c5, c6, c7, c8, c9, c10, c11, c12, c13⟩ := id C
    go_wp2
    go_ret
    exact ⟨by simp <;> omega, B⟩
  have dl : decide ((100 : Int) < (c.nm.size : Int)) = false := decide_eq_false (by omega)
  clear hl
  obtain ⟨p, q, r, e1, R⟩ := daya_ex c d L
  have ca := fun w T => Day_any c d L p q r e1 w R hm T
  rcases R with ⟨ok, l, S, hu, rfl, rfl⟩ | ⟨ok, l, S, h, rfl, rfl, rfl⟩ | ⟨ok, l, rfl, rfl, rfl, rfl⟩ | ⟨no, rfl, rfl, rfl, rfl⟩
  · have s := (served_to S).2.1
    have cs := fun w T => Served_any c d q 0 w S hm T
    have un : UnitOk c p q r := ⟨ok, l, s, hu.1, hu.2.1⟩
    have st := served_told ok s
    have ud := unit_days un
    have O : decide (t < 1) = true ∨ (decide (t < 1) = false ∧ decide (p < t) = true) ∨ (decide (t < 1) = false ∧ decide (p < t) = false ∧ ∃ r2, (∀ w, FTab w → Calls Tryd.prog 15 #[.agg #[.string c.nm, .int .i64 c.k, .int .i64 c.d, .int .i64 c.m, .int .i64 c.s, .int .i64 c.sh, .int .i64 c.p0, .int .i64 c.p1, .int .i64 c.p2, .int .i64 c.cy, .int .i64 c.ex, .int .i64 c.fi, .int .i64 c.la, .int .i64 c.po], .int .i64 d, .int .i64 t] w fun e w' => e = .returned (.tuple #[.agg #[.int .i64 t, .int .i64 q, .int .i64 r2], .int .i64 0]) ∧ Below w.heap.size w w') ∧
        (∀ w, FTab w → Calls Tryd.prog 21 #[.agg #[.string c.nm, .int .i64 c.k, .int .i64 c.d, .int .i64 c.m, .int .i64 c.s, .int .i64 c.sh, .int .i64 c.p0, .int .i64 c.p1, .int .i64 c.p2, .int .i64 c.cy, .int .i64 c.ex, .int .i64 c.fi, .int .i64 c.la, .int .i64 c.po], .agg #[.int .i64 p, .int .i64 q, .int .i64 r], .int .i64 t] w fun e w' => e = .returned (.tuple #[.agg #[.int .i64 t, .int .i64 q, .int .i64 r2], .int .i64 0]) ∧ Below w.heap.size w w')) := by
      by_cases t0 : t < 1
      · exact .inl (decide_eq_true t0)
      · by_cases t1 : p < t
        · exact .inr (.inl ⟨decide_eq_false t0, decide_eq_true t1⟩)
        · obtain ⟨r2, h2⟩ := inu_ex (y := q) (L := t) (d := uend c q p (r - 1) + 1) ok.1 (by omega) (by omega) ⟨by omega, by omega⟩ ud.1 (by omega)
          have x := day_up un hu.2.2.1 hu.2.2.2 (by omega) (by omega) h2
          exact .inr (.inr ⟨decide_eq_false t0, decide_eq_false t1, r2, fun w T => Day_any c d t t q r2 0 w (daya_of x.2 x.1.2.2.1 x.1.2.2.2) hm T, fun w T => Up_any c p q r t t q r2 0 w (.inl ⟨un, by omega, by omega, h2, rfl, rfl, rfl⟩) hm T⟩)
    have G := Lib.hid O
    obtain ⟨l0, l1⟩ := l
    clear O ok S hu s un st ud
    go_enter Tryd.func5, Tryd.ntmps5
    go_upto_region 1 with fail
    generalize w.alloc (.cells #[.string c.nm, .int .i64 c.k, .int .i64 c.d, .int .i64 c.m, .int .i64 c.s, .int .i64 c.sh, .int .i64 c.p0, .int .i64 c.p1, .int .i64 c.p2, .int .i64 c.cy, .int .i64 c.ex, .int .i64 c.fi, .int .i64 c.la, .int .i64 c.po] 24) = W0 at *
    obtain ⟨_, c0, c1, c2, c3, c4, c5, c6, c7, c8, c9, c10, c11, c12, c13⟩ := id C
    go_wp2_with fail
    refine (dlive_ok _ T).mono ?_
    rintro e w2 ⟨rfl, hb⟩
    replace C := C.kept hb
    replace B := bthen B hb
    replace T := T.kept hb
    clear hb c0 c1 c2 c3 c4 c5 c6 c7 c8 c9 c10 c11 c12 c13
    obtain ⟨_, c0, c1, c2, c3, c4, c5, c6, c7, c8, c9, c10, c11, c12, c13⟩ := id C
    go_wp2_with fail
    refine (ca _ T).mono ?_
    rintro e w3 ⟨rfl, hb⟩
    replace C := C.kept hb
    replace B := bthen B hb
    replace T := T.kept hb
    clear hb c0 c1 c2 c3 c4 c5 c6 c7 c8 c9 c10 c11 c12 c13 
    obtain ⟨_, c0, c1, c2, c3, c4, c5, c6, c7, c8, c9, c10, c11, c12, c13⟩ := id C
    have U := Go.Proofs.YtmagdlcikcgelaaDoor.Bx.Tri.new w3 (.int .i64 p) (.int .i64 q) (.int .i64 r) 26
    replace C := C.alloc (.cells #[.int .i64 p, .int .i64 q, .int .i64 r] 26)
    replace T := T.alloc (.cells #[.int .i64 p, .int .i64 q, .int .i64 r] 26)
    replace B := balloc B (.cells #[.int .i64 p, .int .i64 q, .int .i64 r] 26)
    clear c0 c1 c2 c3 c4 c5 c6 c7 c8 c9 c10 c11 c12 c13 
    obtain ⟨_, c0, c1, c2, c3, c4, c5, c6, c7, c8, c9, c10, c11, c12, c13⟩ := id C
    obtain ⟨_, u0, u1, u2, fu0, fu1, fu2⟩ := id U
    go_wp2_with fail
    refine (cs _ T).mono ?_
    rintro e w4 ⟨rfl, hb⟩
    replace C := C.kept hb
    replace B := bthen B hb
    replace T := T.kept hb
    replace U := U.kept hb
    clear hb c0 c1 c2 c3 c4 c5 c6 c7 c8 c9 c10 c11 c12 c13 u0 u1 u2 fu0 fu1 fu2
    obtain ⟨_, c0, c1, c2, c3, c4, c5, c6, c7, c8, c9, c10, c11, c12, c13⟩ := id C
    obtain ⟨_, u0, u1, u2, fu0, fu1, fu2⟩ := id U
    clear ca cs
    rcases G.out with t0 | ⟨t0, t1⟩ | ⟨t0, t1, r2, cA, cB⟩
    · go_wp2
      go_ret
      exact ⟨by simp, B⟩
    · go_wp2
      go_ret
      exact ⟨by simp, B⟩
    · go_wp2_with fail
      refine (cA _ T).mono ?_
      rintro e w5 ⟨rfl, hb⟩
      replace C := C.kept hb
      replace B := bthen B hb
      replace T := T.kept hb
      replace U := U.kept hb
      clear hb c0 c1 c2 c3 c4 c5 c6 c7 c8 c9 c10 c11 c12 c13 u0 u1 u2 fu0 fu1 fu2
      obtain ⟨_, c0, c1, c2, c3, c4, c5, c6, c7, c8, c9, c10, c11, c12, c13⟩ := id C
      obtain ⟨_, u0, u1, u2, fu0, fu1, fu2⟩ := id U
      have V := Go.Proofs.YtmagdlcikcgelaaDoor.Bx.Tri.new w5 (.int .i64 t) (.int .i64 q) (.int .i64 r2) 26
      replace C := C.alloc (.cells #[.int .i64 t, .int .i64 q, .int .i64 r2] 26)
      replace T := T.alloc (.cells #[.int .i64 t, .int .i64 q, .int .i64 r2] 26)
      replace U := U.alloc (.cells #[.int .i64 t, .int .i64 q, .int .i64 r2] 26)
      replace B := balloc B (.cells #[.int .i64 t, .int .i64 q, .int .i64 r2] 26)
      clear c0 c1 c2 c3 c4 c5 c6 c7 c8 c9 c10 c11 c12 c13 u0 u1 u2 fu0 fu1 fu2
      obtain ⟨_, c0, c1, c2, c3, c4, c5, c6, c7, c8, c9, c10, c11, c12, c13⟩ := id C
      obtain ⟨_, u0, u1, u2, fu0, fu1, fu2⟩ := id U
      obtain ⟨_, v0, v1, v2, fv0, fv1, fv2⟩ := id V
      go_wp2_with fail
      refine (cB _ T).mono ?_
      rintro e w6 ⟨rfl, hb⟩
      replace C := C.kept hb
      replace B := bthen B hb
      replace T := T.kept hb
      replace U := U.kept hb
      replace V := V.kept hb
      clear hb c0 c1 c2 c3 c4 c5 c6 c7 c8 c9 c10 c11 c12 c13 u0 u1 u2 fu0 fu1 fu2 v0 v1 v2 fv0 fv1 fv2
      obtain ⟨_, c0, c1, c2, c3, c4, c5, c6, c7, c8, c9, c10, c11, c12, c13⟩ := id C
      obtain ⟨_, u0, u1, u2, fu0, fu1, fu2⟩ := id U
      obtain ⟨_, v0, v1, v2, fv0, fv1, fv2⟩ := id V
      clear cA cB
      go_wp2
      go_ret
      exact ⟨by simp, balloc B _⟩
  · have cs := fun w T => Served_any c d 0 e1 w S hm T
    have n1 : (e1 != 0) = true := bne_iff_ne.2 h
    obtain ⟨l0, l1⟩ := l
    clear ok S h
    go_enter Tryd.func5, Tryd.ntmps5
    go_upto_region 1 with fail
    generalize w.alloc (.cells #[.string c.nm, .int .i64 c.k, .int .i64 c.d, .int .i64 c.m, .int .i64 c.s, .int .i64 c.sh, .int .i64 c.p0, .int .i64 c.p1, .int .i64 c.p2, .int .i64 c.cy, .int .i64 c.ex, .int .i64 c.fi, .int .i64 c.la, .int .i64 c.po] 24) = W0 at *
    obtain ⟨_, c0, c1, c2, c3, c4, c5, c6, c7, c8, c9, c10, c11, c12, c13⟩ := id C
    go_wp2_with fail
    refine (dlive_ok _ T).mono ?_
    rintro e w7 ⟨rfl, hb⟩
    replace C := C.kept hb
    replace B := bthen B hb
    replace T := T.kept hb
    clear hb c0 c1 c2 c3 c4 c5 c6 c7 c8 c9 c10 c11 c12 c13
    obtain ⟨_, c0, c1, c2, c3, c4, c5, c6, c7, c8, c9, c10, c11, c12, c13⟩ := id C
    go_wp2_with fail
    refine (ca _ T).mono ?_
    rintro e w8 ⟨rfl, hb⟩
    replace C := C.kept hb
    replace B := bthen B hb
    replace T := T.kept hb
    clear hb c0 c1 c2 c3 c4 c5 c6 c7 c8 c9 c10 c11 c12 c13 
    obtain ⟨_, c0, c1, c2, c3, c4, c5, c6, c7, c8, c9, c10, c11, c12, c13⟩ := id C
    have U := Go.Proofs.YtmagdlcikcgelaaDoor.Bx.Tri.new w8 (.int .i64 0) (.int .i64 0) (.int .i64 0) 26
    replace C := C.alloc (.cells #[.int .i64 0, .int .i64 0, .int .i64 0] 26)
    replace T := T.alloc (.cells #[.int .i64 0, .int .i64 0, .int .i64 0] 26)
    replace B := balloc B (.cells #[.int .i64 0, .int .i64 0, .int .i64 0] 26)
    clear c0 c1 c2 c3 c4 c5 c6 c7 c8 c9 c10 c11 c12 c13 
    obtain ⟨_, c0, c1, c2, c3, c4, c5, c6, c7, c8, c9, c10, c11, c12, c13⟩ := id C
    obtain ⟨_, u0, u1, u2, fu0, fu1, fu2⟩ := id U
    go_wp2_with fail
    refine (cs _ T).mono ?_
    rintro e w9 ⟨rfl, hb⟩
    replace C := C.kept hb
    replace B := bthen B hb
    replace T := T.kept hb
    replace U := U.kept hb
    clear hb c0 c1 c2 c3 c4 c5 c6 c7 c8 c9 c10 c11 c12 c13 u0 u1 u2 fu0 fu1 fu2
    obtain ⟨_, c0, c1, c2, c3, c4, c5, c6, c7, c8, c9, c10, c11, c12, c13⟩ := id C
    obtain ⟨_, u0, u1, u2, fu0, fu1, fu2⟩ := id U
    clear ca cs
    go_wp2
    go_ret
    exact ⟨by simp, B⟩
  · obtain ⟨v, f, S⟩ := serveda_ex c d
    have cs := fun w T => Served_any c d v f w S hm T
    have O : decide (1 ≤ L) = false ∨ (decide (1 ≤ L) = true ∧ decide (L ≤ 5) = false) := by
      unfold LevOk at l
      by_cases h : 1 ≤ L
      · exact .inr ⟨decide_eq_true h, decide_eq_false (by omega)⟩
      · exact .inl (decide_eq_false h)
    clear ok l S
    go_enter Tryd.func5, Tryd.ntmps5
    go_upto_region 1 with fail
    generalize w.alloc (.cells #[.string c.nm, .int .i64 c.k, .int .i64 c.d, .int .i64 c.m, .int .i64 c.s, .int .i64 c.sh, .int .i64 c.p0, .int .i64 c.p1, .int .i64 c.p2, .int .i64 c.cy, .int .i64 c.ex, .int .i64 c.fi, .int .i64 c.la, .int .i64 c.po] 24) = W0 at *
    obtain ⟨_, c0, c1, c2, c3, c4, c5, c6, c7, c8, c9, c10, c11, c12, c13⟩ := id C
    go_wp2_with fail
    refine (dlive_ok _ T).mono ?_
    rintro e w10 ⟨rfl, hb⟩
    replace C := C.kept hb
    replace B := bthen B hb
    replace T := T.kept hb
    clear hb c0 c1 c2 c3 c4 c5 c6 c7 c8 c9 c10 c11 c12 c13
    obtain ⟨_, c0, c1, c2, c3, c4, c5, c6, c7, c8, c9, c10, c11, c12, c13⟩ := id C
    go_wp2_with fail
    refine (ca _ T).mono ?_
    rintro e w11 ⟨rfl, hb⟩
    replace C := C.kept hb
    replace B := bthen B hb
    replace T := T.kept hb
    clear hb c0 c1 c2 c3 c4 c5 c6 c7 c8 c9 c10 c11 c12 c13 
    obtain ⟨_, c0, c1, c2, c3, c4, c5, c6, c7, c8, c9, c10, c11, c12, c13⟩ := id C
    have U := Go.Proofs.YtmagdlcikcgelaaDoor.Bx.Tri.new w11 (.int .i64 0) (.int .i64 0) (.int .i64 0) 26
    replace C := C.alloc (.cells #[.int .i64 0, .int .i64 0, .int .i64 0] 26)
    replace T := T.alloc (.cells #[.int .i64 0, .int .i64 0, .int .i64 0] 26)
    replace B := balloc B (.cells #[.int .i64 0, .int .i64 0, .int .i64 0] 26)
    clear c0 c1 c2 c3 c4 c5 c6 c7 c8 c9 c10 c11 c12 c13 
    obtain ⟨_, c0, c1, c2, c3, c4, c5, c6, c7, c8, c9, c10, c11, c12, c13⟩ := id C
    obtain ⟨_, u0, u1, u2, fu0, fu1, fu2⟩ := id U
    go_wp2_with fail
    refine (cs _ T).mono ?_
    rintro e w12 ⟨rfl, hb⟩
    replace C := C.kept hb
    replace B := bthen B hb
    replace T := T.kept hb
    replace U := U.kept hb
    clear hb c0 c1 c2 c3 c4 c5 c6 c7 c8 c9 c10 c11 c12 c13 u0 u1 u2 fu0 fu1 fu2
    obtain ⟨_, c0, c1, c2, c3, c4, c5, c6, c7, c8, c9, c10, c11, c12, c13⟩ := id C
    obtain ⟨_, u0, u1, u2, fu0, fu1, fu2⟩ := id U
    clear ca cs
    rcases O with d0 | ⟨d0, d1⟩
    all_goals
      go_wp2
      go_ret
      exact ⟨by simp, B⟩
  · have cs := fun w T => Served_any c d 0 1 w ⟨0, 1, .inr (.inr (.inr ⟨no, rfl, rfl⟩)), .inl ⟨by decide, rfl, rfl⟩⟩ hm T
    clear no
    go_enter Tryd.func5, Tryd.ntmps5
    go_upto_region 1 with fail
    generalize w.alloc (.cells #[.string c.nm, .int .i64 c.k, .int .i64 c.d, .int .i64 c.m, .int .i64 c.s, .int .i64 c.sh, .int .i64 c.p0, .int .i64 c.p1, .int .i64 c.p2, .int .i64 c.cy, .int .i64 c.ex, .int .i64 c.fi, .int .i64 c.la, .int .i64 c.po] 24) = W0 at *
    obtain ⟨_, c0, c1, c2, c3, c4, c5, c6, c7, c8, c9, c10, c11, c12, c13⟩ := id C
    go_wp2_with fail
    refine (dlive_ok _ T).mono ?_
    rintro e w13 ⟨rfl, hb⟩
    replace C := C.kept hb
    replace B := bthen B hb
    replace T := T.kept hb
    clear hb c0 c1 c2 c3 c4 c5 c6 c7 c8 c9 c10 c11 c12 c13
    obtain ⟨_, c0, c1, c2, c3, c4, c5, c6, c7, c8, c9, c10, c11, c12, c13⟩ := id C
    go_wp2_with fail
    refine (ca _ T).mono ?_
    rintro e w14 ⟨rfl, hb⟩
    replace C := C.kept hb
    replace B := bthen B hb
    replace T := T.kept hb
    clear hb c0 c1 c2 c3 c4 c5 c6 c7 c8 c9 c10 c11 c12 c13 
    obtain ⟨_, c0, c1, c2, c3, c4, c5, c6, c7, c8, c9, c10, c11, c12, c13⟩ := id C
    have U := Go.Proofs.YtmagdlcikcgelaaDoor.Bx.Tri.new w14 (.int .i64 0) (.int .i64 0) (.int .i64 0) 26
    replace C := C.alloc (.cells #[.int .i64 0, .int .i64 0, .int .i64 0] 26)
    replace T := T.alloc (.cells #[.int .i64 0, .int .i64 0, .int .i64 0] 26)
    replace B := balloc B (.cells #[.int .i64 0, .int .i64 0, .int .i64 0] 26)
    clear c0 c1 c2 c3 c4 c5 c6 c7 c8 c9 c10 c11 c12 c13 
    obtain ⟨_, c0, c1, c2, c3, c4, c5, c6, c7, c8, c9, c10, c11, c12, c13⟩ := id C
    obtain ⟨_, u0, u1, u2, fu0, fu1, fu2⟩ := id U
    go_wp2_with fail
    refine (cs _ T).mono ?_
    rintro e w15 ⟨rfl, hb⟩
    replace C := C.kept hb
    replace B := bthen B hb
    replace T := T.kept hb
    replace U := U.kept hb
    clear hb c0 c1 c2 c3 c4 c5 c6 c7 c8 c9 c10 c11 c12 c13 u0 u1 u2 fu0 fu1 fu2
    obtain ⟨_, c0, c1, c2, c3, c4, c5, c6, c7, c8, c9, c10, c11, c12, c13⟩ := id C
    obtain ⟨_, u0, u1, u2, fu0, fu1, fu2⟩ := id U
    clear ca cs
    by_cases d0 : 1 ≤ L
    · by_cases d1 : L ≤ 5
      all_goals
        go_wp2
        go_ret
        exact ⟨by simp, B⟩
    · go_wp2
      go_ret
      exact ⟨by simp, B⟩

end Go.Proofs.YtmagdlcikcgelaaDoor.Dl
