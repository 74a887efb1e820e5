/- CompRises' walk. -/
import Derived.Test.YtmagdlcikcgelaaDoorMlive
import Derived.Test.YtmagdlcikcgelaaDoorMlaw2
namespace Go.Proofs.YtmagdlcikcgelaaDoor.Ml
set_option linter.unusedSimpArgs false
set_option linter.unusedVariables false
open Go.RowKit Go.Proofs.YtmagdlcikcgelaaDoor.Bn Go.Proofs.YtmagdlcikcgelaaDoor.Bx Go.Proofs.YtmagdlcikcgelaaDoor.Cp Go.Proofs.YtmagdlcikcgelaaDoor.Am Go.Proofs.YtmagdlcikcgelaaDoor.Fp Go.Proofs.YtmagdlcikcgelaaDoor.Ap Go.Proofs.YtmagdlcikcgelaaDoor.Cm Go.Proofs.YtmagdlcikcgelaaDoor.Em Go.Proofs.YtmagdlcikcgelaaDoor.Ep Go.Proofs.YtmagdlcikcgelaaDoor.Rk Go.Proofs.YtmagdlcikcgelaaDoor.Hp Go.Proofs.YtmagdlcikcgelaaDoor.Ip Go.Proofs.YtmagdlcikcgelaaDoor.Jp Go.Proofs.YtmagdlcikcgelaaDoor.Dp Go.Proofs.YtmagdlcikcgelaaDoor.Mp

set_option maxHeartbeats 8000000

set_option maxRecDepth 100000 in
theorem rises_walk (c : CalZ) (d n k : Int) (w : World) (wf : CalWf c) (wd : (Lit.int .i64 d).wf = true) (wn : (Lit.int .i64 n).wf = true) (wk : (Lit.int .i64 k).wf = true) (tb : FTab w) :
    Calls Tryd.prog 11 #[.agg #[.string c.nm, .int .i64 c.k, .int .i64 c.d, .int .i64 c.m, .int .i64 c.s, .int .i64 c.sh, .int .i64 c.p0, .int .i64 c.p1, .int .i64 c.p2, .int .i64 c.cy, .int .i64 c.ex, .int .i64 c.fi, .int .i64 c.la, .int .i64 c.po], .int .i64 d, .int .i64 n, .int .i64 k] w fun e w' => e = .returned (.bool true) ∧ Below w.heap.size w w' := by
  have T := tb
  have C := CalIn.new w c 24
  have B := balloc (Below.refl _ w) (.cells #[.string c.nm, .int .i64 c.k, .int .i64 c.d, .int .i64 c.m, .int .i64 c.s, .int .i64 c.sh, .int .i64 c.p0, .int .i64 c.p1, .int .i64 c.p2, .int .i64 c.cy, .int .i64 c.ex, .int .i64 c.fi, .int .i64 c.la, .int .i64 c.po] 24)
  replace T := T.alloc (.cells #[.string c.nm, .int .i64 c.k, .int .i64 c.d, .int .i64 c.m, .int .i64 c.s, .int .i64 c.sh, .int .i64 c.p0, .int .i64 c.p1, .int .i64 c.p2, .int .i64 c.cy, .int .i64 c.ex, .int .i64 c.fi, .int .i64 c.la, .int .i64 c.po] 24)
  have hm := wf.1
  by_cases hl : 100 < c.nm.size
  · have dl : decide ((100 : Int) < (c.nm.size : Int)) = true := decide_eq_true (by omega)
    clear hl
    go_enter Tryd.func11, Tryd.ntmps11
    go_upto_region 1 with fail
    generalize w.alloc (.cells #[.string c.nm, .int .i64 c.k, .int .i64 c.d, .int .i64 c.m, .int .i64 c.s, .int .i64 c.sh, .int .i64 c.p0, .int .i64 c.p1, .int .i64 c.p2, .int .i64 c.cy, .int .i64 c.ex, .int .i64 c.fi, .int .i64 c.la, .int .i64 c.po] 24) = W0 at *
    obtain ⟨_, c0, c1, c2, c3, c4, c5, c6, c7, c8, c9, c10, c11, c12, c13⟩ := id C
    go_wp2_with fail
    refine (mlive_ok _ T).mono ?_
    rintro e w1 ⟨rfl, hb⟩
    replace C := C.kept hb
    replace B := bthen B hb
    replace T := T.kept hb
    clear hb c0 c1 c2 c3 c4 c5 c6 c7 c8 c9 c10 c11 c12 c13
    obtain ⟨_, c0, c1, c2, c3, c4, c5, c6, c7, c8, c9, c10, c11, c12, c13⟩ := id C
    go_wp2
    go_ret
    exact ⟨by simp <;> omega, B⟩
  have dl : decide ((100 : Int) < (c.nm.size : Int)) = false := decide_eq_false (by omega)
  clear hl
  by_cases k6 : c.k = 6
  · have d6 : (c.k == 6) = true := by rw [k6]; rfl
    clear k6
    go_enter Tryd.func11, Tryd.ntmps11
    go_upto_region 1 with fail
    generalize w.alloc (.cells #[.string c.nm, .int .i64 c.k, .int .i64 c.d, .int .i64 c.m, .int .i64 c.s, .int .i64 c.sh, .int .i64 c.p0, .int .i64 c.p1, .int .i64 c.p2, .int .i64 c.cy, .int .i64 c.ex, .int .i64 c.fi, .int .i64 c.la, .int .i64 c.po] 24) = W0 at *
    obtain ⟨_, c0, c1, c2, c3, c4, c5, c6, c7, c8, c9, c10, c11, c12, c13⟩ := id C
    go_wp2_with fail
    refine (mlive_ok _ T).mono ?_
    rintro e w2 ⟨rfl, hb⟩
    replace C := C.kept hb
    replace B := bthen B hb
    replace T := T.kept hb
    clear hb c0 c1 c2 c3 c4 c5 c6 c7 c8 c9 c10 c11 c12 c13
    obtain ⟨_, c0, c1, c2, c3, c4, c5, c6, c7, c8, c9, c10, c11, c12, c13⟩ := id C
    go_wp2
    go_ret
    exact ⟨by simp <;> omega, B⟩
  have d6 : (c.k == 6) = false := beq_eq_false_iff_ne.2 k6
  by_cases n0 : n < 1
  · have dn : decide (n < 1) = true := decide_eq_true n0
    clear k6 n0
    go_enter Tryd.func11, Tryd.ntmps11
    go_upto_region 1 with fail
    generalize w.alloc (.cells #[.string c.nm, .int .i64 c.k, .int .i64 c.d, .int .i64 c.m, .int .i64 c.s, .int .i64 c.sh, .int .i64 c.p0, .int .i64 c.p1, .int .i64 c.p2, .int .i64 c.cy, .int .i64 c.ex, .int .i64 c.fi, .int .i64 c.la, .int .i64 c.po] 24) = W0 at *
    obtain ⟨_, c0, c1, c2, c3, c4, c5, c6, c7, c8, c9, c10, c11, c12, c13⟩ := id C
    go_wp2_with fail
    refine (mlive_ok _ T).mono ?_
    rintro e w3 ⟨rfl, hb⟩
    replace C := C.kept hb
    replace B := bthen B hb
    replace T := T.kept hb
    clear hb c0 c1 c2 c3 c4 c5 c6 c7 c8 c9 c10 c11 c12 c13
    obtain ⟨_, c0, c1, c2, c3, c4, c5, c6, c7, c8, c9, c10, c11, c12, c13⟩ := id C
    go_wp2
    go_ret
    exact ⟨by simp <;> omega, B⟩
  by_cases n1 : 371 < n
  · have dn : decide (n < 1) = false := decide_eq_false n0
    have dn1 : decide (371 < n) = true := decide_eq_true n1
    clear k6 n0 n1
    go_enter Tryd.func11, Tryd.ntmps11
    go_upto_region 1 with fail
    generalize w.alloc (.cells #[.string c.nm, .int .i64 c.k, .int .i64 c.d, .int .i64 c.m, .int .i64 c.s, .int .i64 c.sh, .int .i64 c.p0, .int .i64 c.p1, .int .i64 c.p2, .int .i64 c.cy, .int .i64 c.ex, .int .i64 c.fi, .int .i64 c.la, .int .i64 c.po] 24) = W0 at *
    obtain ⟨_, c0, c1, c2, c3, c4, c5, c6, c7, c8, c9, c10, c11, c12, c13⟩ := id C
    go_wp2_with fail
    refine (mlive_ok _ T).mono ?_
    rintro e w4 ⟨rfl, hb⟩
    replace C := C.kept hb
    replace B := bthen B hb
    replace T := T.kept hb
    clear hb c0 c1 c2 c3 c4 c5 c6 c7 c8 c9 c10 c11 c12 c13
    obtain ⟨_, c0, c1, c2, c3, c4, c5, c6, c7, c8, c9, c10, c11, c12, c13⟩ := id C
    go_wp2
    go_ret
    exact ⟨by simp <;> omega, B⟩
  have dn : decide (n < 1) = false := decide_eq_false n0
  have dn1 : decide (371 < n) = false := decide_eq_false n1
  obtain ⟨y, e, S⟩ := serveda_ex c d
  have cs := fun w T => Served_any c d y e w S hm T
  by_cases h : e = 0
  case neg =>
    have e1 : (e != 0) = true := bne_iff_ne.2 h
    clear S h k6 n0 n1
    go_enter Tryd.func11, Tryd.ntmps11
    go_upto_region 1 with fail
    generalize w.alloc (.cells #[.string c.nm, .int .i64 c.k, .int .i64 c.d, .int .i64 c.m, .int .i64 c.s, .int .i64 c.sh, .int .i64 c.p0, .int .i64 c.p1, .int .i64 c.p2, .int .i64 c.cy, .int .i64 c.ex, .int .i64 c.fi, .int .i64 c.la, .int .i64 c.po] 24) = W0 at *
    obtain ⟨_, c0, c1, c2, c3, c4, c5, c6, c7, c8, c9, c10, c11, c12, c13⟩ := id C
    go_wp2_with fail
    refine (mlive_ok _ T).mono ?_
    rintro e w5 ⟨rfl, hb⟩
    replace C := C.kept hb
    replace B := bthen B hb
    replace T := T.kept hb
    clear hb c0 c1 c2 c3 c4 c5 c6 c7 c8 c9 c10 c11 c12 c13
    obtain ⟨_, c0, c1, c2, c3, c4, c5, c6, c7, c8, c9, c10, c11, c12, c13⟩ := id C
    go_wp2_with fail
    refine (cs _ T).mono ?_
    rintro e w6 ⟨rfl, hb⟩
    replace C := C.kept hb
    replace B := bthen B hb
    replace T := T.kept hb
    clear hb c0 c1 c2 c3 c4 c5 c6 c7 c8 c9 c10 c11 c12 c13
    obtain ⟨_, c0, c1, c2, c3, c4, c5, c6, c7, c8, c9, c10, c11, c12, c13⟩ := id C
    go_wp2
    go_ret
    exact ⟨by simp <;> omega, B⟩
  subst h
  obtain ⟨ok, sy, p0, p1⟩ := served_to S
  have ty := served_told ok sy
  have yb := yend_bd ok.1 (y := y - 1) (by omega) (by omega)
  have yb2 := yend_bd ok.1 (y := y) (by omega) (by omega)
  obtain ⟨z, f, S2⟩ := serveda_ex c (d + n)
  have cs2 := fun w T => Served_any c (d + n) z f w S2 hm T
  obtain ⟨bd0, bd1⟩ : 0 ≤ d ∧ d ≤ 3068036 := by omega
  by_cases g : f = 0 ∧ y = z
  case neg =>
    have O : (f != 0) = true ∨ ((f != 0) = false ∧ (y != z) = true) := by
      by_cases q : f = 0
      · exact .inr ⟨by rw [q]; rfl, bne_iff_ne.2 (fun x => g ⟨q, x⟩)⟩
      · exact .inl (bne_iff_ne.2 q)
    clear S S2 g k6 ok sy p0 p1 ty yb yb2
    rcases O with O | ⟨O, O2⟩
    all_goals
      go_enter Tryd.func11, Tryd.ntmps11
      go_upto_region 1 with fail
      generalize w.alloc (.cells #[.string c.nm, .int .i64 c.k, .int .i64 c.d, .int .i64 c.m, .int .i64 c.s, .int .i64 c.sh, .int .i64 c.p0, .int .i64 c.p1, .int .i64 c.p2, .int .i64 c.cy, .int .i64 c.ex, .int .i64 c.fi, .int .i64 c.la, .int .i64 c.po] 24) = W0 at *
      obtain ⟨_, c0, c1, c2, c3, c4, c5, c6, c7, c8, c9, c10, c11, c12, c13⟩ := id C
      go_wp2_with fail
      refine (mlive_ok _ T).mono ?_
      rintro e w7 ⟨rfl, hb⟩
      replace C := C.kept hb
      replace B := bthen B hb
      replace T := T.kept hb
      clear hb c0 c1 c2 c3 c4 c5 c6 c7 c8 c9 c10 c11 c12 c13
      obtain ⟨_, c0, c1, c2, c3, c4, c5, c6, c7, c8, c9, c10, c11, c12, c13⟩ := id C
      go_wp2_with fail
      refine (cs _ T).mono ?_
      rintro e w8 ⟨rfl, hb⟩
      replace C := C.kept hb
      replace B := bthen B hb
      replace T := T.kept hb
      clear hb c0 c1 c2 c3 c4 c5 c6 c7 c8 c9 c10 c11 c12 c13
      obtain ⟨_, c0, c1, c2, c3, c4, c5, c6, c7, c8, c9, c10, c11, c12, c13⟩ := id C
      go_wp2_with fail
      refine (cs2 _ T).mono ?_
      rintro e w9 ⟨rfl, hb⟩
      replace C := C.kept hb
      replace B := bthen B hb
      replace T := T.kept hb
      clear hb c0 c1 c2 c3 c4 c5 c6 c7 c8 c9 c10 c11 c12 c13
      obtain ⟨_, c0, c1, c2, c3, c4, c5, c6, c7, c8, c9, c10, c11, c12, c13⟩ := id C
      go_wp2
      go_ret
      exact ⟨by simp <;> omega, B⟩
  obtain ⟨rfl, rfl⟩ := g
  obtain ⟨_, _, q0, q1⟩ := served_to S2
  have X : ∃ v er x fr, CDayA c d k v er ∧ CDayA c (d + n) k x fr ∧ (((er != 0) = true ∧ (er == fr) = true) ∨ ((er != 0) = true ∧ (er == fr) = false ∧ (er == 12) = true) ∨ ((er != 0) = false ∧ (fr != 0) = true ∧ (er == fr) = false ∧ (er == 12) = false ∧ (fr == 12) = true) ∨
      (er = 0 ∧ fr = 0 ∧ 0 ≤ v + 100 ∧ v ≤ 3068136 ∧ 0 ≤ x + 100 ∧ x ≤ 3068136 ∧ v < x ∧ (x - v - n = 0 ∨ ((x - v - n == 0) = false ∧ (c.po == 3) = true ∧ (x - v - n = 7 ∨ x - v - n = -7))))) := by
    rcases cday_for k S k6 with ⟨ns, A⟩ | ⟨st, i, u, v, er, i0, i1, i2, i3, P, A, E⟩
    · rcases cday_for k S2 k6 with ⟨_, D⟩ | ⟨st, _⟩
      · exact ⟨0, 11, 0, 11, A, D, .inl ⟨rfl, rfl⟩⟩
      · exact absurd st ns
    · rcases cday_for k S2 k6 with ⟨ns, _⟩ | ⟨_, j, u2, x, fr, j0, j1, j2, j3, Q, D, G⟩
      · exact absurd st ns
      · refine ⟨v, er, x, fr, A, D, ?_⟩
        have tt := served_told ok st
        have tb0 := yend_bd ok.1 (y := y + k - 1) (by omega) (by omega)
        have tb1 := yend_bd ok.1 (y := y + k) (by omega) (by omega)
        rcases E with ⟨rfl, hv⟩ | ⟨rfl, rfl⟩ <;> rcases G with ⟨rfl, hx⟩ | ⟨rfl, rfl⟩
        · have R := pol_rise ok k6 (by omega) (by omega) (by omega) (by omega) i2 (by omega) j3 P Q
          have U1 := pol_bd ok k6 (by omega) (by omega) (by omega) (by omega) i2 i3 P
          have U2 := pol_bd ok k6 (by omega) (by omega) (by omega) (by omega) j2 j3 Q
          have n1 := (nweeks_01 ok.1 k6 (y := y) (by omega) (by omega)).1
          have n2 := (nweeks_01 ok.1 k6 (y := y + k) (by omega) (by omega)).1
          have n3 := (nweeks_01 ok.1 k6 (y := y + k) (by omega) (by omega)).2
          refine .inr (.inr (.inr ⟨rfl, rfl, by omega, by omega, by omega, by omega, by omega, ?_⟩))
          by_cases q : x - v - n = 0
          · exact .inl q
          · refine .inr ⟨beq_eq_false_iff_ne.2 q, ?_, by omega⟩
            have : c.po = 3 := by omega
            rw [this]; rfl
        · exact .inr (.inr (.inl ⟨rfl, rfl, rfl, rfl, rfl⟩))
        · exact .inr (.inl ⟨rfl, rfl, rfl⟩)
        · exact .inl ⟨rfl, rfl⟩
  obtain ⟨v, er, x, fr, A, D, O⟩ := X
  have ca := fun w T => CDay_any c d k v er w A wk hm T
  have cd := fun w T => CDay_any c (d + n) k x fr w D wk hm T
  have O' := Lib.hid O
  clear S S2 A D O k6 ok sy p0 p1 ty yb yb2 q0 q1
  go_enter Tryd.func11, Tryd.ntmps11
  go_upto_region 1 with fail
  generalize w.alloc (.cells #[.string c.nm, .int .i64 c.k, .int .i64 c.d, .int .i64 c.m, .int .i64 c.s, .int .i64 c.sh, .int .i64 c.p0, .int .i64 c.p1, .int .i64 c.p2, .int .i64 c.cy, .int .i64 c.ex, .int .i64 c.fi, .int .i64 c.la, .int .i64 c.po] 24) = W0 at *
  obtain ⟨_, c0, c1, c2, c3, c4, c5, c6, c7, c8, c9, c10, c11, c12, c13⟩ := id C
  go_wp2_with fail
  refine (mlive_ok _ T).mono ?_
  rintro e w10 ⟨rfl, hb⟩
  replace C := C.kept hb
  replace B := bthen B hb
  replace T := T.kept hb
  clear hb c0 c1 c2 c3 c4 c5 c6 c7 c8 c9 c10 c11 c12 c13
  obtain ⟨_, c0, c1, c2, c3, c4, c5, c6, c7, c8, c9, c10, c11, c12, c13⟩ := id C
  go_wp2_with fail
  refine (cs _ T).mono ?_
  rintro e w11 ⟨rfl, hb⟩
  replace C := C.kept hb
  replace B := bthen B hb
  replace T := T.kept hb
  clear hb c0 c1 c2 c3 c4 c5 c6 c7 c8 c9 c10 c11 c12 c13
  obtain ⟨_, c0, c1, c2, c3, c4, c5, c6, c7, c8, c9, c10, c11, c12, c13⟩ := id C
  go_wp2_with fail
  refine (cs2 _ T).mono ?_
  rintro e w12 ⟨rfl, hb⟩
  replace C := C.kept hb
  replace B := bthen B hb
  replace T := T.kept hb
  clear hb c0 c1 c2 c3 c4 c5 c6 c7 c8 c9 c10 c11 c12 c13
  obtain ⟨_, c0, c1, c2, c3, c4, c5, c6, c7, c8, c9, c10, c11, c12, c13⟩ := id C
  go_wp2_with fail
  refine (ca _ T).mono ?_
  rintro e w13 ⟨rfl, hb⟩
  replace C := C.kept hb
  replace B := bthen B hb
  replace T := T.kept hb
  clear hb c0 c1 c2 c3 c4 c5 c6 c7 c8 c9 c10 c11 c12 c13
  obtain ⟨_, c0, c1, c2, c3, c4, c5, c6, c7, c8, c9, c10, c11, c12, c13⟩ := id C
  go_wp2_with fail
  refine (cd _ T).mono ?_
  rintro e w14 ⟨rfl, hb⟩
  replace C := C.kept hb
  replace B := bthen B hb
  replace T := T.kept hb
  clear hb c0 c1 c2 c3 c4 c5 c6 c7 c8 c9 c10 c11 c12 c13
  obtain ⟨_, c0, c1, c2, c3, c4, c5, c6, c7, c8, c9, c10, c11, c12, c13⟩ := id C
  rcases O'.out with ⟨g1, g2⟩ | ⟨g1, g2, g3⟩ | ⟨g1, g2, g3, g4, g5⟩ | ⟨rfl, rfl, v0, v1, x0, x1, lt, z | ⟨z1, z2, z3 | z3⟩⟩
  · go_wp2
    go_ret
    exact ⟨by simp [*], B⟩
  · go_wp2
    go_ret
    exact ⟨by simp [*], B⟩
  · go_wp2
    go_ret
    exact ⟨by simp [*], B⟩
  all_goals
    go_wp2
    go_ret
    exact ⟨by simp [*], B⟩

end Go.Proofs.YtmagdlcikcgelaaDoor.Ml
