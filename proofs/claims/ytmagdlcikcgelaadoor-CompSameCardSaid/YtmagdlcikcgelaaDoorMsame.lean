/- CompSame's walk. -/
import Derived.Test.YtmagdlcikcgelaaDoorMlive
import Derived.Test.YtmagdlcikcgelaaDoorMlaw
namespace Go.Proofs.YtmagdlcikcgelaaDoor.Ml
set_option linter.unusedSimpArgs false
set_option linter.unusedVariables false
open Go.RowKit Go.Proofs.YtmagdlcikcgelaaDoor.Bn Go.Proofs.YtmagdlcikcgelaaDoor.Bx Go.Proofs.YtmagdlcikcgelaaDoor.Cp Go.Proofs.YtmagdlcikcgelaaDoor.Am Go.Proofs.YtmagdlcikcgelaaDoor.Fp Go.Proofs.YtmagdlcikcgelaaDoor.Ap Go.Proofs.YtmagdlcikcgelaaDoor.Cm Go.Proofs.YtmagdlcikcgelaaDoor.Em Go.Proofs.YtmagdlcikcgelaaDoor.Ep Go.Proofs.YtmagdlcikcgelaaDoor.Rk Go.Proofs.YtmagdlcikcgelaaDoor.Hp Go.Proofs.YtmagdlcikcgelaaDoor.Ip Go.Proofs.YtmagdlcikcgelaaDoor.Jp Go.Proofs.YtmagdlcikcgelaaDoor.Dp Go.Proofs.YtmagdlcikcgelaaDoor.Mp

set_option maxHeartbeats 4000000

set_option maxRecDepth 100000 in
theorem same_walk (c : CalZ) (d : Int) (w : World) (wf : CalWf c) (wd : (Lit.int .i64 d).wf = true) (tb : FTab w) :
    Calls Tryd.prog 8 #[.agg #[.string c.nm, .int .i64 c.k, .int .i64 c.d, .int .i64 c.m, .int .i64 c.s, .int .i64 c.sh, .int .i64 c.p0, .int .i64 c.p1, .int .i64 c.p2, .int .i64 c.cy, .int .i64 c.ex, .int .i64 c.fi, .int .i64 c.la, .int .i64 c.po], .int .i64 d] w fun e w' => e = .returned (.bool true) ∧ Below w.heap.size w w' := by
  have T := tb
  have C := CalIn.new w c 24
  have B := balloc (Below.refl _ w) (.cells #[.string c.nm, .int .i64 c.k, .int .i64 c.d, .int .i64 c.m, .int .i64 c.s, .int .i64 c.sh, .int .i64 c.p0, .int .i64 c.p1, .int .i64 c.p2, .int .i64 c.cy, .int .i64 c.ex, .int .i64 c.fi, .int .i64 c.la, .int .i64 c.po] 24)
  replace T := T.alloc (.cells #[.string c.nm, .int .i64 c.k, .int .i64 c.d, .int .i64 c.m, .int .i64 c.s, .int .i64 c.sh, .int .i64 c.p0, .int .i64 c.p1, .int .i64 c.p2, .int .i64 c.cy, .int .i64 c.ex, .int .i64 c.fi, .int .i64 c.la, .int .i64 c.po] 24)
  have hm := wf.1
  by_cases hl : 100 < c.nm.size
  · have dl : decide ((100 : Int) < (c.nm.size : Int)) = true := decide_eq_true (by omega)
    clear hl
    go_enter Tryd.func8, Tryd.ntmps8
    go_upto_region 1 with fail
    generalize w.alloc (.cells #[.string c.nm, .int .i64 c.k, .int .i64 c.d, .int .i64 c.m, .int .i64 c.s, .int .i64 c.sh, .int .i64 c.p0, .int .i64 c.p1, .int .i64 c.p2, .int .i64 c.cy, .int .i64 c.ex, .int .i64 c.fi, .int .i64 c.la, .int .i64 c.po] 24) = W0 at *
    obtain ⟨_, c0, c1, c2, c3, c4, c5, c6, c7, c8, c9, c10, c11, c12, c13⟩ := id C
    go_wp2_with fail
    refine (mlive_ok _ T).mono ?_
    rintro e w1 ⟨rfl, hb⟩
    replace C := C.kept hb
    replace B := bthen B hb
    replace T := T.kept hb
    clear hb c0 c1 c2 c3 c4 c5 c6 c7 c8 c9 c10 c11 c12 c13
    obtain ⟨_, c0, c1, c2, c3, c4, c5, c6, c7, c8, c9, c10, c11, c12, c13⟩ := id C
    go_wp2
    go_ret
    exact ⟨by simp <;> omega, B⟩
  have dl : decide ((100 : Int) < (c.nm.size : Int)) = false := decide_eq_false (by omega)
  clear hl
  obtain ⟨y, e, S⟩ := serveda_ex c d
  have cs := fun w T => Served_any c d y e w S hm T
  by_cases h : e = 0
  · subst h
    have cd := fun w T => CDay_any c d 0 d 0 w (same_day S) (by decide) hm T
    clear S
    go_enter Tryd.func8, Tryd.ntmps8
    go_upto_region 1 with fail
    generalize w.alloc (.cells #[.string c.nm, .int .i64 c.k, .int .i64 c.d, .int .i64 c.m, .int .i64 c.s, .int .i64 c.sh, .int .i64 c.p0, .int .i64 c.p1, .int .i64 c.p2, .int .i64 c.cy, .int .i64 c.ex, .int .i64 c.fi, .int .i64 c.la, .int .i64 c.po] 24) = W0 at *
    obtain ⟨_, c0, c1, c2, c3, c4, c5, c6, c7, c8, c9, c10, c11, c12, c13⟩ := id C
    go_wp2_with fail
    refine (mlive_ok _ T).mono ?_
    rintro e w2 ⟨rfl, hb⟩
    replace C := C.kept hb
    replace B := bthen B hb
    replace T := T.kept hb
    clear hb c0 c1 c2 c3 c4 c5 c6 c7 c8 c9 c10 c11 c12 c13
    obtain ⟨_, c0, c1, c2, c3, c4, c5, c6, c7, c8, c9, c10, c11, c12, c13⟩ := id C
    go_wp2_with fail
    refine (cs _ T).mono ?_
    rintro e w3 ⟨rfl, hb⟩
    replace C := C.kept hb
    replace B := bthen B hb
    replace T := T.kept hb
    clear hb c0 c1 c2 c3 c4 c5 c6 c7 c8 c9 c10 c11 c12 c13
    obtain ⟨_, c0, c1, c2, c3, c4, c5, c6, c7, c8, c9, c10, c11, c12, c13⟩ := id C
    go_wp2_with fail
    refine (cd _ T).mono ?_
    rintro e w4 ⟨rfl, hb⟩
    replace C := C.kept hb
    replace B := bthen B hb
    replace T := T.kept hb
    clear hb c0 c1 c2 c3 c4 c5 c6 c7 c8 c9 c10 c11 c12 c13
    obtain ⟨_, c0, c1, c2, c3, c4, c5, c6, c7, c8, c9, c10, c11, c12, c13⟩ := id C
    go_wp2
    go_ret
    exact ⟨by simp <;> omega, B⟩
  · have n1 : (e != 0) = true := bne_iff_ne.2 h
    have cd := fun w T => CDay_any c d 0 0 e w (cday_no S h) (by decide) hm T
    clear S h
    go_enter Tryd.func8, Tryd.ntmps8
    go_upto_region 1 with fail
    generalize w.alloc (.cells #[.string c.nm, .int .i64 c.k, .int .i64 c.d, .int .i64 c.m, .int .i64 c.s, .int .i64 c.sh, .int .i64 c.p0, .int .i64 c.p1, .int .i64 c.p2, .int .i64 c.cy, .int .i64 c.ex, .int .i64 c.fi, .int .i64 c.la, .int .i64 c.po] 24) = W0 at *
    obtain ⟨_, c0, c1, c2, c3, c4, c5, c6, c7, c8, c9, c10, c11, c12, c13⟩ := id C
    go_wp2_with fail
    refine (mlive_ok _ T).mono ?_
    rintro e w5 ⟨rfl, hb⟩
    replace C := C.kept hb
    replace B := bthen B hb
    replace T := T.kept hb
    clear hb c0 c1 c2 c3 c4 c5 c6 c7 c8 c9 c10 c11 c12 c13
    obtain ⟨_, c0, c1, c2, c3, c4, c5, c6, c7, c8, c9, c10, c11, c12, c13⟩ := id C
    go_wp2_with fail
    refine (cs _ T).mono ?_
    rintro e w6 ⟨rfl, hb⟩
    replace C := C.kept hb
    replace B := bthen B hb
    replace T := T.kept hb
    clear hb c0 c1 c2 c3 c4 c5 c6 c7 c8 c9 c10 c11 c12 c13
    obtain ⟨_, c0, c1, c2, c3, c4, c5, c6, c7, c8, c9, c10, c11, c12, c13⟩ := id C
    go_wp2_with fail
    refine (cd _ T).mono ?_
    rintro e w7 ⟨rfl, hb⟩
    replace C := C.kept hb
    replace B := bthen B hb
    replace T := T.kept hb
    clear hb c0 c1 c2 c3 c4 c5 c6 c7 c8 c9 c10 c11 c12 c13
    obtain ⟨_, c0, c1, c2, c3, c4, c5, c6, c7, c8, c9, c10, c11, c12, c13⟩ := id C
    go_wp2
    go_ret
    exact ⟨by simp <;> omega, B⟩

end Go.Proofs.YtmagdlcikcgelaaDoor.Ml
