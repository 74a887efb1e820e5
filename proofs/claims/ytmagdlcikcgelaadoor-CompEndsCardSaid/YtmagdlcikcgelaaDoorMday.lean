/- What around of package comp comes to. -/
import Derived.Test.YtmagdlcikcgelaaDoorMwk
namespace Go.Proofs.YtmagdlcikcgelaaDoor.Mp
set_option linter.unusedSimpArgs false
set_option linter.unusedVariables false
open Go.RowKit Go.Proofs.YtmagdlcikcgelaaDoor.Bn Go.Proofs.YtmagdlcikcgelaaDoor.Bx Go.Proofs.YtmagdlcikcgelaaDoor.Cp Go.Proofs.YtmagdlcikcgelaaDoor.Am Go.Proofs.YtmagdlcikcgelaaDoor.Fp Go.Proofs.YtmagdlcikcgelaaDoor.Ap Go.Proofs.YtmagdlcikcgelaaDoor.Cm Go.Proofs.YtmagdlcikcgelaaDoor.Em Go.Proofs.YtmagdlcikcgelaaDoor.Ep Go.Proofs.YtmagdlcikcgelaaDoor.Rk Go.Proofs.YtmagdlcikcgelaaDoor.Hp Go.Proofs.YtmagdlcikcgelaaDoor.Ip Go.Proofs.YtmagdlcikcgelaaDoor.Jp Go.Proofs.YtmagdlcikcgelaaDoor.Dp

set_option maxHeartbeats 4000000

set_option maxRecDepth 100000 in
theorem around_any (c : CalZ) (d L y i a b : Int) (w : World) (R : DayA c d L L y i 0) (ha : a = uend c y L (i - 1) + 1) (hb' : b = uend c y L i) (hm : c.nm.size ≤ maxLen) (T : FTab w) :
    Calls Tryd.prog 92 #[.agg #[.string c.nm, .int .i64 c.k, .int .i64 c.d, .int .i64 c.m, .int .i64 c.s, .int .i64 c.sh, .int .i64 c.p0, .int .i64 c.p1, .int .i64 c.p2, .int .i64 c.cy, .int .i64 c.ex, .int .i64 c.fi, .int .i64 c.la, .int .i64 c.po], .int .i64 d, .int .i64 L] w fun e w' => e = .returned (.tuple #[.agg #[.int .i64 L, .int .i64 y, .int .i64 i], .agg #[.int .i64 a, .int .i64 b]]) ∧ Below w.heap.size w w' := by
  have C := CalIn.new w c 24
  have B := balloc (Below.refl _ w) (.cells #[.string c.nm, .int .i64 c.k, .int .i64 c.d, .int .i64 c.m, .int .i64 c.s, .int .i64 c.sh, .int .i64 c.p0, .int .i64 c.p1, .int .i64 c.p2, .int .i64 c.cy, .int .i64 c.ex, .int .i64 c.fi, .int .i64 c.la, .int .i64 c.po] 24)
  replace T := T.alloc (.cells #[.string c.nm, .int .i64 c.k, .int .i64 c.d, .int .i64 c.m, .int .i64 c.s, .int .i64 c.sh, .int .i64 c.p0, .int .i64 c.p1, .int .i64 c.p2, .int .i64 c.cy, .int .i64 c.ex, .int .i64 c.fi, .int .i64 c.la, .int .i64 c.po] 24)
  have U := Go.Proofs.YtmagdlcikcgelaaDoor.Bx.Tri.new (w.alloc (.cells #[.string c.nm, .int .i64 c.k, .int .i64 c.d, .int .i64 c.m, .int .i64 c.s, .int .i64 c.sh, .int .i64 c.p0, .int .i64 c.p1, .int .i64 c.p2, .int .i64 c.cy, .int .i64 c.ex, .int .i64 c.fi, .int .i64 c.la, .int .i64 c.po] 24)) (.int .i64 0) (.int .i64 0) (.int .i64 0) 26
  have S := Go.Proofs.YtmagdlcikcgelaaDoor.Pr.Two.new ((w.alloc (.cells #[.string c.nm, .int .i64 c.k, .int .i64 c.d, .int .i64 c.m, .int .i64 c.s, .int .i64 c.sh, .int .i64 c.p0, .int .i64 c.p1, .int .i64 c.p2, .int .i64 c.cy, .int .i64 c.ex, .int .i64 c.fi, .int .i64 c.la, .int .i64 c.po] 24)).alloc (.cells #[.int .i64 0, .int .i64 0, .int .i64 0] 26)) (.int .i64 0) (.int .i64 0) 32
  have z1 : (w.alloc (.cells #[.string c.nm, .int .i64 c.k, .int .i64 c.d, .int .i64 c.m, .int .i64 c.s, .int .i64 c.sh, .int .i64 c.p0, .int .i64 c.p1, .int .i64 c.p2, .int .i64 c.cy, .int .i64 c.ex, .int .i64 c.fi, .int .i64 c.la, .int .i64 c.po] 24)).heap.size = w.heap.size + 1 := by simp
  have z2 : ((w.alloc (.cells #[.string c.nm, .int .i64 c.k, .int .i64 c.d, .int .i64 c.m, .int .i64 c.s, .int .i64 c.sh, .int .i64 c.p0, .int .i64 c.p1, .int .i64 c.p2, .int .i64 c.cy, .int .i64 c.ex, .int .i64 c.fi, .int .i64 c.la, .int .i64 c.po] 24)).alloc (.cells #[.int .i64 0, .int .i64 0, .int .i64 0] 26)).heap.size = w.heap.size + 2 := by simp
  rw [z1] at U
  rw [z2] at S
  replace U := U.alloc (.cells #[.int .i64 0, .int .i64 0] 32)
  replace C := (C.alloc (.cells #[.int .i64 0, .int .i64 0, .int .i64 0] 26)).alloc (.cells #[.int .i64 0, .int .i64 0] 32)
  replace B := balloc (balloc B (.cells #[.int .i64 0, .int .i64 0, .int .i64 0] 26)) (.cells #[.int .i64 0, .int .i64 0] 32)
  replace T := (T.alloc (.cells #[.int .i64 0, .int .i64 0, .int .i64 0] 26)).alloc (.cells #[.int .i64 0, .int .i64 0] 32)
  clear z1 z2
  have un := (daya_to R).1
  have cd := fun w T => Day_any c d L L y i 0 w R hm T
  have cs := fun w T => Span_any c L y i a b 0 w (.inl ⟨un, ha, hb', rfl⟩) hm T
  clear R ha hb' un
  go_enter Tryd.func92, Tryd.ntmps92
  go_upto_region 1 with fail
  generalize (((w.alloc (.cells #[.string c.nm, .int .i64 c.k, .int .i64 c.d, .int .i64 c.m, .int .i64 c.s, .int .i64 c.sh, .int .i64 c.p0, .int .i64 c.p1, .int .i64 c.p2, .int .i64 c.cy, .int .i64 c.ex, .int .i64 c.fi, .int .i64 c.la, .int .i64 c.po] 24)).alloc (.cells #[.int .i64 0, .int .i64 0, .int .i64 0] 26)).alloc (.cells #[.int .i64 0, .int .i64 0] 32)) = W0 at *
  obtain ⟨_, c0, c1, c2, c3, c4, c5, c6, c7, c8, c9, c10, c11, c12, c13⟩ := id C
  obtain ⟨_, u0, u1, u2, fu0, fu1, fu2⟩ := id U
  obtain ⟨_, s0, s1, fs0, fs1⟩ := id S
  go_wp2_with fail
  refine (cd _ T).mono ?_
  rintro e w1 ⟨rfl, hb⟩
  replace C := C.kept hb
  replace B := bthen B hb
  replace T := T.kept hb
  replace U := U.kept hb
  replace S := S.kept hb
  clear hb c0 c1 c2 c3 c4 c5 c6 c7 c8 c9 c10 c11 c12 c13 u0 u1 u2 fu0 fu1 fu2 s0 s1 fs0 fs1
  obtain ⟨_, c0, c1, c2, c3, c4, c5, c6, c7, c8, c9, c10, c11, c12, c13⟩ := id C
  obtain ⟨_, u0, u1, u2, fu0, fu1, fu2⟩ := id U
  obtain ⟨_, s0, s1, fs0, fs1⟩ := id S
  have V := Go.Proofs.YtmagdlcikcgelaaDoor.Bx.Tri.new w1 (.int .i64 L) (.int .i64 y) (.int .i64 i) 26
  replace C := C.alloc (.cells #[.int .i64 L, .int .i64 y, .int .i64 i] 26)
  replace T := T.alloc (.cells #[.int .i64 L, .int .i64 y, .int .i64 i] 26)
  replace U := U.alloc (.cells #[.int .i64 L, .int .i64 y, .int .i64 i] 26)
  replace S := S.alloc (.cells #[.int .i64 L, .int .i64 y, .int .i64 i] 26)
  replace B := balloc B (.cells #[.int .i64 L, .int .i64 y, .int .i64 i] 26)
  clear c0 c1 c2 c3 c4 c5 c6 c7 c8 c9 c10 c11 c12 c13 u0 u1 u2 fu0 fu1 fu2 s0 s1 fs0 fs1
  obtain ⟨_, c0, c1, c2, c3, c4, c5, c6, c7, c8, c9, c10, c11, c12, c13⟩ := id C
  obtain ⟨_, u0, u1, u2, fu0, fu1, fu2⟩ := id U
  obtain ⟨_, s0, s1, fs0, fs1⟩ := id S
  obtain ⟨_, v0, v1, v2, fv0, fv1, fv2⟩ := id V
  go_wp2_with fail
  refine (cs _ T).mono ?_
  rintro e w2 ⟨rfl, hb⟩
  replace C := C.kept hb
  replace B := bthen B hb
  replace T := T.kept hb
  replace U := U.kept hb
  replace S := S.kept hb
  replace V := V.kept hb
  clear hb c0 c1 c2 c3 c4 c5 c6 c7 c8 c9 c10 c11 c12 c13 u0 u1 u2 fu0 fu1 fu2 s0 s1 fs0 fs1 v0 v1 v2 fv0 fv1 fv2
  obtain ⟨_, c0, c1, c2, c3, c4, c5, c6, c7, c8, c9, c10, c11, c12, c13⟩ := id C
  obtain ⟨_, u0, u1, u2, fu0, fu1, fu2⟩ := id U
  obtain ⟨_, s0, s1, fs0, fs1⟩ := id S
  obtain ⟨_, v0, v1, v2, fv0, fv1, fv2⟩ := id V
  obtain ⟨_, x0, x1, x2, fx0, fx1, fx2⟩ := id U
  obtain ⟨_, y0, y1, fy0, fy1⟩ := id S
  obtain ⟨_, z0, z1, z2, fz0, fz1, fz2⟩ := id V
  have B6 := B
  have K := Go.Proofs.YtmagdlcikcgelaaDoor.Pr.Two.new w2 (.int .i64 a) (.int .i64 b) 32
  replace C := C.alloc (.cells #[.int .i64 a, .int .i64 b] 32)
  replace T := T.alloc (.cells #[.int .i64 a, .int .i64 b] 32)
  replace U := U.alloc (.cells #[.int .i64 a, .int .i64 b] 32)
  replace S := S.alloc (.cells #[.int .i64 a, .int .i64 b] 32)
  replace V := V.alloc (.cells #[.int .i64 a, .int .i64 b] 32)
  replace B := balloc B (.cells #[.int .i64 a, .int .i64 b] 32)
  clear c0 c1 c2 c3 c4 c5 c6 c7 c8 c9 c10 c11 c12 c13 u0 u1 u2 fu0 fu1 fu2 s0 s1 fs0 fs1 v0 v1 v2 fv0 fv1 fv2
  obtain ⟨_, c0, c1, c2, c3, c4, c5, c6, c7, c8, c9, c10, c11, c12, c13⟩ := id C
  obtain ⟨_, u0, u1, u2, fu0, fu1, fu2⟩ := id U
  obtain ⟨_, s0, s1, fs0, fs1⟩ := id S
  obtain ⟨_, v0, v1, v2, fv0, fv1, fv2⟩ := id V
  obtain ⟨_, k0, k1, fk0, fk1⟩ := id K
  clear cd cs
  go_upto_region 3 with fail
  go_region
  all_goals
    go_wp2
    refine bodyPost_ret (v := .tuple #[.agg #[.int .i64 L, .int .i64 y, .int .i64 i], .agg #[.int .i64 a, .int .i64 b]]) (by simp [results, Tryd.results92, go_sem, *]) rfl ⟨rfl, ?_⟩
    exact (balloc (bset (bset (bset (bset (bset B6 (by omega) _ _) (by omega) _ _) (by omega) _ _) (by omega) _ _) (by omega) _ _) _).drew

theorem dropa_bd {x a b : Int} (x0 : 1 ≤ x) (x1 : x ≤ 53) : 0 ≤ dropA x a b ∧ dropA x a b ≤ 54 := by
  unfold dropA
  repeat' split
  all_goals omega
theorem pola_bd {c : CalZ} {y t x v er : Int} (ok : CalOk c) (k6 : c.k ≠ 6) (y0 : 1601 ≤ y) (y1 : y ≤ 9997) (t0 : 1601 ≤ t) (t1 : t ≤ 9997) (x0 : 1 ≤ x) (x1 : x ≤ 53) (P : PolA c y t x v er) : 0 ≤ v ∧ v ≤ 54 := by
  have n := (nweeks_01 ok.1 k6 y0 (by omega)).1
  have m := (nweeks_01 ok.1 k6 t0 (by omega)).1
  have bt := addw_bd ok k6 t0 t1
  rcases P with ⟨_, rfl, _⟩ | ⟨_, rfl, _⟩ | ⟨_, ⟨_, _, rfl, _⟩ | ⟨_, _, rfl, _⟩ | ⟨_, rfl, _⟩⟩
  · omega
  · omega
  · omega
  · omega
  · have := dropa_bd (a := addw c y) (b := addw c t) x0 x1; omega

set_option maxRecDepth 100000 in
theorem dayOfWeek_any (c : CalZ) (y d t v er : Int) (w : World) (ok : CalOk c) (k6 : c.k ≠ 6) (sy : Served c y) (st : Served c t) (p0 : yend c (y - 1) < d) (p1 : d ≤ yend c y) (R : WdayA c y t d v er) (hm : c.nm.size ≤ maxLen) (T : FTab w) :
    Calls Tryd.prog 58 #[.agg #[.string c.nm, .int .i64 c.k, .int .i64 c.d, .int .i64 c.m, .int .i64 c.s, .int .i64 c.sh, .int .i64 c.p0, .int .i64 c.p1, .int .i64 c.p2, .int .i64 c.cy, .int .i64 c.ex, .int .i64 c.fi, .int .i64 c.la, .int .i64 c.po], .int .i64 d, .int .i64 t] w fun e w' => e = .returned (.tuple #[.int .i64 v, .int .i64 er]) ∧ Below w.heap.size w w' := by
  have C := CalIn.new w c 24
  have B := balloc (Below.refl _ w) (.cells #[.string c.nm, .int .i64 c.k, .int .i64 c.d, .int .i64 c.m, .int .i64 c.s, .int .i64 c.sh, .int .i64 c.p0, .int .i64 c.p1, .int .i64 c.p2, .int .i64 c.cy, .int .i64 c.ex, .int .i64 c.fi, .int .i64 c.la, .int .i64 c.po] 24)
  replace T := T.alloc (.cells #[.string c.nm, .int .i64 c.k, .int .i64 c.d, .int .i64 c.m, .int .i64 c.s, .int .i64 c.sh, .int .i64 c.p0, .int .i64 c.p1, .int .i64 c.p2, .int .i64 c.cy, .int .i64 c.ex, .int .i64 c.fi, .int .i64 c.la, .int .i64 c.po] 24)
  obtain ⟨i, x, i0, i1, P, hv, hv0⟩ := R
  have wa := week_at ok k6 sy p0 p1 i0 i1
  have ty := served_told ok sy
  have tt := served_told ok st
  have nb := (nweeks_01 ok.1 k6 (y := y) (by omega) (by omega)).1
  have xb := pola_bd ok k6 (by omega) (by omega) (by omega) (by omega) wa.2.2.2.1 (by omega) P
  have un : UnitOk c 5 y i := ⟨ok, ⟨by omega, by omega⟩, sy, wa.1.1, wa.1.2.1⟩
  obtain ⟨a, ha⟩ : ∃ a, a = uend c y 5 (i - 1) + 1 := ⟨_, rfl⟩
  obtain ⟨b, hb'⟩ : ∃ b, b = uend c y 5 i := ⟨_, rfl⟩
  obtain ⟨f, hf⟩ : ∃ f, f = yend c (t - 1) + 1 := ⟨_, rfl⟩
  have ca := fun w T => around_any c d 5 y i a b w (daya_of un wa.1.2.2.1 wa.1.2.2.2) ha hb' hm T
  have cw := fun w T => Week_any c y t i x er w (.inl ⟨ok, k6, sy, st, wa.2.2.2.1, wa.2.2.2.2.1, P⟩) hm T
  have cs := fun w T => Start_any c t f 0 w (.inl ⟨ok, by omega, by omega, hf, rfl⟩) hm T
  have fb := yend_bd ok.1 (y := t - 1) (by omega) (by omega)
  have yb := yend_bd ok.1 (y := y - 1) (by omega) (by omega)
  have yb2 := yend_bd ok.1 (y := y) (by omega) (by omega)
  have bd : 0 ≤ f ∧ f ≤ 3068037 ∧ 0 ≤ a ∧ a ≤ 3068037 ∧ 0 ≤ d ∧ d ≤ 3068036 := by omega
  obtain ⟨f0, f1, a0, a1, d0, d1⟩ := bd
  obtain ⟨x0, x1⟩ := xb
  have E := pola_er P
  have ev : er = 0 → v = f + (x - 1) * 7 + d - a := fun h => by have := hv h; omega
  have O : (er = 0 ∧ v = f + (x - 1) * 7 + d - a) ∨ ((er != 0) = true ∧ v = 0) := by
    rcases E with h | h
    · exact .inl ⟨h, ev h⟩
    · exact .inr ⟨bne_iff_ne.2 (by omega), hv0 (by omega)⟩
  clear ok k6 sy st p0 p1 i0 i1 P hv hv0 wa ty tt nb un ha hb' hf fb yb yb2 E ev
  go_enter Tryd.func58, Tryd.ntmps58
  go_upto_region 1 with fail
  generalize w.alloc (.cells #[.string c.nm, .int .i64 c.k, .int .i64 c.d, .int .i64 c.m, .int .i64 c.s, .int .i64 c.sh, .int .i64 c.p0, .int .i64 c.p1, .int .i64 c.p2, .int .i64 c.cy, .int .i64 c.ex, .int .i64 c.fi, .int .i64 c.la, .int .i64 c.po] 24) = W0 at *
  obtain ⟨_, c0, c1, c2, c3, c4, c5, c6, c7, c8, c9, c10, c11, c12, c13⟩ := id C
  go_wp2_with fail
  refine (ca _ T).mono ?_
  rintro e w1 ⟨rfl, hb⟩
  replace C := C.kept hb
  replace B := bthen B hb
  replace T := T.kept hb
  clear hb c0 c1 c2 c3 c4 c5 c6 c7 c8 c9 c10 c11 c12 c13 
  obtain ⟨_, c0, c1, c2, c3, c4, c5, c6, c7, c8, c9, c10, c11, c12, c13⟩ := id C
  have V := Go.Proofs.YtmagdlcikcgelaaDoor.Bx.Tri.new w1 (.int .i64 5) (.int .i64 y) (.int .i64 i) 26
  replace C := C.alloc (.cells #[.int .i64 5, .int .i64 y, .int .i64 i] 26)
  replace T := T.alloc (.cells #[.int .i64 5, .int .i64 y, .int .i64 i] 26)
  replace B := balloc B (.cells #[.int .i64 5, .int .i64 y, .int .i64 i] 26)
  clear c0 c1 c2 c3 c4 c5 c6 c7 c8 c9 c10 c11 c12 c13 
  obtain ⟨_, c0, c1, c2, c3, c4, c5, c6, c7, c8, c9, c10, c11, c12, c13⟩ := id C
  have K := Go.Proofs.YtmagdlcikcgelaaDoor.Pr.Two.new (w1.alloc (.cells #[.int .i64 5, .int .i64 y, .int .i64 i] 26)) (.int .i64 a) (.int .i64 b) 32
  rw [World.size_alloc] at K
  replace V := V.alloc (.cells #[.int .i64 a, .int .i64 b] 32)
  replace C := C.alloc (.cells #[.int .i64 a, .int .i64 b] 32)
  replace T := T.alloc (.cells #[.int .i64 a, .int .i64 b] 32)
  replace B := balloc B (.cells #[.int .i64 a, .int .i64 b] 32)
  clear c0 c1 c2 c3 c4 c5 c6 c7 c8 c9 c10 c11 c12 c13 
  obtain ⟨_, c0, c1, c2, c3, c4, c5, c6, c7, c8, c9, c10, c11, c12, c13⟩ := id C
  obtain ⟨_, v0, v1, v2, fv0, fv1, fv2⟩ := id V
  obtain ⟨_, k0, k1, fk0, fk1⟩ := id K
  go_wp2_with fail
  refine (cw _ T).mono ?_
  rintro e w2 ⟨rfl, hb⟩
  replace C := C.kept hb
  replace B := bthen B hb
  replace T := T.kept hb
  replace V := V.kept hb
  replace K := K.kept hb
  clear hb c0 c1 c2 c3 c4 c5 c6 c7 c8 c9 c10 c11 c12 c13 v0 v1 v2 fv0 fv1 fv2 k0 k1 fk0 fk1
  obtain ⟨_, c0, c1, c2, c3, c4, c5, c6, c7, c8, c9, c10, c11, c12, c13⟩ := id C
  obtain ⟨_, v0, v1, v2, fv0, fv1, fv2⟩ := id V
  obtain ⟨_, k0, k1, fk0, fk1⟩ := id K
  rcases O with ⟨rfl, rfl⟩ | ⟨n1, rfl⟩
  · go_wp2_with fail
    refine (cs _ T).mono ?_
    rintro e w3 ⟨rfl, hb⟩
    replace C := C.kept hb
    replace B := bthen B hb
    replace T := T.kept hb
    replace V := V.kept hb
    replace K := K.kept hb
    clear hb c0 c1 c2 c3 c4 c5 c6 c7 c8 c9 c10 c11 c12 c13 v0 v1 v2 fv0 fv1 fv2 k0 k1 fk0 fk1
    obtain ⟨_, c0, c1, c2, c3, c4, c5, c6, c7, c8, c9, c10, c11, c12, c13⟩ := id C
    obtain ⟨_, v0, v1, v2, fv0, fv1, fv2⟩ := id V
    obtain ⟨_, k0, k1, fk0, fk1⟩ := id K
    go_wp2
    go_ret2
    exact ⟨by simp, B⟩
  · go_wp2
    go_ret2
    exact ⟨by simp, B⟩

set_option maxRecDepth 100000 in
theorem dayOfPeriod_any (c : CalZ) (y d t v : Int) (w : World) (ok : CalOk c) (sy : Served c y) (st : Served c t) (p0 : yend c (y - 1) < d) (p1 : d ≤ yend c y) (R : MdayA c y t d v) (hm : c.nm.size ≤ maxLen) (T : FTab w) :
    Calls Tryd.prog 57 #[.agg #[.string c.nm, .int .i64 c.k, .int .i64 c.d, .int .i64 c.m, .int .i64 c.s, .int .i64 c.sh, .int .i64 c.p0, .int .i64 c.p1, .int .i64 c.p2, .int .i64 c.cy, .int .i64 c.ex, .int .i64 c.fi, .int .i64 c.la, .int .i64 c.po], .int .i64 d, .int .i64 t] w fun e w' => e = .returned (.int .i64 v) ∧ Below w.heap.size w w' := by
  have C := CalIn.new w c 24
  have B := balloc (Below.refl _ w) (.cells #[.string c.nm, .int .i64 c.k, .int .i64 c.d, .int .i64 c.m, .int .i64 c.s, .int .i64 c.sh, .int .i64 c.p0, .int .i64 c.p1, .int .i64 c.p2, .int .i64 c.cy, .int .i64 c.ex, .int .i64 c.fi, .int .i64 c.la, .int .i64 c.po] 24)
  replace T := T.alloc (.cells #[.string c.nm, .int .i64 c.k, .int .i64 c.d, .int .i64 c.m, .int .i64 c.s, .int .i64 c.sh, .int .i64 c.p0, .int .i64 c.p1, .int .i64 c.p2, .int .i64 c.cy, .int .i64 c.ex, .int .i64 c.fi, .int .i64 c.la, .int .i64 c.po] 24)
  obtain ⟨i, I, hv⟩ := R
  have ty := served_told ok sy
  have tt := served_told ok st
  have un : UnitOk c 4 y i := ⟨ok, ⟨by omega, by omega⟩, sy, I.1, I.2.1⟩
  have uc := (ucount_is c y).2.2.2.1
  have uc2 := (ucount_is c t).2.2.2.1
  have vn : UnitOk c 4 t i := ⟨ok, ⟨by omega, by omega⟩, st, I.1, by have := I.2.1; omega⟩
  have pb := per_bd ok.1
  have e0 : ∀ z j, uend c z 4 j = pend c z j := fun z j => uend_4 ..
  have q0 := pend_bd ok.1 (y := y) (p := i - 1) (by omega) (by omega) (by have := I.1; omega) (by have := I.2.1; omega)
  have q1 := pend_bd ok.1 (y := t) (p := i - 1) (by omega) (by omega) (by have := I.1; omega) (by have := I.2.1; omega)
  have q2 := pend_bd ok.1 (y := t) (p := i) (by omega) (by omega) (by have := I.1; omega) (by have := I.2.1; omega)
  obtain ⟨a, ha⟩ : ∃ a, a = uend c y 4 (i - 1) + 1 := ⟨_, rfl⟩
  obtain ⟨b, hb'⟩ : ∃ b, b = uend c y 4 i := ⟨_, rfl⟩
  obtain ⟨f, hf⟩ : ∃ f, f = uend c t 4 (i - 1) + 1 := ⟨_, rfl⟩
  obtain ⟨g, hg⟩ : ∃ g, g = uend c t 4 i := ⟨_, rfl⟩
  have ca := fun w T => around_any c d 4 y i a b w (daya_of un I.2.2.1 I.2.2.2) ha hb' hm T
  have cs := fun w T => Span_any c 4 t i f g 0 w (.inl ⟨vn, hf, hg, rfl⟩) hm T
  have yb := yend_bd ok.1 (y := y - 1) (by omega) (by omega)
  have yb2 := yend_bd ok.1 (y := y) (by omega) (by omega)
  simp only [e0] at ha hb' hf hg
  have O : (f + d - a ≤ g ∧ v = f + d - a) ∨ (g < f + d - a ∧ g = v) := by
    rw [hv, ha, hf, hg]
    omega
  have bd : 0 ≤ f ∧ f ≤ 3068037 ∧ 0 ≤ a ∧ a ≤ 3068037 ∧ 0 ≤ d ∧ d ≤ 3068036 ∧ 0 ≤ g ∧ g ≤ 3068036 := by omega
  obtain ⟨f0, f1, a0, a1, d0, d1, g0, g1⟩ := bd
  clear ok sy st p0 p1 I hv ty tt un uc uc2 vn pb e0 q0 q1 q2 ha hb' hf hg yb yb2
  rcases O with ⟨hle, rfl⟩ | ⟨hle, rfl⟩
  all_goals
    go_enter Tryd.func57, Tryd.ntmps57
    go_upto_region 1 with fail
    generalize w.alloc (.cells #[.string c.nm, .int .i64 c.k, .int .i64 c.d, .int .i64 c.m, .int .i64 c.s, .int .i64 c.sh, .int .i64 c.p0, .int .i64 c.p1, .int .i64 c.p2, .int .i64 c.cy, .int .i64 c.ex, .int .i64 c.fi, .int .i64 c.la, .int .i64 c.po] 24) = W0 at *
    obtain ⟨_, c0, c1, c2, c3, c4, c5, c6, c7, c8, c9, c10, c11, c12, c13⟩ := id C
    go_wp2_with fail
    refine (ca _ T).mono ?_
    rintro e w1 ⟨rfl, hb⟩
    replace C := C.kept hb
    replace B := bthen B hb
    replace T := T.kept hb
    clear hb c0 c1 c2 c3 c4 c5 c6 c7 c8 c9 c10 c11 c12 c13 
    obtain ⟨_, c0, c1, c2, c3, c4, c5, c6, c7, c8, c9, c10, c11, c12, c13⟩ := id C
    have V := Go.Proofs.YtmagdlcikcgelaaDoor.Bx.Tri.new w1 (.int .i64 4) (.int .i64 t) (.int .i64 i) 26
    replace C := C.alloc (.cells #[.int .i64 4, .int .i64 t, .int .i64 i] 26)
    replace T := T.alloc (.cells #[.int .i64 4, .int .i64 t, .int .i64 i] 26)
    replace B := balloc B (.cells #[.int .i64 4, .int .i64 t, .int .i64 i] 26)
    clear c0 c1 c2 c3 c4 c5 c6 c7 c8 c9 c10 c11 c12 c13 
    obtain ⟨_, c0, c1, c2, c3, c4, c5, c6, c7, c8, c9, c10, c11, c12, c13⟩ := id C
    have K := Go.Proofs.YtmagdlcikcgelaaDoor.Pr.Two.new (w1.alloc (.cells #[.int .i64 4, .int .i64 t, .int .i64 i] 26)) (.int .i64 a) (.int .i64 b) 32
    rw [World.size_alloc] at K
    replace V := V.alloc (.cells #[.int .i64 a, .int .i64 b] 32)
    replace C := C.alloc (.cells #[.int .i64 a, .int .i64 b] 32)
    replace T := T.alloc (.cells #[.int .i64 a, .int .i64 b] 32)
    replace B := balloc B (.cells #[.int .i64 a, .int .i64 b] 32)
    clear c0 c1 c2 c3 c4 c5 c6 c7 c8 c9 c10 c11 c12 c13 
    obtain ⟨_, c0, c1, c2, c3, c4, c5, c6, c7, c8, c9, c10, c11, c12, c13⟩ := id C
    obtain ⟨_, v0, v1, v2, fv0, fv1, fv2⟩ := id V
    obtain ⟨_, k0, k1, fk0, fk1⟩ := id K
    go_wp2_with fail
    refine (cs _ T).mono ?_
    rintro e w2 ⟨rfl, hb⟩
    replace C := C.kept hb
    replace B := bthen B hb
    replace T := T.kept hb
    replace V := V.kept hb
    replace K := K.kept hb
    clear hb c0 c1 c2 c3 c4 c5 c6 c7 c8 c9 c10 c11 c12 c13 v0 v1 v2 fv0 fv1 fv2 k0 k1 fk0 fk1
    obtain ⟨_, c0, c1, c2, c3, c4, c5, c6, c7, c8, c9, c10, c11, c12, c13⟩ := id C
    obtain ⟨_, v0, v1, v2, fv0, fv1, fv2⟩ := id V
    obtain ⟨_, k0, k1, fk0, fk1⟩ := id K
    obtain ⟨_, x0, x1, fx0, fx1⟩ := id K
    have S := Go.Proofs.YtmagdlcikcgelaaDoor.Pr.Two.new w2 (.int .i64 f) (.int .i64 g) 32
    replace C := C.alloc (.cells #[.int .i64 f, .int .i64 g] 32)
    replace T := T.alloc (.cells #[.int .i64 f, .int .i64 g] 32)
    replace V := V.alloc (.cells #[.int .i64 f, .int .i64 g] 32)
    replace K := K.alloc (.cells #[.int .i64 f, .int .i64 g] 32)
    replace B := balloc B (.cells #[.int .i64 f, .int .i64 g] 32)
    clear c0 c1 c2 c3 c4 c5 c6 c7 c8 c9 c10 c11 c12 c13 v0 v1 v2 fv0 fv1 fv2 k0 k1 fk0 fk1
    obtain ⟨_, c0, c1, c2, c3, c4, c5, c6, c7, c8, c9, c10, c11, c12, c13⟩ := id C
    obtain ⟨_, v0, v1, v2, fv0, fv1, fv2⟩ := id V
    obtain ⟨_, k0, k1, fk0, fk1⟩ := id K
    obtain ⟨_, s0, s1, fs0, fs1⟩ := id S
    clear ca cs
    go_wp2
    go_ret
    exact ⟨by simp <;> omega, B⟩

set_option maxRecDepth 100000 in
theorem CDay_any (c : CalZ) (d k v er : Int) (w : World) (R : CDayA c d k v er) (wk : (Lit.int .i64 k).wf = true) (hm : c.nm.size ≤ maxLen) (T : FTab w) :
    Calls Tryd.prog 29 #[.agg #[.string c.nm, .int .i64 c.k, .int .i64 c.d, .int .i64 c.m, .int .i64 c.s, .int .i64 c.sh, .int .i64 c.p0, .int .i64 c.p1, .int .i64 c.p2, .int .i64 c.cy, .int .i64 c.ex, .int .i64 c.fi, .int .i64 c.la, .int .i64 c.po], .int .i64 d, .int .i64 k] w fun e w' => e = .returned (.tuple #[.int .i64 v, .int .i64 er]) ∧ Below w.heap.size w w' := by
  have C := CalIn.new w c 24
  have B := balloc (Below.refl _ w) (.cells #[.string c.nm, .int .i64 c.k, .int .i64 c.d, .int .i64 c.m, .int .i64 c.s, .int .i64 c.sh, .int .i64 c.p0, .int .i64 c.p1, .int .i64 c.p2, .int .i64 c.cy, .int .i64 c.ex, .int .i64 c.fi, .int .i64 c.la, .int .i64 c.po] 24)
  replace T := T.alloc (.cells #[.string c.nm, .int .i64 c.k, .int .i64 c.d, .int .i64 c.m, .int .i64 c.s, .int .i64 c.sh, .int .i64 c.p0, .int .i64 c.p1, .int .i64 c.p2, .int .i64 c.cy, .int .i64 c.ex, .int .i64 c.fi, .int .i64 c.la, .int .i64 c.po] 24)
  obtain ⟨y, e, S, O⟩ := R
  have cs := fun w T => Served_any c d y e w S hm T
  rcases O with ⟨h, rfl, rfl⟩ | ⟨rfl, ns, rfl, rfl⟩ | ⟨rfl, st, k6, R⟩ | ⟨rfl, st, k6, R, rfl⟩
  · have n1 : (er != 0) = true := bne_iff_ne.2 h
    clear S h
    go_enter Tryd.func29, Tryd.ntmps29
    go_upto_region 1 with fail
    generalize w.alloc (.cells #[.string c.nm, .int .i64 c.k, .int .i64 c.d, .int .i64 c.m, .int .i64 c.s, .int .i64 c.sh, .int .i64 c.p0, .int .i64 c.p1, .int .i64 c.p2, .int .i64 c.cy, .int .i64 c.ex, .int .i64 c.fi, .int .i64 c.la, .int .i64 c.po] 24) = W0 at *
    obtain ⟨_, c0, c1, c2, c3, c4, c5, c6, c7, c8, c9, c10, c11, c12, c13⟩ := id C
    go_wp2_with fail
    refine (cs _ T).mono ?_
    rintro e w1 ⟨rfl, hb⟩
    replace C := C.kept hb
    replace B := bthen B hb
    replace T := T.kept hb
    clear hb c0 c1 c2 c3 c4 c5 c6 c7 c8 c9 c10 c11 c12 c13
    obtain ⟨_, c0, c1, c2, c3, c4, c5, c6, c7, c8, c9, c10, c11, c12, c13⟩ := id C
    go_wp2
    go_ret2
    exact ⟨rfl, B⟩
  · obtain ⟨ok, sy, _, _⟩ := served_to S
    have ty := served_told ok sy
    have yo := ok.2.2.1
    obtain ⟨o0, o1, o2, o3⟩ := yo
    obtain ⟨s0, s1⟩ := sy
    have O : k < c.fi - y ∨ (c.fi - y ≤ k ∧ c.la - y < k) := by
      unfold Served at ns
      omega
    clear S ok ty ns
    rcases O with h | ⟨h, h'⟩
    all_goals
      go_enter Tryd.func29, Tryd.ntmps29
      go_upto_region 1 with fail
      generalize w.alloc (.cells #[.string c.nm, .int .i64 c.k, .int .i64 c.d, .int .i64 c.m, .int .i64 c.s, .int .i64 c.sh, .int .i64 c.p0, .int .i64 c.p1, .int .i64 c.p2, .int .i64 c.cy, .int .i64 c.ex, .int .i64 c.fi, .int .i64 c.la, .int .i64 c.po] 24) = W0 at *
      obtain ⟨_, c0, c1, c2, c3, c4, c5, c6, c7, c8, c9, c10, c11, c12, c13⟩ := id C
      go_wp2_with fail
      refine (cs _ T).mono ?_
      rintro e w2 ⟨rfl, hb⟩
      replace C := C.kept hb
      replace B := bthen B hb
      replace T := T.kept hb
      clear hb c0 c1 c2 c3 c4 c5 c6 c7 c8 c9 c10 c11 c12 c13
      obtain ⟨_, c0, c1, c2, c3, c4, c5, c6, c7, c8, c9, c10, c11, c12, c13⟩ := id C
      go_wp2
      go_ret2
      exact ⟨rfl, B⟩
  · obtain ⟨ok, sy, p0, p1⟩ := served_to S
    have ty := served_told ok sy
    have tt := served_told ok st
    have cd := fun w T => dayOfWeek_any c y d (y + k) v er w ok k6 sy st p0 p1 R hm T
    have d6 : (c.k == 6) = false := beq_eq_false_iff_ne.2 k6
    obtain ⟨s0, s1⟩ := sy
    obtain ⟨q0, q1⟩ := st
    have yo := ok.2.2.1
    obtain ⟨o0, o1, o2, o3⟩ := yo
    have h1 : c.fi - y ≤ k := by omega
    have h2 : k ≤ c.la - y := by omega
    clear S ok k6 p0 p1 R q0 q1
    go_enter Tryd.func29, Tryd.ntmps29
    go_upto_region 1 with fail
    generalize w.alloc (.cells #[.string c.nm, .int .i64 c.k, .int .i64 c.d, .int .i64 c.m, .int .i64 c.s, .int .i64 c.sh, .int .i64 c.p0, .int .i64 c.p1, .int .i64 c.p2, .int .i64 c.cy, .int .i64 c.ex, .int .i64 c.fi, .int .i64 c.la, .int .i64 c.po] 24) = W0 at *
    obtain ⟨_, c0, c1, c2, c3, c4, c5, c6, c7, c8, c9, c10, c11, c12, c13⟩ := id C
    go_wp2_with fail
    refine (cs _ T).mono ?_
    rintro e w3 ⟨rfl, hb⟩
    replace C := C.kept hb
    replace B := bthen B hb
    replace T := T.kept hb
    clear hb c0 c1 c2 c3 c4 c5 c6 c7 c8 c9 c10 c11 c12 c13
    obtain ⟨_, c0, c1, c2, c3, c4, c5, c6, c7, c8, c9, c10, c11, c12, c13⟩ := id C
    go_wp2_with fail
    refine (cd _ T).mono ?_
    rintro e w4 ⟨rfl, hb⟩
    replace C := C.kept hb
    replace B := bthen B hb
    replace T := T.kept hb
    clear hb c0 c1 c2 c3 c4 c5 c6 c7 c8 c9 c10 c11 c12 c13
    obtain ⟨_, c0, c1, c2, c3, c4, c5, c6, c7, c8, c9, c10, c11, c12, c13⟩ := id C
    go_wp2
    go_ret2
    exact ⟨rfl, B⟩
  · obtain ⟨ok, sy, p0, p1⟩ := served_to S
    have ty := served_told ok sy
    have tt := served_told ok st
    have cd := fun w T => dayOfPeriod_any c y d (y + k) v w ok sy st p0 p1 R hm T
    have d6 : (c.k == 6) = true := by rw [k6]; rfl
    obtain ⟨s0, s1⟩ := sy
    obtain ⟨q0, q1⟩ := st
    have yo := ok.2.2.1
    obtain ⟨o0, o1, o2, o3⟩ := yo
    have h1 : c.fi - y ≤ k := by omega
    have h2 : k ≤ c.la - y := by omega
    clear S ok k6 p0 p1 R q0 q1
    go_enter Tryd.func29, Tryd.ntmps29
    go_upto_region 1 with fail
    generalize w.alloc (.cells #[.string c.nm, .int .i64 c.k, .int .i64 c.d, .int .i64 c.m, .int .i64 c.s, .int .i64 c.sh, .int .i64 c.p0, .int .i64 c.p1, .int .i64 c.p2, .int .i64 c.cy, .int .i64 c.ex, .int .i64 c.fi, .int .i64 c.la, .int .i64 c.po] 24) = W0 at *
    obtain ⟨_, c0, c1, c2, c3, c4, c5, c6, c7, c8, c9, c10, c11, c12, c13⟩ := id C
    go_wp2_with fail
    refine (cs _ T).mono ?_
    rintro e w5 ⟨rfl, hb⟩
    replace C := C.kept hb
    replace B := bthen B hb
    replace T := T.kept hb
    clear hb c0 c1 c2 c3 c4 c5 c6 c7 c8 c9 c10 c11 c12 c13
    obtain ⟨_, c0, c1, c2, c3, c4, c5, c6, c7, c8, c9, c10, c11, c12, c13⟩ := id C
    go_wp2_with fail
    refine (cd _ T).mono ?_
    rintro e w6 ⟨rfl, hb⟩
    replace C := C.kept hb
    replace B := bthen B hb
    replace T := T.kept hb
    clear hb c0 c1 c2 c3 c4 c5 c6 c7 c8 c9 c10 c11 c12 c13
    obtain ⟨_, c0, c1, c2, c3, c4, c5, c6, c7, c8, c9, c10, c11, c12, c13⟩ := id C
    go_wp2
    go_ret2
    exact ⟨rfl, B⟩

end Go.Proofs.YtmagdlcikcgelaaDoor.Mp
