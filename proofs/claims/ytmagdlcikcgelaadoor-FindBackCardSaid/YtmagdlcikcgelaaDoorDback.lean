/- FindBack's walk. -/
import Derived.Test.YtmagdlcikcgelaaDoorDlive
namespace Go.Proofs.YtmagdlcikcgelaaDoor.Dl
set_option linter.unusedSimpArgs false
set_option linter.unusedVariables false
open Go.RowKit Go.Proofs.YtmagdlcikcgelaaDoor.Bn Go.Proofs.YtmagdlcikcgelaaDoor.Bx Go.Proofs.YtmagdlcikcgelaaDoor.Cp Go.Proofs.YtmagdlcikcgelaaDoor.Am Go.Proofs.YtmagdlcikcgelaaDoor.Fp Go.Proofs.YtmagdlcikcgelaaDoor.Ap Go.Proofs.YtmagdlcikcgelaaDoor.Cm Go.Proofs.YtmagdlcikcgelaaDoor.Em Go.Proofs.YtmagdlcikcgelaaDoor.Ep Go.Proofs.YtmagdlcikcgelaaDoor.Rk Go.Proofs.YtmagdlcikcgelaaDoor.Hp Go.Proofs.YtmagdlcikcgelaaDoor.Ip Go.Proofs.YtmagdlcikcgelaaDoor.Jp Go.Proofs.YtmagdlcikcgelaaDoor.Dp

set_option maxHeartbeats 8000000

set_option maxRecDepth 100000 in
theorem findback_walk (c : CalZ) (d L M y i k : Int) (w : World) (wf : CalWf c) (wd : (Lit.int .i64 d).wf = true) (wL : (Lit.int .i64 L).wf = true) (wM : (Lit.int .i64 M).wf = true) (wy : (Lit.int .i64 y).wf = true) (wi : (Lit.int .i64 i).wf = true) (wk : (Lit.int .i64 k).wf = true) (tb : FTab w) :
    Calls Tryd.prog 3 #[.agg #[.string c.nm, .int .i64 c.k, .int .i64 c.d, .int .i64 c.m, .int .i64 c.s, .int .i64 c.sh, .int .i64 c.p0, .int .i64 c.p1, .int .i64 c.p2, .int .i64 c.cy, .int .i64 c.ex, .int .i64 c.fi, .int .i64 c.la, .int .i64 c.po], .int .i64 d, .int .i64 L, .agg #[.int .i64 M, .int .i64 y, .int .i64 i], .int .i64 k] w fun e w' => e = .returned (.bool true) ∧ Below w.heap.size w w' := by
  have T := tb
  have C := CalIn.new w c 24
  have B := balloc (Below.refl _ w) (.cells #[.string c.nm, .int .i64 c.k, .int .i64 c.d, .int .i64 c.m, .int .i64 c.s, .int .i64 c.sh, .int .i64 c.p0, .int .i64 c.p1, .int .i64 c.p2, .int .i64 c.cy, .int .i64 c.ex, .int .i64 c.fi, .int .i64 c.la, .int .i64 c.po] 24)
  replace T := T.alloc (.cells #[.string c.nm, .int .i64 c.k, .int .i64 c.d, .int .i64 c.m, .int .i64 c.s, .int .i64 c.sh, .int .i64 c.p0, .int .i64 c.p1, .int .i64 c.p2, .int .i64 c.cy, .int .i64 c.ex, .int .i64 c.fi, .int .i64 c.la, .int .i64 c.po] 24)
  have U := Go.Proofs.YtmagdlcikcgelaaDoor.Bx.Tri.new (w.alloc (.cells #[.string c.nm, .int .i64 c.k, .int .i64 c.d, .int .i64 c.m, .int .i64 c.s, .int .i64 c.sh, .int .i64 c.p0, .int .i64 c.p1, .int .i64 c.p2, .int .i64 c.cy, .int .i64 c.ex, .int .i64 c.fi, .int .i64 c.la, .int .i64 c.po] 24)) (.int .i64 M) (.int .i64 y) (.int .i64 i) 26
  rw [World.size_alloc] at U
  replace C := C.alloc (.cells #[.int .i64 M, .int .i64 y, .int .i64 i] 26)
  replace B := balloc B (.cells #[.int .i64 M, .int .i64 y, .int .i64 i] 26)
  replace T := T.alloc (.cells #[.int .i64 M, .int .i64 y, .int .i64 i] 26)
  have hm := wf.1
  by_cases hl : 100 < c.nm.size
  · have dl : decide ((100 : Int) < (c.nm.size : Int)) = true := decide_eq_true (by omega)
    clear hl
    go_enter Tryd.func3, Tryd.ntmps3
    go_upto_region 1 with fail
    generalize (w.alloc (.cells #[.string c.nm, .int .i64 c.k, .int .i64 c.d, .int .i64 c.m, .int .i64 c.s, .int .i64 c.sh, .int .i64 c.p0, .int .i64 c.p1, .int .i64 c.p2, .int .i64 c.cy, .int .i64 c.ex, .int .i64 c.fi, .int .i64 c.la, .int .i64 c.po] 24)).alloc (.cells #[.int .i64 M, .int .i64 y, .int .i64 i] 26) = W0 at *
    obtain ⟨_, c0, c1, c2, c3, c4, c5, c6, c7, c8, c9, c10, c11, c12, c13⟩ := id C
    obtain ⟨_, u0, u1, u2, fu0, fu1, fu2⟩ := id U
    go_wp2_with fail
    refine (dlive_ok _ T).mono ?_
    rintro e w1 ⟨rfl, hb⟩
    replace C := C.kept hb
    replace B := bthen B hb
    replace T := T.kept hb
    replace U := U.kept hb
    clear hb c0 c1 c2 c3 c4 c5 c6 c7 c8 c9 c10 c11 c12 c13 u0 u1 u2 fu0 fu1 fu2
    obtain ⟨_, c0, c1, c2, c3, c4, c5, c6, c7, c8, c9, c10, c11, c12, c13⟩ := id C
    obtain ⟨_, u0, u1, u2, fu0, fu1, fu2⟩ := id U
    go_wp2
    go_ret
    exact ⟨by simp <;> omega, B⟩
  have dl : decide ((100 : Int) < (c.nm.size : Int)) = false := decide_eq_false (by omega)
  clear hl
  obtain ⟨p, q, r, e1, R⟩ := daya_ex c d L
  have ca := fun w T => Day_any c d L p q r e1 w R hm T
  have F1 : ((e1 == 0) = false) ∨ (e1 = 0 ∧ p = L ∧ ∃ a1 b1, decide (d < a1) = false ∧ decide (b1 < d) = false ∧ ∀ w, FTab w → Calls Tryd.prog 16 #[.agg #[.string c.nm, .int .i64 c.k, .int .i64 c.d, .int .i64 c.m, .int .i64 c.s, .int .i64 c.sh, .int .i64 c.p0, .int .i64 c.p1, .int .i64 c.p2, .int .i64 c.cy, .int .i64 c.ex, .int .i64 c.fi, .int .i64 c.la, .int .i64 c.po], .agg #[.int .i64 p, .int .i64 q, .int .i64 r]] w fun e w' => e = .returned (.tuple #[.agg #[.int .i64 a1, .int .i64 b1], .int .i64 0]) ∧ Below w.heap.size w w') := by
    by_cases h : e1 = 0
    · subst h
      obtain ⟨v, l0, l1, e, _⟩ := daya_to R
      subst e
      exact .inr ⟨rfl, rfl, _, _, decide_eq_false (by omega), decide_eq_false (by omega), fun w T => Span_any c p q r _ _ 0 w (.inl ⟨v, rfl, rfl, rfl⟩) hm T⟩
    · exact .inl (beq_eq_false_iff_ne.2 h)
  obtain ⟨a, b, er, S⟩ := spana_ex c M y i
  have cs := fun w T => Span_any c M y i a b er w S hm T
  have F2 : ((er != 0) = true ∧ a = 0 ∧ b = 0) ∨ (er = 0 ∧ 0 ≤ a ∧ a ≤ b ∧ b ≤ 3068036 ∧ (decide (k < 0) = true ∨ (decide (k < 0) = false ∧ decide (b - a < k) = true) ∨ (decide (k < 0) = false ∧ decide (b - a < k) = false ∧ 0 ≤ k ∧ k ≤ b - a ∧
      ∀ w, FTab w → Calls Tryd.prog 15 #[.agg #[.string c.nm, .int .i64 c.k, .int .i64 c.d, .int .i64 c.m, .int .i64 c.s, .int .i64 c.sh, .int .i64 c.p0, .int .i64 c.p1, .int .i64 c.p2, .int .i64 c.cy, .int .i64 c.ex, .int .i64 c.fi, .int .i64 c.la, .int .i64 c.po], .int .i64 (a + k), .int .i64 M] w fun e w' => e = .returned (.tuple #[.agg #[.int .i64 M, .int .i64 y, .int .i64 i], .int .i64 0]) ∧ Below w.heap.size w w'))) := by
    rcases S with ⟨h, ha, hb', rfl⟩ | ⟨no, ck, rfl, rfl⟩
    · have h0 := h
      obtain ⟨ok, l, s, i0, i1⟩ := h
      have st := served_told ok s
      have b0 := uend_bd (y := y) (i := i - 1) ok.1 (by omega) (by omega) l (by omega) (by omega)
      have b1 := uend_bd (y := y) (i := i) ok.1 (by omega) (by omega) l (by omega) (by omega)
      have t := uend_step (y := y) (i := i - 1) ok.1 (by omega) (by omega) l (by omega) (by omega)
      rw [show i - 1 + 1 = i by omega] at t
      refine .inr ⟨rfl, by omega, by omega, by omega, ?_⟩
      by_cases k0 : k < 0
      · exact .inl (decide_eq_true k0)
      · by_cases k1 : b - a < k
        · exact .inr (.inl ⟨decide_eq_false k0, decide_eq_true k1⟩)
        · exact .inr (.inr ⟨decide_eq_false k0, decide_eq_false k1, by omega, by omega, fun w T => Day_any c (a + k) M M y i 0 w (daya_of h0 (by omega) (by omega)) hm T⟩)
    · have n : er ≠ 0 := fun q => no ((uchka_ok ck).1 q)
      exact .inl ⟨bne_iff_ne.2 n, rfl, rfl⟩
  have G2 := Lib.hid F2
  clear F2 R S
  go_enter Tryd.func3, Tryd.ntmps3
  go_upto_region 1 with fail
  generalize (w.alloc (.cells #[.string c.nm, .int .i64 c.k, .int .i64 c.d, .int .i64 c.m, .int .i64 c.s, .int .i64 c.sh, .int .i64 c.p0, .int .i64 c.p1, .int .i64 c.p2, .int .i64 c.cy, .int .i64 c.ex, .int .i64 c.fi, .int .i64 c.la, .int .i64 c.po] 24)).alloc (.cells #[.int .i64 M, .int .i64 y, .int .i64 i] 26) = W0 at *
  obtain ⟨_, c0, c1, c2, c3, c4, c5, c6, c7, c8, c9, c10, c11, c12, c13⟩ := id C
  obtain ⟨_, u0, u1, u2, fu0, fu1, fu2⟩ := id U
  go_wp2_with fail
  refine (dlive_ok _ T).mono ?_
  rintro e w2 ⟨rfl, hb⟩
  replace C := C.kept hb
  replace B := bthen B hb
  replace T := T.kept hb
  replace U := U.kept hb
  clear hb c0 c1 c2 c3 c4 c5 c6 c7 c8 c9 c10 c11 c12 c13 u0 u1 u2 fu0 fu1 fu2
  obtain ⟨_, c0, c1, c2, c3, c4, c5, c6, c7, c8, c9, c10, c11, c12, c13⟩ := id C
  obtain ⟨_, u0, u1, u2, fu0, fu1, fu2⟩ := id U
  go_wp2_with fail
  refine (ca _ T).mono ?_
  rintro e w3 ⟨rfl, hb⟩
  replace C := C.kept hb
  replace B := bthen B hb
  replace T := T.kept hb
  replace U := U.kept hb
  clear hb c0 c1 c2 c3 c4 c5 c6 c7 c8 c9 c10 c11 c12 c13 u0 u1 u2 fu0 fu1 fu2
  obtain ⟨_, c0, c1, c2, c3, c4, c5, c6, c7, c8, c9, c10, c11, c12, c13⟩ := id C
  obtain ⟨_, u0, u1, u2, fu0, fu1, fu2⟩ := id U
  have V := Go.Proofs.YtmagdlcikcgelaaDoor.Bx.Tri.new w3 (.int .i64 p) (.int .i64 q) (.int .i64 r) 26
  replace C := C.alloc (.cells #[.int .i64 p, .int .i64 q, .int .i64 r] 26)
  replace T := T.alloc (.cells #[.int .i64 p, .int .i64 q, .int .i64 r] 26)
  replace U := U.alloc (.cells #[.int .i64 p, .int .i64 q, .int .i64 r] 26)
  replace B := balloc B (.cells #[.int .i64 p, .int .i64 q, .int .i64 r] 26)
  clear c0 c1 c2 c3 c4 c5 c6 c7 c8 c9 c10 c11 c12 c13 u0 u1 u2 fu0 fu1 fu2
  obtain ⟨_, c0, c1, c2, c3, c4, c5, c6, c7, c8, c9, c10, c11, c12, c13⟩ := id C
  obtain ⟨_, u0, u1, u2, fu0, fu1, fu2⟩ := id U
  obtain ⟨_, v0, v1, v2, fv0, fv1, fv2⟩ := id V
  clear ca
  rcases F1 with n1 | ⟨rfl, rfl, a1, b1, l0, l1, cA⟩
  · go_wp2_with fail
    refine (cs _ T).mono ?_
    rintro e w4 ⟨rfl, hb⟩
    replace C := C.kept hb
    replace B := bthen B hb
    replace T := T.kept hb
    replace U := U.kept hb
    replace V := V.kept hb
    clear hb c0 c1 c2 c3 c4 c5 c6 c7 c8 c9 c10 c11 c12 c13 u0 u1 u2 fu0 fu1 fu2 v0 v1 v2 fv0 fv1 fv2
    obtain ⟨_, c0, c1, c2, c3, c4, c5, c6, c7, c8, c9, c10, c11, c12, c13⟩ := id C
    obtain ⟨_, u0, u1, u2, fu0, fu1, fu2⟩ := id U
    obtain ⟨_, v0, v1, v2, fv0, fv1, fv2⟩ := id V
    have K := Go.Proofs.YtmagdlcikcgelaaDoor.Pr.Two.new w4 (.int .i64 a) (.int .i64 b) 32
    replace C := C.alloc (.cells #[.int .i64 a, .int .i64 b] 32)
    replace T := T.alloc (.cells #[.int .i64 a, .int .i64 b] 32)
    replace U := U.alloc (.cells #[.int .i64 a, .int .i64 b] 32)
    replace V := V.alloc (.cells #[.int .i64 a, .int .i64 b] 32)
    replace B := balloc B (.cells #[.int .i64 a, .int .i64 b] 32)
    clear c0 c1 c2 c3 c4 c5 c6 c7 c8 c9 c10 c11 c12 c13 u0 u1 u2 fu0 fu1 fu2 v0 v1 v2 fv0 fv1 fv2
    obtain ⟨_, c0, c1, c2, c3, c4, c5, c6, c7, c8, c9, c10, c11, c12, c13⟩ := id C
    obtain ⟨_, u0, u1, u2, fu0, fu1, fu2⟩ := id U
    obtain ⟨_, v0, v1, v2, fv0, fv1, fv2⟩ := id V
    obtain ⟨_, r0, r1, g0, g1⟩ := id K
    clear cs
    rcases G2.out with ⟨n2, rfl, rfl⟩ | ⟨rfl, a0, ab, b0, k0 | ⟨k0, k1⟩ | ⟨k0, k1, k2, k3, cB⟩⟩
    · go_wp2
      go_ret
      exact ⟨by simp, B⟩
    · go_wp2
      go_ret
      exact ⟨by simp, B⟩
    · go_wp2
      go_ret
      exact ⟨by simp, B⟩
    · go_wp2_with fail
      refine (cB _ T).mono ?_
      rintro e w5 ⟨rfl, hb⟩
      replace C := C.kept hb
      replace B := bthen B hb
      replace T := T.kept hb
      replace U := U.kept hb
      replace V := V.kept hb
      replace K := K.kept hb
      clear hb c0 c1 c2 c3 c4 c5 c6 c7 c8 c9 c10 c11 c12 c13 u0 u1 u2 fu0 fu1 fu2 v0 v1 v2 fv0 fv1 fv2 r0 r1 g0 g1
      obtain ⟨_, c0, c1, c2, c3, c4, c5, c6, c7, c8, c9, c10, c11, c12, c13⟩ := id C
      obtain ⟨_, u0, u1, u2, fu0, fu1, fu2⟩ := id U
      obtain ⟨_, v0, v1, v2, fv0, fv1, fv2⟩ := id V
      obtain ⟨_, r0, r1, g0, g1⟩ := id K
      go_wp2
      go_ret
      exact ⟨by simp, balloc B _⟩
  · go_wp2_with fail
    refine (cA _ T).mono ?_
    rintro e w6 ⟨rfl, hb⟩
    replace C := C.kept hb
    replace B := bthen B hb
    replace T := T.kept hb
    replace U := U.kept hb
    replace V := V.kept hb
    clear hb c0 c1 c2 c3 c4 c5 c6 c7 c8 c9 c10 c11 c12 c13 u0 u1 u2 fu0 fu1 fu2 v0 v1 v2 fv0 fv1 fv2
    obtain ⟨_, c0, c1, c2, c3, c4, c5, c6, c7, c8, c9, c10, c11, c12, c13⟩ := id C
    obtain ⟨_, u0, u1, u2, fu0, fu1, fu2⟩ := id U
    obtain ⟨_, v0, v1, v2, fv0, fv1, fv2⟩ := id V
    have H := Go.Proofs.YtmagdlcikcgelaaDoor.Pr.Two.new w6 (.int .i64 a1) (.int .i64 b1) 32
    replace C := C.alloc (.cells #[.int .i64 a1, .int .i64 b1] 32)
    replace T := T.alloc (.cells #[.int .i64 a1, .int .i64 b1] 32)
    replace U := U.alloc (.cells #[.int .i64 a1, .int .i64 b1] 32)
    replace V := V.alloc (.cells #[.int .i64 a1, .int .i64 b1] 32)
    replace B := balloc B (.cells #[.int .i64 a1, .int .i64 b1] 32)
    clear c0 c1 c2 c3 c4 c5 c6 c7 c8 c9 c10 c11 c12 c13 u0 u1 u2 fu0 fu1 fu2 v0 v1 v2 fv0 fv1 fv2
    obtain ⟨_, c0, c1, c2, c3, c4, c5, c6, c7, c8, c9, c10, c11, c12, c13⟩ := id C
    obtain ⟨_, u0, u1, u2, fu0, fu1, fu2⟩ := id U
    obtain ⟨_, v0, v1, v2, fv0, fv1, fv2⟩ := id V
    obtain ⟨_, h0, h1, fh0, fh1⟩ := id H
    clear cA
    go_wp2_with fail
    refine (cs _ T).mono ?_
    rintro e w7 ⟨rfl, hb⟩
    replace C := C.kept hb
    replace B := bthen B hb
    replace T := T.kept hb
    replace U := U.kept hb
    replace V := V.kept hb
    replace H := H.kept hb
    clear hb c0 c1 c2 c3 c4 c5 c6 c7 c8 c9 c10 c11 c12 c13 u0 u1 u2 fu0 fu1 fu2 v0 v1 v2 fv0 fv1 fv2 h0 h1 fh0 fh1
    obtain ⟨_, c0, c1, c2, c3, c4, c5, c6, c7, c8, c9, c10, c11, c12, c13⟩ := id C
    obtain ⟨_, u0, u1, u2, fu0, fu1, fu2⟩ := id U
    obtain ⟨_, v0, v1, v2, fv0, fv1, fv2⟩ := id V
    obtain ⟨_, h0, h1, fh0, fh1⟩ := id H
    have K := Go.Proofs.YtmagdlcikcgelaaDoor.Pr.Two.new w7 (.int .i64 a) (.int .i64 b) 32
    replace C := C.alloc (.cells #[.int .i64 a, .int .i64 b] 32)
    replace T := T.alloc (.cells #[.int .i64 a, .int .i64 b] 32)
    replace U := U.alloc (.cells #[.int .i64 a, .int .i64 b] 32)
    replace B := balloc B (.cells #[.int .i64 a, .int .i64 b] 32)
    clear c0 c1 c2 c3 c4 c5 c6 c7 c8 c9 c10 c11 c12 c13 u0 u1 u2 fu0 fu1 fu2
    obtain ⟨_, c0, c1, c2, c3, c4, c5, c6, c7, c8, c9, c10, c11, c12, c13⟩ := id C
    obtain ⟨_, u0, u1, u2, fu0, fu1, fu2⟩ := id U
    obtain ⟨_, r0, r1, g0, g1⟩ := id K
    clear cs
    rcases G2.out with ⟨n2, rfl, rfl⟩ | ⟨rfl, a0, ab, b0, k0 | ⟨k0, k1⟩ | ⟨k0, k1, k2, k3, cB⟩⟩
    · go_wp2
      go_ret
      exact ⟨by simp, B⟩
    · go_wp2
      go_ret
      exact ⟨by simp, B⟩
    · go_wp2
      go_ret
      exact ⟨by simp, B⟩
    · go_wp2_with fail
      refine (cB _ T).mono ?_
      rintro e w8 ⟨rfl, hb⟩
      replace C := C.kept hb
      replace B := bthen B hb
      replace T := T.kept hb
      replace U := U.kept hb
      replace K := K.kept hb
      clear hb c0 c1 c2 c3 c4 c5 c6 c7 c8 c9 c10 c11 c12 c13 u0 u1 u2 fu0 fu1 fu2 r0 r1 g0 g1
      obtain ⟨_, c0, c1, c2, c3, c4, c5, c6, c7, c8, c9, c10, c11, c12, c13⟩ := id C
      obtain ⟨_, u0, u1, u2, fu0, fu1, fu2⟩ := id U
      obtain ⟨_, r0, r1, g0, g1⟩ := id K
      go_wp2
      go_ret
      exact ⟨by simp, balloc B _⟩

end Go.Proofs.YtmagdlcikcgelaaDoor.Dl
