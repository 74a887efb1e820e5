/- What Next and Back of package find come to. -/
import Derived.Test.YtkfogmaogfgcgaaGreatDoorQaDcode
namespace Go.Proofs.YtkfogmaogfgcgaaGreatDoor.Dp
set_option linter.unusedSimpArgs false
set_option linter.unusedVariables false
open Go.RowKit Bn Bx Cp Am Fp Ap Cm Em Ep Rk Hp Ip Jp

set_option maxHeartbeats 2000000

set_option maxRecDepth 100000 in
theorem Next_any (c : CalZ) (L y i p q r er : Int) (w : World) (R : NextA c L y i p q r er) (hm : c.nm.size ≤ maxLen) (T : FTab w) :
    Calls Tryz.prog 11 #[.agg #[.string c.nm, .int .i64 c.k, .int .i64 c.d, .int .i64 c.m, .int .i64 c.s, .int .i64 c.sh, .int .i64 c.p0, .int .i64 c.p1, .int .i64 c.p2, .int .i64 c.cy, .int .i64 c.ex, .int .i64 c.fi, .int .i64 c.la, .int .i64 c.po], .agg #[.int .i64 L, .int .i64 y, .int .i64 i]] w fun e w' => e = .returned (.tuple #[.agg #[.int .i64 p, .int .i64 q, .int .i64 r], .int .i64 er]) ∧ Below w.heap.size w w' := by
  have C := CalIn.new w c 24
  have B := balloc (Below.refl _ w) (.cells #[.string c.nm, .int .i64 c.k, .int .i64 c.d, .int .i64 c.m, .int .i64 c.s, .int .i64 c.sh, .int .i64 c.p0, .int .i64 c.p1, .int .i64 c.p2, .int .i64 c.cy, .int .i64 c.ex, .int .i64 c.fi, .int .i64 c.la, .int .i64 c.po] 24)
  replace T := T.alloc (.cells #[.string c.nm, .int .i64 c.k, .int .i64 c.d, .int .i64 c.m, .int .i64 c.s, .int .i64 c.sh, .int .i64 c.p0, .int .i64 c.p1, .int .i64 c.p2, .int .i64 c.cy, .int .i64 c.ex, .int .i64 c.fi, .int .i64 c.la, .int .i64 c.po] 24)
  have V := Bx.Tri.new (w.alloc (.cells #[.string c.nm, .int .i64 c.k, .int .i64 c.d, .int .i64 c.m, .int .i64 c.s, .int .i64 c.sh, .int .i64 c.p0, .int .i64 c.p1, .int .i64 c.p2, .int .i64 c.cy, .int .i64 c.ex, .int .i64 c.fi, .int .i64 c.la, .int .i64 c.po] 24)) (.int .i64 L) (.int .i64 y) (.int .i64 i) 26
  have U := Bx.Tri.new ((w.alloc (.cells #[.string c.nm, .int .i64 c.k, .int .i64 c.d, .int .i64 c.m, .int .i64 c.s, .int .i64 c.sh, .int .i64 c.p0, .int .i64 c.p1, .int .i64 c.p2, .int .i64 c.cy, .int .i64 c.ex, .int .i64 c.fi, .int .i64 c.la, .int .i64 c.po] 24)).alloc (.cells #[.int .i64 L, .int .i64 y, .int .i64 i] 26)) (.int .i64 0) (.int .i64 0) (.int .i64 0) 26
  have z1 : (w.alloc (.cells #[.string c.nm, .int .i64 c.k, .int .i64 c.d, .int .i64 c.m, .int .i64 c.s, .int .i64 c.sh, .int .i64 c.p0, .int .i64 c.p1, .int .i64 c.p2, .int .i64 c.cy, .int .i64 c.ex, .int .i64 c.fi, .int .i64 c.la, .int .i64 c.po] 24)).heap.size = w.heap.size + 1 := by simp
  have z2 : ((w.alloc (.cells #[.string c.nm, .int .i64 c.k, .int .i64 c.d, .int .i64 c.m, .int .i64 c.s, .int .i64 c.sh, .int .i64 c.p0, .int .i64 c.p1, .int .i64 c.p2, .int .i64 c.cy, .int .i64 c.ex, .int .i64 c.fi, .int .i64 c.la, .int .i64 c.po] 24)).alloc (.cells #[.int .i64 L, .int .i64 y, .int .i64 i] 26)).heap.size = w.heap.size + 2 := by simp
  rw [z1] at V
  rw [z2] at U
  replace V := V.alloc (.cells #[.int .i64 0, .int .i64 0, .int .i64 0] 26)
  replace C := (C.alloc (.cells #[.int .i64 L, .int .i64 y, .int .i64 i] 26)).alloc (.cells #[.int .i64 0, .int .i64 0, .int .i64 0] 26)
  replace B := balloc (balloc B (.cells #[.int .i64 L, .int .i64 y, .int .i64 i] 26)) (.cells #[.int .i64 0, .int .i64 0, .int .i64 0] 26)
  replace T := (T.alloc (.cells #[.int .i64 L, .int .i64 y, .int .i64 i] 26)).alloc (.cells #[.int .i64 0, .int .i64 0, .int .i64 0] 26)
  clear z1 z2
  rcases R with ⟨h, R⟩ | ⟨no, ck, rfl, rfl, rfl⟩
  · obtain ⟨a, ha⟩ : ∃ a, a = uend c y L (i - 1) + 1 := ⟨_, rfl⟩
    obtain ⟨b, hb'⟩ : ∃ b, b = uend c y L i := ⟨_, rfl⟩
    have cs := fun w T => Span_any c L y i a b 0 w (.inl ⟨h, ha, hb', rfl⟩) hm T
    have cd := fun w T => Day_any c (b + 1) L p q r er w (by rw [hb']; exact R) hm T
    have bd : 0 ≤ a ∧ a ≤ 3068037 ∧ 0 ≤ b ∧ b ≤ 3068036 := by
      obtain ⟨ok, l, s, i0, i1⟩ := h
      have st := served_told ok s
      have b0 := uend_bd (y := y) (i := i - 1) ok.1 (by omega) (by omega) l (by omega) (by omega)
      have b1 := uend_bd (y := y) (i := i) ok.1 (by omega) (by omega) l (by omega) (by omega)
      omega
    obtain ⟨a0, a1, b0, b1⟩ := bd
    clear h R ha hb'
    go_enter Tryz.func11, Tryz.ntmps11
    go_upto_region 1 with fail
    generalize (((w.alloc (.cells #[.string c.nm, .int .i64 c.k, .int .i64 c.d, .int .i64 c.m, .int .i64 c.s, .int .i64 c.sh, .int .i64 c.p0, .int .i64 c.p1, .int .i64 c.p2, .int .i64 c.cy, .int .i64 c.ex, .int .i64 c.fi, .int .i64 c.la, .int .i64 c.po] 24)).alloc (.cells #[.int .i64 L, .int .i64 y, .int .i64 i] 26)).alloc (.cells #[.int .i64 0, .int .i64 0, .int .i64 0] 26)) = W0 at *
    obtain ⟨_, c0, c1, c2, c3, c4, c5, c6, c7, c8, c9, c10, c11, c12, c13⟩ := id C
    obtain ⟨_, v0, v1, v2, fv0, fv1, fv2⟩ := id V
    obtain ⟨_, u0, u1, u2, fu0, fu1, fu2⟩ := id U
    go_wp2_with fail
    refine (cs _ T).mono ?_
    rintro e w1 ⟨rfl, hb⟩
    replace C := C.kept hb
    replace B := bthen B hb
    replace T := T.kept hb
    replace V := V.kept hb
    replace U := U.kept hb
    clear hb c0 c1 c2 c3 c4 c5 c6 c7 c8 c9 c10 c11 c12 c13 v0 v1 v2 fv0 fv1 fv2 u0 u1 u2 fu0 fu1 fu2
    obtain ⟨_, c0, c1, c2, c3, c4, c5, c6, c7, c8, c9, c10, c11, c12, c13⟩ := id C
    obtain ⟨_, v0, v1, v2, fv0, fv1, fv2⟩ := id V
    obtain ⟨_, u0, u1, u2, fu0, fu1, fu2⟩ := id U
    have K := Pr.Two.new w1 (.int .i64 a) (.int .i64 b) 34
    replace C := C.alloc (.cells #[.int .i64 a, .int .i64 b] 34)
    replace T := T.alloc (.cells #[.int .i64 a, .int .i64 b] 34)
    replace V := V.alloc (.cells #[.int .i64 a, .int .i64 b] 34)
    replace U := U.alloc (.cells #[.int .i64 a, .int .i64 b] 34)
    replace B := balloc B (.cells #[.int .i64 a, .int .i64 b] 34)
    clear c0 c1 c2 c3 c4 c5 c6 c7 c8 c9 c10 c11 c12 c13 v0 v1 v2 fv0 fv1 fv2 u0 u1 u2 fu0 fu1 fu2
    obtain ⟨_, c0, c1, c2, c3, c4, c5, c6, c7, c8, c9, c10, c11, c12, c13⟩ := id C
    obtain ⟨_, v0, v1, v2, fv0, fv1, fv2⟩ := id V
    obtain ⟨_, u0, u1, u2, fu0, fu1, fu2⟩ := id U
    obtain ⟨_, r0, r1, g0, g1⟩ := id K
    go_wp2_with fail
    refine (cd _ T).mono ?_
    rintro e w2 ⟨rfl, hb⟩
    replace C := C.kept hb
    replace B := bthen B hb
    replace T := T.kept hb
    replace V := V.kept hb
    replace U := U.kept hb
    replace K := K.kept hb
    clear hb c0 c1 c2 c3 c4 c5 c6 c7 c8 c9 c10 c11 c12 c13 v0 v1 v2 fv0 fv1 fv2 u0 u1 u2 fu0 fu1 fu2 r0 r1 g0 g1
    obtain ⟨_, c0, c1, c2, c3, c4, c5, c6, c7, c8, c9, c10, c11, c12, c13⟩ := id C
    obtain ⟨_, v0, v1, v2, fv0, fv1, fv2⟩ := id V
    obtain ⟨_, u0, u1, u2, fu0, fu1, fu2⟩ := id U
    obtain ⟨_, r0, r1, g0, g1⟩ := id K
    clear cs cd
    go_wp2
    refine bodyPost_ret (v := .tuple #[.agg #[.int .i64 p, .int .i64 q, .int .i64 r], .int .i64 er]) (by simp [results, Tryz.results11, go_sem, *]) rfl ⟨rfl, ?_⟩
    exact bset (bset (bset B (by omega) _ _) (by omega) _ _) (by omega) _ _
  · have O := spana_no ck (fun q => no ((uchka_ok ck).1 q))
    have cs := fun w T => Span_any c L y i 0 0 er w (.inr ⟨no, ck, rfl, rfl⟩) hm T
    clear no ck
    rcases O with rfl | rfl | rfl
    all_goals
      go_enter Tryz.func11, Tryz.ntmps11
      go_upto_region 1 with fail
      generalize (((w.alloc (.cells #[.string c.nm, .int .i64 c.k, .int .i64 c.d, .int .i64 c.m, .int .i64 c.s, .int .i64 c.sh, .int .i64 c.p0, .int .i64 c.p1, .int .i64 c.p2, .int .i64 c.cy, .int .i64 c.ex, .int .i64 c.fi, .int .i64 c.la, .int .i64 c.po] 24)).alloc (.cells #[.int .i64 L, .int .i64 y, .int .i64 i] 26)).alloc (.cells #[.int .i64 0, .int .i64 0, .int .i64 0] 26)) = W0 at *
      obtain ⟨_, c0, c1, c2, c3, c4, c5, c6, c7, c8, c9, c10, c11, c12, c13⟩ := id C
      obtain ⟨_, v0, v1, v2, fv0, fv1, fv2⟩ := id V
      obtain ⟨_, u0, u1, u2, fu0, fu1, fu2⟩ := id U
      go_wp2_with fail
      refine (cs _ T).mono ?_
      rintro e w3 ⟨rfl, hb⟩
      replace C := C.kept hb
      replace B := bthen B hb
      replace T := T.kept hb
      replace V := V.kept hb
      replace U := U.kept hb
      clear hb c0 c1 c2 c3 c4 c5 c6 c7 c8 c9 c10 c11 c12 c13 v0 v1 v2 fv0 fv1 fv2 u0 u1 u2 fu0 fu1 fu2
      obtain ⟨_, c0, c1, c2, c3, c4, c5, c6, c7, c8, c9, c10, c11, c12, c13⟩ := id C
      obtain ⟨_, v0, v1, v2, fv0, fv1, fv2⟩ := id V
      obtain ⟨_, u0, u1, u2, fu0, fu1, fu2⟩ := id U
      obtain ⟨_, x0, x1, x2, fx0, fx1, fx2⟩ := id U
      have B6 := B
      have K := Pr.Two.new w3 (.int .i64 0) (.int .i64 0) 34
      replace C := C.alloc (.cells #[.int .i64 0, .int .i64 0] 34)
      replace T := T.alloc (.cells #[.int .i64 0, .int .i64 0] 34)
      replace V := V.alloc (.cells #[.int .i64 0, .int .i64 0] 34)
      replace U := U.alloc (.cells #[.int .i64 0, .int .i64 0] 34)
      replace B := balloc B (.cells #[.int .i64 0, .int .i64 0] 34)
      clear c0 c1 c2 c3 c4 c5 c6 c7 c8 c9 c10 c11 c12 c13 v0 v1 v2 fv0 fv1 fv2 u0 u1 u2 fu0 fu1 fu2
      obtain ⟨_, c0, c1, c2, c3, c4, c5, c6, c7, c8, c9, c10, c11, c12, c13⟩ := id C
      obtain ⟨_, v0, v1, v2, fv0, fv1, fv2⟩ := id V
      obtain ⟨_, u0, u1, u2, fu0, fu1, fu2⟩ := id U
      clear cs
      go_wp2
      refine bodyPost_ret (v := .tuple #[.agg #[.int .i64 0, .int .i64 0, .int .i64 0], .int .i64 _]) (by simp [results, Tryz.results11, go_sem, *]) rfl ⟨rfl, ?_⟩
      exact balloc (bset (bset (bset B6 (by omega) _ _) (by omega) _ _) (by omega) _ _) _

set_option maxRecDepth 100000 in
theorem Back_any (c : CalZ) (L y i p q r er : Int) (w : World) (R : BackA c L y i p q r er) (hm : c.nm.size ≤ maxLen) (T : FTab w) :
    Calls Tryz.prog 13 #[.agg #[.string c.nm, .int .i64 c.k, .int .i64 c.d, .int .i64 c.m, .int .i64 c.s, .int .i64 c.sh, .int .i64 c.p0, .int .i64 c.p1, .int .i64 c.p2, .int .i64 c.cy, .int .i64 c.ex, .int .i64 c.fi, .int .i64 c.la, .int .i64 c.po], .agg #[.int .i64 L, .int .i64 y, .int .i64 i]] w fun e w' => e = .returned (.tuple #[.agg #[.int .i64 p, .int .i64 q, .int .i64 r], .int .i64 er]) ∧ Below w.heap.size w w' := by
  have C := CalIn.new w c 24
  have B := balloc (Below.refl _ w) (.cells #[.string c.nm, .int .i64 c.k, .int .i64 c.d, .int .i64 c.m, .int .i64 c.s, .int .i64 c.sh, .int .i64 c.p0, .int .i64 c.p1, .int .i64 c.p2, .int .i64 c.cy, .int .i64 c.ex, .int .i64 c.fi, .int .i64 c.la, .int .i64 c.po] 24)
  replace T := T.alloc (.cells #[.string c.nm, .int .i64 c.k, .int .i64 c.d, .int .i64 c.m, .int .i64 c.s, .int .i64 c.sh, .int .i64 c.p0, .int .i64 c.p1, .int .i64 c.p2, .int .i64 c.cy, .int .i64 c.ex, .int .i64 c.fi, .int .i64 c.la, .int .i64 c.po] 24)
  have V := Bx.Tri.new (w.alloc (.cells #[.string c.nm, .int .i64 c.k, .int .i64 c.d, .int .i64 c.m, .int .i64 c.s, .int .i64 c.sh, .int .i64 c.p0, .int .i64 c.p1, .int .i64 c.p2, .int .i64 c.cy, .int .i64 c.ex, .int .i64 c.fi, .int .i64 c.la, .int .i64 c.po] 24)) (.int .i64 L) (.int .i64 y) (.int .i64 i) 26
  have U := Bx.Tri.new ((w.alloc (.cells #[.string c.nm, .int .i64 c.k, .int .i64 c.d, .int .i64 c.m, .int .i64 c.s, .int .i64 c.sh, .int .i64 c.p0, .int .i64 c.p1, .int .i64 c.p2, .int .i64 c.cy, .int .i64 c.ex, .int .i64 c.fi, .int .i64 c.la, .int .i64 c.po] 24)).alloc (.cells #[.int .i64 L, .int .i64 y, .int .i64 i] 26)) (.int .i64 0) (.int .i64 0) (.int .i64 0) 26
  have z1 : (w.alloc (.cells #[.string c.nm, .int .i64 c.k, .int .i64 c.d, .int .i64 c.m, .int .i64 c.s, .int .i64 c.sh, .int .i64 c.p0, .int .i64 c.p1, .int .i64 c.p2, .int .i64 c.cy, .int .i64 c.ex, .int .i64 c.fi, .int .i64 c.la, .int .i64 c.po] 24)).heap.size = w.heap.size + 1 := by simp
  have z2 : ((w.alloc (.cells #[.string c.nm, .int .i64 c.k, .int .i64 c.d, .int .i64 c.m, .int .i64 c.s, .int .i64 c.sh, .int .i64 c.p0, .int .i64 c.p1, .int .i64 c.p2, .int .i64 c.cy, .int .i64 c.ex, .int .i64 c.fi, .int .i64 c.la, .int .i64 c.po] 24)).alloc (.cells #[.int .i64 L, .int .i64 y, .int .i64 i] 26)).heap.size = w.heap.size + 2 := by simp
  rw [z1] at V
  rw [z2] at U
  replace V := V.alloc (.cells #[.int .i64 0, .int .i64 0, .int .i64 0] 26)
  replace C := (C.alloc (.cells #[.int .i64 L, .int .i64 y, .int .i64 i] 26)).alloc (.cells #[.int .i64 0, .int .i64 0, .int .i64 0] 26)
  replace B := balloc (balloc B (.cells #[.int .i64 L, .int .i64 y, .int .i64 i] 26)) (.cells #[.int .i64 0, .int .i64 0, .int .i64 0] 26)
  replace T := (T.alloc (.cells #[.int .i64 L, .int .i64 y, .int .i64 i] 26)).alloc (.cells #[.int .i64 0, .int .i64 0, .int .i64 0] 26)
  clear z1 z2
  rcases R with ⟨h, R⟩ | ⟨no, ck, rfl, rfl, rfl⟩
  · obtain ⟨a, ha⟩ : ∃ a, a = uend c y L (i - 1) + 1 := ⟨_, rfl⟩
    obtain ⟨b, hb'⟩ : ∃ b, b = uend c y L i := ⟨_, rfl⟩
    have cs := fun w T => Span_any c L y i a b 0 w (.inl ⟨h, ha, hb', rfl⟩) hm T
    have cd := fun w T => Day_any c (a - 1) L p q r er w (by rw [show a - 1 = uend c y L (i - 1) by omega]; exact R) hm T
    have bd : 0 ≤ a ∧ a ≤ 3068037 ∧ 0 ≤ b ∧ b ≤ 3068036 := by
      obtain ⟨ok, l, s, i0, i1⟩ := h
      have st := served_told ok s
      have b0 := uend_bd (y := y) (i := i - 1) ok.1 (by omega) (by omega) l (by omega) (by omega)
      have b1 := uend_bd (y := y) (i := i) ok.1 (by omega) (by omega) l (by omega) (by omega)
      omega
    obtain ⟨a0, a1, b0, b1⟩ := bd
    clear h R ha hb'
    go_enter Tryz.func13, Tryz.ntmps13
    go_upto_region 1 with fail
    generalize (((w.alloc (.cells #[.string c.nm, .int .i64 c.k, .int .i64 c.d, .int .i64 c.m, .int .i64 c.s, .int .i64 c.sh, .int .i64 c.p0, .int .i64 c.p1, .int .i64 c.p2, .int .i64 c.cy, .int .i64 c.ex, .int .i64 c.fi, .int .i64 c.la, .int .i64 c.po] 24)).alloc (.cells #[.int .i64 L, .int .i64 y, .int .i64 i] 26)).alloc (.cells #[.int .i64 0, .int .i64 0, .int .i64 0] 26)) = W0 at *
    obtain ⟨_, c0, c1, c2, c3, c4, c5, c6, c7, c8, c9, c10, c11, c12, c13⟩ := id C
    obtain ⟨_, v0, v1, v2, fv0, fv1, fv2⟩ := id V
    obtain ⟨_, u0, u1, u2, fu0, fu1, fu2⟩ := id U
    go_wp2_with fail
    refine (cs _ T).mono ?_
    rintro e w1 ⟨rfl, hb⟩
    replace C := C.kept hb
    replace B := bthen B hb
    replace T := T.kept hb
    replace V := V.kept hb
    replace U := U.kept hb
    clear hb c0 c1 c2 c3 c4 c5 c6 c7 c8 c9 c10 c11 c12 c13 v0 v1 v2 fv0 fv1 fv2 u0 u1 u2 fu0 fu1 fu2
    obtain ⟨_, c0, c1, c2, c3, c4, c5, c6, c7, c8, c9, c10, c11, c12, c13⟩ := id C
    obtain ⟨_, v0, v1, v2, fv0, fv1, fv2⟩ := id V
    obtain ⟨_, u0, u1, u2, fu0, fu1, fu2⟩ := id U
    have K := Pr.Two.new w1 (.int .i64 a) (.int .i64 b) 34
    replace C := C.alloc (.cells #[.int .i64 a, .int .i64 b] 34)
    replace T := T.alloc (.cells #[.int .i64 a, .int .i64 b] 34)
    replace V := V.alloc (.cells #[.int .i64 a, .int .i64 b] 34)
    replace U := U.alloc (.cells #[.int .i64 a, .int .i64 b] 34)
    replace B := balloc B (.cells #[.int .i64 a, .int .i64 b] 34)
    clear c0 c1 c2 c3 c4 c5 c6 c7 c8 c9 c10 c11 c12 c13 v0 v1 v2 fv0 fv1 fv2 u0 u1 u2 fu0 fu1 fu2
    obtain ⟨_, c0, c1, c2, c3, c4, c5, c6, c7, c8, c9, c10, c11, c12, c13⟩ := id C
    obtain ⟨_, v0, v1, v2, fv0, fv1, fv2⟩ := id V
    obtain ⟨_, u0, u1, u2, fu0, fu1, fu2⟩ := id U
    obtain ⟨_, r0, r1, g0, g1⟩ := id K
    go_wp2_with fail
    refine (cd _ T).mono ?_
    rintro e w2 ⟨rfl, hb⟩
    replace C := C.kept hb
    replace B := bthen B hb
    replace T := T.kept hb
    replace V := V.kept hb
    replace U := U.kept hb
    replace K := K.kept hb
    clear hb c0 c1 c2 c3 c4 c5 c6 c7 c8 c9 c10 c11 c12 c13 v0 v1 v2 fv0 fv1 fv2 u0 u1 u2 fu0 fu1 fu2 r0 r1 g0 g1
    obtain ⟨_, c0, c1, c2, c3, c4, c5, c6, c7, c8, c9, c10, c11, c12, c13⟩ := id C
    obtain ⟨_, v0, v1, v2, fv0, fv1, fv2⟩ := id V
    obtain ⟨_, u0, u1, u2, fu0, fu1, fu2⟩ := id U
    obtain ⟨_, r0, r1, g0, g1⟩ := id K
    clear cs cd
    go_wp2
    refine bodyPost_ret (v := .tuple #[.agg #[.int .i64 p, .int .i64 q, .int .i64 r], .int .i64 er]) (by simp [results, Tryz.results13, go_sem, *]) rfl ⟨rfl, ?_⟩
    exact bset (bset (bset B (by omega) _ _) (by omega) _ _) (by omega) _ _
  · have O := spana_no ck (fun q => no ((uchka_ok ck).1 q))
    have cs := fun w T => Span_any c L y i 0 0 er w (.inr ⟨no, ck, rfl, rfl⟩) hm T
    clear no ck
    rcases O with rfl | rfl | rfl
    all_goals
      go_enter Tryz.func13, Tryz.ntmps13
      go_upto_region 1 with fail
      generalize (((w.alloc (.cells #[.string c.nm, .int .i64 c.k, .int .i64 c.d, .int .i64 c.m, .int .i64 c.s, .int .i64 c.sh, .int .i64 c.p0, .int .i64 c.p1, .int .i64 c.p2, .int .i64 c.cy, .int .i64 c.ex, .int .i64 c.fi, .int .i64 c.la, .int .i64 c.po] 24)).alloc (.cells #[.int .i64 L, .int .i64 y, .int .i64 i] 26)).alloc (.cells #[.int .i64 0, .int .i64 0, .int .i64 0] 26)) = W0 at *
      obtain ⟨_, c0, c1, c2, c3, c4, c5, c6, c7, c8, c9, c10, c11, c12, c13⟩ := id C
      obtain ⟨_, v0, v1, v2, fv0, fv1, fv2⟩ := id V
      obtain ⟨_, u0, u1, u2, fu0, fu1, fu2⟩ := id U
      go_wp2_with fail
      refine (cs _ T).mono ?_
      rintro e w3 ⟨rfl, hb⟩
      replace C := C.kept hb
      replace B := bthen B hb
      replace T := T.kept hb
      replace V := V.kept hb
      replace U := U.kept hb
      clear hb c0 c1 c2 c3 c4 c5 c6 c7 c8 c9 c10 c11 c12 c13 v0 v1 v2 fv0 fv1 fv2 u0 u1 u2 fu0 fu1 fu2
      obtain ⟨_, c0, c1, c2, c3, c4, c5, c6, c7, c8, c9, c10, c11, c12, c13⟩ := id C
      obtain ⟨_, v0, v1, v2, fv0, fv1, fv2⟩ := id V
      obtain ⟨_, u0, u1, u2, fu0, fu1, fu2⟩ := id U
      obtain ⟨_, x0, x1, x2, fx0, fx1, fx2⟩ := id U
      have B6 := B
      have K := Pr.Two.new w3 (.int .i64 0) (.int .i64 0) 34
      replace C := C.alloc (.cells #[.int .i64 0, .int .i64 0] 34)
      replace T := T.alloc (.cells #[.int .i64 0, .int .i64 0] 34)
      replace V := V.alloc (.cells #[.int .i64 0, .int .i64 0] 34)
      replace U := U.alloc (.cells #[.int .i64 0, .int .i64 0] 34)
      replace B := balloc B (.cells #[.int .i64 0, .int .i64 0] 34)
      clear c0 c1 c2 c3 c4 c5 c6 c7 c8 c9 c10 c11 c12 c13 v0 v1 v2 fv0 fv1 fv2 u0 u1 u2 fu0 fu1 fu2
      obtain ⟨_, c0, c1, c2, c3, c4, c5, c6, c7, c8, c9, c10, c11, c12, c13⟩ := id C
      obtain ⟨_, v0, v1, v2, fv0, fv1, fv2⟩ := id V
      obtain ⟨_, u0, u1, u2, fu0, fu1, fu2⟩ := id U
      clear cs
      go_wp2
      refine bodyPost_ret (v := .tuple #[.agg #[.int .i64 0, .int .i64 0, .int .i64 0], .int .i64 _]) (by simp [results, Tryz.results13, go_sem, *]) rfl ⟨rfl, ?_⟩
      exact balloc (bset (bset (bset B6 (by omega) _ _) (by omega) _ _) (by omega) _ _) _

end Go.Proofs.YtkfogmaogfgcgaaGreatDoor.Dp

