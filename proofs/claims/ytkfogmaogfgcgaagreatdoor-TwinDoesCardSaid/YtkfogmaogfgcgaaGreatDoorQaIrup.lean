/- What Up of the reference of layer 16 comes to. -/
import Derived.Test.YtkfogmaogfgcgaaGreatDoorQaIru
import Derived.Test.YtkfogmaogfgcgaaGreatDoorQaJIc
namespace Go.Proofs.YtkfogmaogfgcgaaGreatDoor.Ir
set_option linter.unusedSimpArgs false
set_option linter.unusedVariables false
open Go.RowKit Go.Maps Bn Bx Cp Am Fp Ap Ar Cm Em Ep Rk Hp Hr Ip

set_option maxHeartbeats 8000000

set_option maxRecDepth 100000 in
theorem rin_any (a b f t : Int) (r : Bool) (w : World) (hr : (decide (f ≤ a) = false ∧ r = false) ∨ (decide (f ≤ a) = true ∧ decide (b ≤ t) = r)) :
    Calls Tryz.prog 161 #[.agg #[.int .i64 a, .int .i64 b], .agg #[.int .i64 f, .int .i64 t]] w fun e w' => e = .returned (.bool r) ∧ Below w.heap.size w w' := by
  have X := Pr.Two.new w (.int .i64 a) (.int .i64 b) 34
  have Y := Pr.Two.new (w.alloc (.cells #[.int .i64 a, .int .i64 b] 34)) (.int .i64 f) (.int .i64 t) 34
  rw [World.size_alloc] at Y
  replace X := X.alloc (.cells #[.int .i64 f, .int .i64 t] 34)
  have B := balloc (balloc (Below.refl _ w) (.cells #[.int .i64 a, .int .i64 b] 34)) (.cells #[.int .i64 f, .int .i64 t] 34)
  obtain ⟨_, x0, x1, fx0, fx1⟩ := id X
  obtain ⟨_, z0, z1, fz0, fz1⟩ := id Y
  rcases hr with ⟨d0, rfl⟩ | ⟨d0, d1⟩
  · go_enter Tryz.func161, Tryz.ntmps161
    go_upto_region 1 with fail
    generalize (w.alloc (.cells #[.int .i64 a, .int .i64 b] 34)).alloc (.cells #[.int .i64 f, .int .i64 t] 34) = W0 at *
    go_wp2
    go_ret
    exact ⟨by simp, B⟩
  · cases r
    all_goals
      go_enter Tryz.func161, Tryz.ntmps161
      go_upto_region 1 with fail
      generalize (w.alloc (.cells #[.int .i64 a, .int .i64 b] 34)).alloc (.cells #[.int .i64 f, .int .i64 t] 34) = W0 at *
      go_wp2
      go_ret
      exact ⟨by simp, B⟩

set_option maxRecDepth 100000 in
theorem rUp_ok (c : CalZ) (L q i p r : Int) (w : World) (uo : UnitOk c L q i) (m0 : 1 ≤ p) (m1 : p ≤ L) (hr : InU c q p (uend c q L (i - 1) + 1) r) (K : ChkSays c) (hm : c.nm.size ≤ maxLen) (T : FTab w) :
    Calls Tryz.prog 105 #[.agg #[.string c.nm, .int .i64 c.k, .int .i64 c.d, .int .i64 c.m, .int .i64 c.s, .int .i64 c.sh, .int .i64 c.p0, .int .i64 c.p1, .int .i64 c.p2, .int .i64 c.cy, .int .i64 c.ex, .int .i64 c.fi, .int .i64 c.la, .int .i64 c.po], .agg #[.int .i64 L, .int .i64 q, .int .i64 i], .int .i64 p] w fun e w' => e = .returned (.tuple #[.agg #[.int .i64 p, .int .i64 q, .int .i64 r], .int .i64 0]) ∧ Below w.heap.size w w' := by
  have C := CalIn.new w c 24
  have B := balloc (Below.refl _ w) (.cells #[.string c.nm, .int .i64 c.k, .int .i64 c.d, .int .i64 c.m, .int .i64 c.s, .int .i64 c.sh, .int .i64 c.p0, .int .i64 c.p1, .int .i64 c.p2, .int .i64 c.cy, .int .i64 c.ex, .int .i64 c.fi, .int .i64 c.la, .int .i64 c.po] 24)
  replace T := T.alloc (.cells #[.string c.nm, .int .i64 c.k, .int .i64 c.d, .int .i64 c.m, .int .i64 c.s, .int .i64 c.sh, .int .i64 c.p0, .int .i64 c.p1, .int .i64 c.p2, .int .i64 c.cy, .int .i64 c.ex, .int .i64 c.fi, .int .i64 c.la, .int .i64 c.po] 24)
  have U := Bx.Tri.new (w.alloc (.cells #[.string c.nm, .int .i64 c.k, .int .i64 c.d, .int .i64 c.m, .int .i64 c.s, .int .i64 c.sh, .int .i64 c.p0, .int .i64 c.p1, .int .i64 c.p2, .int .i64 c.cy, .int .i64 c.ex, .int .i64 c.fi, .int .i64 c.la, .int .i64 c.po] 24)) (.int .i64 L) (.int .i64 q) (.int .i64 i) 26
  rw [World.size_alloc] at U
  have D := Bx.Tri.new ((w.alloc (.cells #[.string c.nm, .int .i64 c.k, .int .i64 c.d, .int .i64 c.m, .int .i64 c.s, .int .i64 c.sh, .int .i64 c.p0, .int .i64 c.p1, .int .i64 c.p2, .int .i64 c.cy, .int .i64 c.ex, .int .i64 c.fi, .int .i64 c.la, .int .i64 c.po] 24)).alloc (.cells #[.int .i64 L, .int .i64 q, .int .i64 i] 26)) (.int .i64 0) (.int .i64 0) (.int .i64 0) 26
  have zz : ((w.alloc (.cells #[.string c.nm, .int .i64 c.k, .int .i64 c.d, .int .i64 c.m, .int .i64 c.s, .int .i64 c.sh, .int .i64 c.p0, .int .i64 c.p1, .int .i64 c.p2, .int .i64 c.cy, .int .i64 c.ex, .int .i64 c.fi, .int .i64 c.la, .int .i64 c.po] 24)).alloc (.cells #[.int .i64 L, .int .i64 q, .int .i64 i] 26)).heap.size = w.heap.size + 2 := by simp
  rw [zz] at D
  replace U := U.alloc (.cells #[.int .i64 0, .int .i64 0, .int .i64 0] 26)
  replace C := (C.alloc (.cells #[.int .i64 L, .int .i64 q, .int .i64 i] 26)).alloc (.cells #[.int .i64 0, .int .i64 0, .int .i64 0] 26)
  replace B := balloc (balloc B (.cells #[.int .i64 L, .int .i64 q, .int .i64 i] 26)) (.cells #[.int .i64 0, .int .i64 0, .int .i64 0] 26)
  replace T := (T.alloc (.cells #[.int .i64 L, .int .i64 q, .int .i64 i] 26)).alloc (.cells #[.int .i64 0, .int .i64 0, .int .i64 0] 26)
  clear zz
  have ud := unit_days uo
  obtain ⟨_, _, _, y0, y1, L0, L5⟩ := ud
  have ins := inside uo.1.1 y0 y1 m0 L5 m1 uo.2.2.2.1 uo.2.2.2.2 hr
  have lM : LevOk p := ⟨m0, by omega⟩
  obtain ⟨a, ha⟩ : ∃ a, a = uend c q L (i - 1) + 1 := ⟨_, rfl⟩
  obtain ⟨b, hb'⟩ : ∃ b, b = uend c q L i := ⟨_, rfl⟩
  have cs := fun w T => rSpan_any c L q i a b 0 w (.inl ⟨uo, ha, hb', rfl⟩) K hm T
  have cb := ucount_bd (L := p) (y := q) uo.1.1 y0 y1
  have pb := per_bd uo.1.1
  obtain ⟨N, hN⟩ : ∃ N : Nat, (N : Int) = ucount c q p := ⟨(ucount c q p).toNat, by omega⟩
  obtain ⟨n, hn⟩ : ∃ n : Nat, (n : Int) = per c := ⟨(per c).toNat, by omega⟩
  have cl := fun w T => rspans_ok p c q n N w lM uo.1 uo.2.2.1 hn hN K hm T
  rw [← hN] at cb
  have l0 : decide (p < 1) = false := decide_eq_false (by omega)
  have l1 : decide (L < p) = false := decide_eq_false (by omega)
  have HR : Hid (∀ k : Nat, (k : Int) + 1 ≤ r → k < N ∧ ∃ f t : Int, (spl c q p N)[k]? = some (f, t) ∧ (((k : Int) + 1 < r ∧ ∀ w, Calls Tryz.prog 161 #[.agg #[.int .i64 a, .int .i64 b], .agg #[.int .i64 f, .int .i64 t]] w fun e w' => e = .returned (.bool false) ∧ Below w.heap.size w w') ∨ ((k : Int) + 1 = r ∧ ∀ w, Calls Tryz.prog 161 #[.agg #[.int .i64 a, .int .i64 b], .agg #[.int .i64 f, .int .i64 t]] w fun e w' => e = .returned (.bool true) ∧ Below w.heap.size w w'))) :=
    Lib.hid (fun k hk => by
      obtain ⟨h0, h1, h2, h3⟩ := hr
      have kN : k < N := by omega
      refine ⟨kN, _, _, spl_at c q p N k kN, ?_⟩
      by_cases e : (k : Int) + 1 < r
      · have mo := uend_mono uo.1.1 y0 y1 lM (a := (k : Int) + 1) (b := r - 1) (by omega) (by omega) (by omega)
        have m2 := uend_mono uo.1.1 y0 y1 lM (a := (k : Int)) (b := (k : Int) + 1) (by omega) (by omega) (by omega)
        have st := uend_step uo.1.1 y0 y1 (L := L) (i := i - 1) ⟨L0, L5⟩ (by have := uo.2.2.2.1; omega) (by have := uo.2.2.2.2; omega)
        rw [show i - 1 + 1 = i by omega] at st
        exact .inl ⟨e, fun w => rin_any a b _ _ false w (.inr ⟨decide_eq_true (by omega), decide_eq_false (by omega)⟩)⟩
      · have e1 : (k : Int) + 1 = r := by omega
        refine .inr ⟨e1, fun w => rin_any a b _ _ true w (.inr ⟨decide_eq_true ?_, decide_eq_true ?_⟩)⟩
        · rw [show (k : Int) = r - 1 by omega]; omega
        · rw [e1]; omega)
  have rb : 1 ≤ r := hr.1
  have i60 : r ≤ 60 := by have := hr.2.1; omega
  clear uo ins lM ha hb' hN hn hr K pb y0 y1 m0 m1 L0 L5
  go_enter Tryz.func105, Tryz.ntmps105
  go_upto_region 1 with fail
  generalize ((w.alloc (.cells #[.string c.nm, .int .i64 c.k, .int .i64 c.d, .int .i64 c.m, .int .i64 c.s, .int .i64 c.sh, .int .i64 c.p0, .int .i64 c.p1, .int .i64 c.p2, .int .i64 c.cy, .int .i64 c.ex, .int .i64 c.fi, .int .i64 c.la, .int .i64 c.po] 24)).alloc (.cells #[.int .i64 L, .int .i64 q, .int .i64 i] 26)).alloc (.cells #[.int .i64 0, .int .i64 0, .int .i64 0] 26) = W0 at *
  obtain ⟨_, c0, c1, c2, c3, c4, c5, c6, c7, c8, c9, c10, c11, c12, c13⟩ := id C
  obtain ⟨_, u0, u1, u2, fu0, fu1, fu2⟩ := id U
  obtain ⟨_, r0, r1, r2, g0, g1, g2⟩ := id D
  go_wp2_with fail
  refine (cs _ T).mono ?_
  rintro e w1 ⟨rfl, hb⟩
  replace C := C.kept hb
  replace B := bthen B hb
  replace T := T.kept hb
  replace U := U.kept hb
  replace D := D.kept hb
  clear hb c0 c1 c2 c3 c4 c5 c6 c7 c8 c9 c10 c11 c12 c13 u0 u1 u2 fu0 fu1 fu2 r0 r1 r2 g0 g1 g2
  obtain ⟨_, c0, c1, c2, c3, c4, c5, c6, c7, c8, c9, c10, c11, c12, c13⟩ := id C
  obtain ⟨_, u0, u1, u2, fu0, fu1, fu2⟩ := id U
  obtain ⟨_, r0, r1, r2, g0, g1, g2⟩ := id D
  have S := Pr.Two.new w1 (.int .i64 a) (.int .i64 b) 34
  replace C := C.alloc (.cells #[.int .i64 a, .int .i64 b] 34)
  replace T := T.alloc (.cells #[.int .i64 a, .int .i64 b] 34)
  replace U := U.alloc (.cells #[.int .i64 a, .int .i64 b] 34)
  replace D := D.alloc (.cells #[.int .i64 a, .int .i64 b] 34)
  replace B := balloc B (.cells #[.int .i64 a, .int .i64 b] 34)
  clear c0 c1 c2 c3 c4 c5 c6 c7 c8 c9 c10 c11 c12 c13 u0 u1 u2 fu0 fu1 fu2 r0 r1 r2 g0 g1 g2
  obtain ⟨_, c0, c1, c2, c3, c4, c5, c6, c7, c8, c9, c10, c11, c12, c13⟩ := id C
  obtain ⟨_, u0, u1, u2, fu0, fu1, fu2⟩ := id U
  obtain ⟨_, r0, r1, r2, g0, g1, g2⟩ := id D
  obtain ⟨_, s0, s1, q0, q1⟩ := id S
  go_wp2_with fail
  refine (cl _ T).mono ?_
  rintro e w2 ⟨g, cap, rfl, SR, hg, hb, hcp⟩
  replace C := C.kept hb
  replace B := bthen B hb
  replace T := T.kept hb
  replace U := U.kept hb
  replace D := D.kept hb
  replace S := S.kept hb
  clear hb c0 c1 c2 c3 c4 c5 c6 c7 c8 c9 c10 c11 c12 c13 u0 u1 u2 fu0 fu1 fu2 r0 r1 r2 g0 g1 g2 s0 s1 q0 q1
  obtain ⟨_, c0, c1, c2, c3, c4, c5, c6, c7, c8, c9, c10, c11, c12, c13⟩ := id C
  obtain ⟨_, u0, u1, u2, fu0, fu1, fu2⟩ := id U
  obtain ⟨_, r0, r1, r2, g0, g1, g2⟩ := id D
  obtain ⟨_, s0, s1, q0, q1⟩ := id S
  clear cs cl hg
  clear c0 c1 c2 c3 c4 c5 c6 c7 c8 c9 c10 c11 c12 c13 u0 u1 u2 fu0 fu1 fu2 s0 s1 q0 q1 r0 r1 r2 g0 g1 g2
  go_wp2
  go_loopw [12] (fun I wr => ∃ k : Nat, (k : Int) + 1 ≤ r ∧ I = .int .i64 (k : Int) ∧ Below w2.heap.size w2 wr) (fun I _ => (r - intOf I).toNat)
  case atStart => exact ⟨0, by omega, rfl, Below.refl _ _⟩
  case round =>
    obtain ⟨k, kM, rfl, B2⟩ := hrel
    obtain ⟨kN, f, t, sa, OO⟩ := HR.out k kM
    have SR2 := SR.kept B2
    have S2 := S.kept B2
    obtain ⟨e0, e1⟩ := SR2.c k _ sa
    simp only at e0 e1
    obtain ⟨_, s0, s1, q0, q1⟩ := id S2
    have kk : (k : Int) < (N : Int) := by omega
    have k0 : (0 : Int) ≤ (k : Int) := by omega
    have j0 := cell_regrown s0
    have j1 := cell_regrown s1
    have j2 := cell_regrown e0
    have j3 := cell_regrown e1
    have k60 : (k : Int) ≤ 60 := by omega
    clear sa
    rcases OO with ⟨k1, ci⟩ | ⟨k1, ci⟩
    · have HK := Lib.hid k1
      have qA := fun d os => Calls.regrown_of (ci (Go.Sort.grow (redrawn wr d) os))
      clear k1 ci
      go_upto_region 8 with fail
      refine wp_region_quiet_below (by kernel_rfl) (by kernel_rfl) ?_
      repeat (quiet_step ((with_reducible exact qA _ _)))
      refine wpQuiet_nil ?_
      intro _ hw'
      obtain ⟨⟨dq, osq⟩, hw''⟩ := hw'
      subst hw''
      have hb := below_regrown wr dq osq
      generalize Go.Sort.grow (redrawn wr dq) osq = w10 at hb ⊢
      have B3 := bthen B2 hb
      clear j0 j1 j2 j3 qA s0 s1 q0 q1 e0 e1
      go_wp2
      go_roundw
      case rel => exact ⟨k + 1, by have := HK.out; omega, by go_num, B3⟩
      case measure => have := HK.out; simp [intOf]; omega
    · have qA := fun d os => Calls.regrown_of (ci (Go.Sort.grow (redrawn wr d) os))
      obtain rfl : r = (k : Int) + 1 := by omega
      clear k1 ci
      go_upto_region 8 with fail
      refine wp_region_quiet_below (by kernel_rfl) (by kernel_rfl) ?_
      repeat (quiet_step ((with_reducible exact qA _ _)))
      refine wpQuiet_nil ?_
      intro _ hw'
      obtain ⟨⟨dq, osq⟩, hw''⟩ := hw'
      subst hw''
      have hb := below_regrown wr dq osq
      generalize Go.Sort.grow (redrawn wr dq) osq = w10 at hb ⊢
      have B3 := bthen B (bthen B2 hb)
      replace U := U.kept (bthen B2 hb)
      replace D := D.kept (bthen B2 hb)
      clear j0 j1 j2 j3 qA s0 s1 q0 q1 e0 e1
      obtain ⟨_, u0, u1, u2, fu0, fu1, fu2⟩ := id U
      obtain ⟨_, r0, r1, r2, g0, g1, g2⟩ := id D
      go_wp2
      refine bodyPost_ret (v := .tuple #[.agg #[.int .i64 p, .int .i64 q, .int .i64 ((k : Int) + 1)], .int .i64 0]) (by simp [results, Tryz.results105, go_sem, *]) rfl ⟨rfl, ?_⟩
      exact bset (bset (bset B3 (by omega) _ _) (by omega) _ _) (by omega) _ _

set_option maxRecDepth 100000 in
theorem rUp_lev (c : CalZ) (L y i M : Int) (w : World) (uo : UnitOk c L y i) (mm : ¬ (1 ≤ M ∧ M ≤ L)) (K : ChkSays c) (hm : c.nm.size ≤ maxLen) (T : FTab w) :
    Calls Tryz.prog 105 #[.agg #[.string c.nm, .int .i64 c.k, .int .i64 c.d, .int .i64 c.m, .int .i64 c.s, .int .i64 c.sh, .int .i64 c.p0, .int .i64 c.p1, .int .i64 c.p2, .int .i64 c.cy, .int .i64 c.ex, .int .i64 c.fi, .int .i64 c.la, .int .i64 c.po], .agg #[.int .i64 L, .int .i64 y, .int .i64 i], .int .i64 M] w fun e w' => e = .returned (.tuple #[.agg #[.int .i64 0, .int .i64 0, .int .i64 0], .int .i64 1]) ∧ Below w.heap.size w w' := by
  have C := CalIn.new w c 24
  have B := balloc (Below.refl _ w) (.cells #[.string c.nm, .int .i64 c.k, .int .i64 c.d, .int .i64 c.m, .int .i64 c.s, .int .i64 c.sh, .int .i64 c.p0, .int .i64 c.p1, .int .i64 c.p2, .int .i64 c.cy, .int .i64 c.ex, .int .i64 c.fi, .int .i64 c.la, .int .i64 c.po] 24)
  replace T := T.alloc (.cells #[.string c.nm, .int .i64 c.k, .int .i64 c.d, .int .i64 c.m, .int .i64 c.s, .int .i64 c.sh, .int .i64 c.p0, .int .i64 c.p1, .int .i64 c.p2, .int .i64 c.cy, .int .i64 c.ex, .int .i64 c.fi, .int .i64 c.la, .int .i64 c.po] 24)
  have U := Bx.Tri.new (w.alloc (.cells #[.string c.nm, .int .i64 c.k, .int .i64 c.d, .int .i64 c.m, .int .i64 c.s, .int .i64 c.sh, .int .i64 c.p0, .int .i64 c.p1, .int .i64 c.p2, .int .i64 c.cy, .int .i64 c.ex, .int .i64 c.fi, .int .i64 c.la, .int .i64 c.po] 24)) (.int .i64 L) (.int .i64 y) (.int .i64 i) 26
  rw [World.size_alloc] at U
  have D := Bx.Tri.new ((w.alloc (.cells #[.string c.nm, .int .i64 c.k, .int .i64 c.d, .int .i64 c.m, .int .i64 c.s, .int .i64 c.sh, .int .i64 c.p0, .int .i64 c.p1, .int .i64 c.p2, .int .i64 c.cy, .int .i64 c.ex, .int .i64 c.fi, .int .i64 c.la, .int .i64 c.po] 24)).alloc (.cells #[.int .i64 L, .int .i64 y, .int .i64 i] 26)) (.int .i64 0) (.int .i64 0) (.int .i64 0) 26
  have zz : ((w.alloc (.cells #[.string c.nm, .int .i64 c.k, .int .i64 c.d, .int .i64 c.m, .int .i64 c.s, .int .i64 c.sh, .int .i64 c.p0, .int .i64 c.p1, .int .i64 c.p2, .int .i64 c.cy, .int .i64 c.ex, .int .i64 c.fi, .int .i64 c.la, .int .i64 c.po] 24)).alloc (.cells #[.int .i64 L, .int .i64 y, .int .i64 i] 26)).heap.size = w.heap.size + 2 := by simp
  rw [zz] at D
  replace U := U.alloc (.cells #[.int .i64 0, .int .i64 0, .int .i64 0] 26)
  replace C := (C.alloc (.cells #[.int .i64 L, .int .i64 y, .int .i64 i] 26)).alloc (.cells #[.int .i64 0, .int .i64 0, .int .i64 0] 26)
  replace B := balloc (balloc B (.cells #[.int .i64 L, .int .i64 y, .int .i64 i] 26)) (.cells #[.int .i64 0, .int .i64 0, .int .i64 0] 26)
  replace T := (T.alloc (.cells #[.int .i64 L, .int .i64 y, .int .i64 i] 26)).alloc (.cells #[.int .i64 0, .int .i64 0, .int .i64 0] 26)
  clear zz
  obtain ⟨a, ha⟩ : ∃ a, a = uend c y L (i - 1) + 1 := ⟨_, rfl⟩
  obtain ⟨b, hb'⟩ : ∃ b, b = uend c y L i := ⟨_, rfl⟩
  have cs := fun w T => rSpan_any c L y i a b 0 w (.inl ⟨uo, ha, hb', rfl⟩) K hm T
  have O : decide (M < 1) = true ∨ (decide (M < 1) = false ∧ decide (L < M) = true) := by
    by_cases h : M < 1
    · exact .inl (decide_eq_true h)
    · exact .inr ⟨decide_eq_false h, decide_eq_true (by omega)⟩
  clear uo mm ha hb' K
  rcases O with l0 | ⟨l0, l1⟩
  all_goals
    go_enter Tryz.func105, Tryz.ntmps105
    go_upto_region 1 with fail
    generalize ((w.alloc (.cells #[.string c.nm, .int .i64 c.k, .int .i64 c.d, .int .i64 c.m, .int .i64 c.s, .int .i64 c.sh, .int .i64 c.p0, .int .i64 c.p1, .int .i64 c.p2, .int .i64 c.cy, .int .i64 c.ex, .int .i64 c.fi, .int .i64 c.la, .int .i64 c.po] 24)).alloc (.cells #[.int .i64 L, .int .i64 y, .int .i64 i] 26)).alloc (.cells #[.int .i64 0, .int .i64 0, .int .i64 0] 26) = W0 at *
    obtain ⟨_, c0, c1, c2, c3, c4, c5, c6, c7, c8, c9, c10, c11, c12, c13⟩ := id C
    obtain ⟨_, u0, u1, u2, fu0, fu1, fu2⟩ := id U
    obtain ⟨_, r0, r1, r2, g0, g1, g2⟩ := id D
    go_wp2_with fail
    refine (cs _ T).mono ?_
    rintro e w1 ⟨rfl, hb⟩
    replace C := C.kept hb
    replace B := bthen B hb
    replace T := T.kept hb
    replace U := U.kept hb
    replace D := D.kept hb
    clear hb c0 c1 c2 c3 c4 c5 c6 c7 c8 c9 c10 c11 c12 c13 u0 u1 u2 fu0 fu1 fu2 r0 r1 r2 g0 g1 g2
    obtain ⟨_, c0, c1, c2, c3, c4, c5, c6, c7, c8, c9, c10, c11, c12, c13⟩ := id C
    obtain ⟨_, u0, u1, u2, fu0, fu1, fu2⟩ := id U
    obtain ⟨_, r0, r1, r2, g0, g1, g2⟩ := id D
    go_wp2
    refine bodyPost_ret (v := .tuple #[.agg #[.int .i64 0, .int .i64 0, .int .i64 0], .int .i64 1]) (by simp [results, Tryz.results105, go_sem, *]) rfl ⟨rfl, ?_⟩
    exact balloc (bset (bset (bset B (by omega) _ _) (by omega) _ _) (by omega) _ _) _

set_option maxRecDepth 100000 in
theorem rUp_no (c : CalZ) (L y i M er : Int) (w : World) (no : ¬ UnitOk c L y i) (ck : UChkA c L y i er) (K : ChkSays c) (hm : c.nm.size ≤ maxLen) (T : FTab w) :
    Calls Tryz.prog 105 #[.agg #[.string c.nm, .int .i64 c.k, .int .i64 c.d, .int .i64 c.m, .int .i64 c.s, .int .i64 c.sh, .int .i64 c.p0, .int .i64 c.p1, .int .i64 c.p2, .int .i64 c.cy, .int .i64 c.ex, .int .i64 c.fi, .int .i64 c.la, .int .i64 c.po], .agg #[.int .i64 L, .int .i64 y, .int .i64 i], .int .i64 M] w fun e w' => e = .returned (.tuple #[.agg #[.int .i64 0, .int .i64 0, .int .i64 0], .int .i64 er]) ∧ Below w.heap.size w w' := by
  have C := CalIn.new w c 24
  have B := balloc (Below.refl _ w) (.cells #[.string c.nm, .int .i64 c.k, .int .i64 c.d, .int .i64 c.m, .int .i64 c.s, .int .i64 c.sh, .int .i64 c.p0, .int .i64 c.p1, .int .i64 c.p2, .int .i64 c.cy, .int .i64 c.ex, .int .i64 c.fi, .int .i64 c.la, .int .i64 c.po] 24)
  replace T := T.alloc (.cells #[.string c.nm, .int .i64 c.k, .int .i64 c.d, .int .i64 c.m, .int .i64 c.s, .int .i64 c.sh, .int .i64 c.p0, .int .i64 c.p1, .int .i64 c.p2, .int .i64 c.cy, .int .i64 c.ex, .int .i64 c.fi, .int .i64 c.la, .int .i64 c.po] 24)
  have U := Bx.Tri.new (w.alloc (.cells #[.string c.nm, .int .i64 c.k, .int .i64 c.d, .int .i64 c.m, .int .i64 c.s, .int .i64 c.sh, .int .i64 c.p0, .int .i64 c.p1, .int .i64 c.p2, .int .i64 c.cy, .int .i64 c.ex, .int .i64 c.fi, .int .i64 c.la, .int .i64 c.po] 24)) (.int .i64 L) (.int .i64 y) (.int .i64 i) 26
  rw [World.size_alloc] at U
  have D := Bx.Tri.new ((w.alloc (.cells #[.string c.nm, .int .i64 c.k, .int .i64 c.d, .int .i64 c.m, .int .i64 c.s, .int .i64 c.sh, .int .i64 c.p0, .int .i64 c.p1, .int .i64 c.p2, .int .i64 c.cy, .int .i64 c.ex, .int .i64 c.fi, .int .i64 c.la, .int .i64 c.po] 24)).alloc (.cells #[.int .i64 L, .int .i64 y, .int .i64 i] 26)) (.int .i64 0) (.int .i64 0) (.int .i64 0) 26
  have zz : ((w.alloc (.cells #[.string c.nm, .int .i64 c.k, .int .i64 c.d, .int .i64 c.m, .int .i64 c.s, .int .i64 c.sh, .int .i64 c.p0, .int .i64 c.p1, .int .i64 c.p2, .int .i64 c.cy, .int .i64 c.ex, .int .i64 c.fi, .int .i64 c.la, .int .i64 c.po] 24)).alloc (.cells #[.int .i64 L, .int .i64 y, .int .i64 i] 26)).heap.size = w.heap.size + 2 := by simp
  rw [zz] at D
  replace U := U.alloc (.cells #[.int .i64 0, .int .i64 0, .int .i64 0] 26)
  replace C := (C.alloc (.cells #[.int .i64 L, .int .i64 y, .int .i64 i] 26)).alloc (.cells #[.int .i64 0, .int .i64 0, .int .i64 0] 26)
  replace B := balloc (balloc B (.cells #[.int .i64 L, .int .i64 y, .int .i64 i] 26)) (.cells #[.int .i64 0, .int .i64 0, .int .i64 0] 26)
  replace T := (T.alloc (.cells #[.int .i64 L, .int .i64 y, .int .i64 i] 26)).alloc (.cells #[.int .i64 0, .int .i64 0, .int .i64 0] 26)
  clear zz
  have cs := fun w T => rSpan_any c L y i 0 0 er w (.inr ⟨no, ck, rfl, rfl⟩) K hm T
  have e0 : (er != 0) = true := bne_iff_ne.2 (fun q => no ((uchka_ok ck).1 q))
  clear no ck K
  go_enter Tryz.func105, Tryz.ntmps105
  go_upto_region 1 with fail
  generalize ((w.alloc (.cells #[.string c.nm, .int .i64 c.k, .int .i64 c.d, .int .i64 c.m, .int .i64 c.s, .int .i64 c.sh, .int .i64 c.p0, .int .i64 c.p1, .int .i64 c.p2, .int .i64 c.cy, .int .i64 c.ex, .int .i64 c.fi, .int .i64 c.la, .int .i64 c.po] 24)).alloc (.cells #[.int .i64 L, .int .i64 y, .int .i64 i] 26)).alloc (.cells #[.int .i64 0, .int .i64 0, .int .i64 0] 26) = W0 at *
  obtain ⟨_, c0, c1, c2, c3, c4, c5, c6, c7, c8, c9, c10, c11, c12, c13⟩ := id C
  obtain ⟨_, u0, u1, u2, fu0, fu1, fu2⟩ := id U
  obtain ⟨_, r0, r1, r2, g0, g1, g2⟩ := id D
  go_wp2_with fail
  refine (cs _ T).mono ?_
  rintro e w1 ⟨rfl, hb⟩
  replace C := C.kept hb
  replace B := bthen B hb
  replace T := T.kept hb
  replace U := U.kept hb
  replace D := D.kept hb
  clear hb c0 c1 c2 c3 c4 c5 c6 c7 c8 c9 c10 c11 c12 c13 u0 u1 u2 fu0 fu1 fu2 r0 r1 r2 g0 g1 g2
  obtain ⟨_, c0, c1, c2, c3, c4, c5, c6, c7, c8, c9, c10, c11, c12, c13⟩ := id C
  obtain ⟨_, u0, u1, u2, fu0, fu1, fu2⟩ := id U
  obtain ⟨_, r0, r1, r2, g0, g1, g2⟩ := id D
  go_wp2
  refine bodyPost_ret (v := .tuple #[.agg #[.int .i64 0, .int .i64 0, .int .i64 0], .int .i64 er]) (by simp [results, Tryz.results105, go_sem, *]) rfl ⟨rfl, ?_⟩
  exact balloc (bset (bset (bset B (by omega) _ _) (by omega) _ _) (by omega) _ _) _

theorem rUp_any (c : CalZ) (L y i M p q r er : Int) (w : World) (R : UpA c L y i M p q r er) (K : ChkSays c) (hm : c.nm.size ≤ maxLen) (T : FTab w) :
    Calls Tryz.prog 105 #[.agg #[.string c.nm, .int .i64 c.k, .int .i64 c.d, .int .i64 c.m, .int .i64 c.s, .int .i64 c.sh, .int .i64 c.p0, .int .i64 c.p1, .int .i64 c.p2, .int .i64 c.cy, .int .i64 c.ex, .int .i64 c.fi, .int .i64 c.la, .int .i64 c.po], .agg #[.int .i64 L, .int .i64 y, .int .i64 i], .int .i64 M] w fun e w' => e = .returned (.tuple #[.agg #[.int .i64 p, .int .i64 q, .int .i64 r], .int .i64 er]) ∧ Below w.heap.size w w' := by
  rcases R with ⟨uo, m0, m1, hr, rfl, rfl, rfl⟩ | ⟨uo, mm, rfl, rfl, rfl, rfl⟩ | ⟨no, ck, rfl, rfl, rfl⟩
  · exact rUp_ok c L q i p r w uo m0 m1 hr K hm T
  · exact rUp_lev c L y i M w uo mm K hm T
  · exact rUp_no c L y i M er w no ck K hm T

end Go.Proofs.YtkfogmaogfgcgaaGreatDoor.Ir

