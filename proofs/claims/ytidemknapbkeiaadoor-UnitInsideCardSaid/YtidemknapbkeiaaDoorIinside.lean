/- UnitInside's walk. -/
import Derived.Test.YtidemknapbkeiaaDoorIdown
namespace Go.Proofs.YtidemknapbkeiaaDoor.Il
set_option linter.unusedSimpArgs false
set_option linter.unusedVariables false
open Go.RowKit Go.Proofs.YtidemknapbkeiaaDoor.Bn Go.Proofs.YtidemknapbkeiaaDoor.Bx Go.Proofs.YtidemknapbkeiaaDoor.Cp Go.Proofs.YtidemknapbkeiaaDoor.Am Go.Proofs.YtidemknapbkeiaaDoor.Fp Go.Proofs.YtidemknapbkeiaaDoor.Ap Go.Proofs.YtidemknapbkeiaaDoor.Cm Go.Proofs.YtidemknapbkeiaaDoor.Em Go.Proofs.YtidemknapbkeiaaDoor.Ep Go.Proofs.YtidemknapbkeiaaDoor.Rk Go.Proofs.YtidemknapbkeiaaDoor.Hp Go.Proofs.YtidemknapbkeiaaDoor.Ip

set_option maxHeartbeats 16000000

set_option maxRecDepth 100000 in
theorem inside_walk (c : CalZ) (L y i M : Int) (w : World) (wf : CalWf c) (wL : (Lit.int .i64 L).wf = true) (wy : (Lit.int .i64 y).wf = true) (wi : (Lit.int .i64 i).wf = true) (wM : (Lit.int .i64 M).wf = true) (tb : FTab w) :
    Calls Tryd.prog 12 #[.agg #[.string c.nm, .int .i64 c.k, .int .i64 c.d, .int .i64 c.m, .int .i64 c.s, .int .i64 c.sh, .int .i64 c.p0, .int .i64 c.p1, .int .i64 c.p2, .int .i64 c.cy, .int .i64 c.ex, .int .i64 c.fi, .int .i64 c.la, .int .i64 c.po], .agg #[.int .i64 L, .int .i64 y, .int .i64 i], .int .i64 M] w fun e w' => e = .returned (.bool true) ∧ Below w.heap.size w w' := by
  have T := tb
  have C := CalIn.new w c 24
  have B := balloc (Below.refl _ w) (.cells #[.string c.nm, .int .i64 c.k, .int .i64 c.d, .int .i64 c.m, .int .i64 c.s, .int .i64 c.sh, .int .i64 c.p0, .int .i64 c.p1, .int .i64 c.p2, .int .i64 c.cy, .int .i64 c.ex, .int .i64 c.fi, .int .i64 c.la, .int .i64 c.po] 24)
  replace T := T.alloc (.cells #[.string c.nm, .int .i64 c.k, .int .i64 c.d, .int .i64 c.m, .int .i64 c.s, .int .i64 c.sh, .int .i64 c.p0, .int .i64 c.p1, .int .i64 c.p2, .int .i64 c.cy, .int .i64 c.ex, .int .i64 c.fi, .int .i64 c.la, .int .i64 c.po] 24)
  have U := Go.Proofs.YtidemknapbkeiaaDoor.Bx.Tri.new (w.alloc (.cells #[.string c.nm, .int .i64 c.k, .int .i64 c.d, .int .i64 c.m, .int .i64 c.s, .int .i64 c.sh, .int .i64 c.p0, .int .i64 c.p1, .int .i64 c.p2, .int .i64 c.cy, .int .i64 c.ex, .int .i64 c.fi, .int .i64 c.la, .int .i64 c.po] 24)) (.int .i64 L) (.int .i64 y) (.int .i64 i) 49
  rw [World.size_alloc] at U
  replace C := C.alloc (.cells #[.int .i64 L, .int .i64 y, .int .i64 i] 49)
  replace B := balloc B (.cells #[.int .i64 L, .int .i64 y, .int .i64 i] 49)
  replace T := T.alloc (.cells #[.int .i64 L, .int .i64 y, .int .i64 i] 49)
  have hm := wf.1
  by_cases hl : 100 < c.nm.size
  · have dl : decide ((100 : Int) < (c.nm.size : Int)) = true := decide_eq_true (by omega)
    clear hl
    go_enter Tryd.func12, Tryd.ntmps12
    go_upto_region 1 with fail
    generalize (w.alloc (.cells #[.string c.nm, .int .i64 c.k, .int .i64 c.d, .int .i64 c.m, .int .i64 c.s, .int .i64 c.sh, .int .i64 c.p0, .int .i64 c.p1, .int .i64 c.p2, .int .i64 c.cy, .int .i64 c.ex, .int .i64 c.fi, .int .i64 c.la, .int .i64 c.po] 24)).alloc (.cells #[.int .i64 L, .int .i64 y, .int .i64 i] 49) = W0 at *
    obtain ⟨_, c0, c1, c2, c3, c4, c5, c6, c7, c8, c9, c10, c11, c12, c13⟩ := id C
    obtain ⟨_, u0, u1, u2, fu0, fu1, fu2⟩ := id U
    go_wp2_with fail
    refine (ilive_ok _ T).mono ?_
    rintro e w1 ⟨rfl, hb⟩
    replace C := C.kept hb
    replace B := bthen B hb
    replace T := T.kept hb
    replace U := U.kept hb
    clear hb c0 c1 c2 c3 c4 c5 c6 c7 c8 c9 c10 c11 c12 c13 u0 u1 u2 fu0 fu1 fu2
    obtain ⟨_, c0, c1, c2, c3, c4, c5, c6, c7, c8, c9, c10, c11, c12, c13⟩ := id C
    obtain ⟨_, u0, u1, u2, fu0, fu1, fu2⟩ := id U
    go_wp2
    go_ret
    exact ⟨by simp <;> omega, B⟩
  have dl : decide ((100 : Int) < (c.nm.size : Int)) = false := decide_eq_false (by omega)
  clear hl
  obtain ⟨a, b, e1, S1⟩ := spana_ex c L y i
  have cs := fun w T => Span_any c L y i a b e1 w S1 hm T
  obtain ⟨p, q, r, er, R⟩ := upa_ex c L y i M
  have ca := fun w T => Up_any c L y i M p q r er w R hm T
  rcases R with ⟨uo, m0, m1, hr, rfl, rfl, rfl⟩ | ⟨uo, mm, rfl, rfl, rfl, rfl⟩ | ⟨no, ck, rfl, rfl, rfl⟩
  · have S2 : a = uend c q L (i - 1) + 1 ∧ b = uend c q L i ∧ e1 = 0 := by
      rcases S1 with ⟨_, x, z, h⟩ | ⟨h, _⟩
      · exact ⟨x, z, h⟩
      · exact absurd uo h
    obtain ⟨ha, hb', rfl⟩ := S2
    have ud := unit_days uo
    have k := uo.1.1
    obtain ⟨_, dd, _, y0, y1, L0, L5⟩ := ud
    have lM : LevOk p := ⟨m0, by omega⟩
    have ub := ucount_bd (L := p) (y := q) k y0 y1
    obtain ⟨n, hn⟩ : ∃ n : Nat, (n : Int) = ucount c q p := ⟨(ucount c q p).toNat, by omega⟩
    have cc := fun w T => Count_any c p q (n : Int) 0 w (.inl ⟨uo.1, lM, uo.2.2.1, hn, rfl⟩) hm T
    have ins := inside k y0 y1 m0 L5 m1 uo.2.2.2.1 uo.2.2.2.2 hr
    have ab : a ≤ b := by omega
    have FA : Hid (∀ k0 : Nat, k0 < n → ∃ f t : Int, (((k0 : Int) + 1 < r ∧ f ≤ a ∧ t < a ∧ t < b ∧ f ≤ b) ∨ ((k0 : Int) + 1 = r ∧ f ≤ a ∧ b ≤ t) ∨ (r < (k0 : Int) + 1 ∧ b < f ∧ a < f)) ∧ ∀ w, FTab w → Calls Tryd.prog 36 #[.agg #[.string c.nm, .int .i64 c.k, .int .i64 c.d, .int .i64 c.m, .int .i64 c.s, .int .i64 c.sh, .int .i64 c.p0, .int .i64 c.p1, .int .i64 c.p2, .int .i64 c.cy, .int .i64 c.ex, .int .i64 c.fi, .int .i64 c.la, .int .i64 c.po], .agg #[.int .i64 p, .int .i64 q, .int .i64 ((k0 : Int) + 1)]] w fun e w' => e = .returned (.tuple #[.agg #[.int .i64 f, .int .i64 t], .int .i64 0]) ∧ Below w.heap.size w w') :=
      Lib.hid (fun k0 hk => by
        refine ⟨uend c q p (k0 : Int) + 1, uend c q p ((k0 : Int) + 1), ?_, fun w T => Span_any c p q ((k0 : Int) + 1) _ _ 0 w (.inl ⟨⟨uo.1, lM, uo.2.2.1, by omega, by omega⟩, by rw [show (k0 : Int) + 1 - 1 = k0 by omega], rfl, rfl⟩) hm T⟩
        have st := uend_step (y := q) (i := (k0 : Int)) k y0 y1 lM (by omega) (by omega)
        rcases Int.lt_trichotomy ((k0 : Int) + 1) r with h | h | h
        · have := uend_mono (y := q) k y0 y1 lM (a := (k0 : Int) + 1) (b := r - 1) (by omega) (by omega) (by have := hr.2.1; omega)
          exact .inl ⟨h, by omega, by omega, by omega, by omega⟩
        · rw [show (k0 : Int) = r - 1 by omega, show r - 1 + 1 = r by omega]
          exact .inr (.inl ⟨rfl, by omega, by omega⟩)
        · have := uend_mono (y := q) k y0 y1 lM (a := r) (b := (k0 : Int)) (by have := hr.1; omega) (by omega) (by omega)
          exact .inr (.inr ⟨h, by omega, by omega⟩))
    have n60 : n ≤ 60 := by omega
    obtain ⟨r0, rn⟩ : 1 ≤ r ∧ r ≤ (n : Int) := by have := hr.1; have := hr.2.1; omega
    have d1 : decide (p < 1) = false := decide_eq_false (by omega)
    have d2 : decide (L < p) = false := decide_eq_false (by omega)
    clear uo m0 m1 hr S1 ha hb' k y0 y1 lM ub hn ins L0 L5 dd
    go_enter Tryd.func12, Tryd.ntmps12
    go_upto_region 1 with fail
    generalize (w.alloc (.cells #[.string c.nm, .int .i64 c.k, .int .i64 c.d, .int .i64 c.m, .int .i64 c.s, .int .i64 c.sh, .int .i64 c.p0, .int .i64 c.p1, .int .i64 c.p2, .int .i64 c.cy, .int .i64 c.ex, .int .i64 c.fi, .int .i64 c.la, .int .i64 c.po] 24)).alloc (.cells #[.int .i64 L, .int .i64 q, .int .i64 i] 49) = W0 at *
    obtain ⟨_, c0, c1, c2, c3, c4, c5, c6, c7, c8, c9, c10, c11, c12, c13⟩ := id C
    obtain ⟨_, u0, u1, u2, fu0, fu1, fu2⟩ := id U
    go_wp2_with fail
    refine (ilive_ok _ T).mono ?_
    rintro e w2 ⟨rfl, hb⟩
    replace C := C.kept hb
    replace B := bthen B hb
    replace T := T.kept hb
    replace U := U.kept hb
    clear hb c0 c1 c2 c3 c4 c5 c6 c7 c8 c9 c10 c11 c12 c13 u0 u1 u2 fu0 fu1 fu2
    obtain ⟨_, c0, c1, c2, c3, c4, c5, c6, c7, c8, c9, c10, c11, c12, c13⟩ := id C
    obtain ⟨_, u0, u1, u2, fu0, fu1, fu2⟩ := id U
    go_wp2_with fail
    refine (cs _ T).mono ?_
    rintro e w3 ⟨rfl, hb⟩
    replace C := C.kept hb
    replace B := bthen B hb
    replace T := T.kept hb
    replace U := U.kept hb
    clear hb c0 c1 c2 c3 c4 c5 c6 c7 c8 c9 c10 c11 c12 c13 u0 u1 u2 fu0 fu1 fu2
    obtain ⟨_, c0, c1, c2, c3, c4, c5, c6, c7, c8, c9, c10, c11, c12, c13⟩ := id C
    obtain ⟨_, u0, u1, u2, fu0, fu1, fu2⟩ := id U
    have S := Go.Proofs.YtidemknapbkeiaaDoor.Pr.Two.new w3 (.int .i64 a) (.int .i64 b) 45
    replace C := C.alloc (.cells #[.int .i64 a, .int .i64 b] 45)
    replace T := T.alloc (.cells #[.int .i64 a, .int .i64 b] 45)
    replace U := U.alloc (.cells #[.int .i64 a, .int .i64 b] 45)
    replace B := balloc B (.cells #[.int .i64 a, .int .i64 b] 45)
    clear c0 c1 c2 c3 c4 c5 c6 c7 c8 c9 c10 c11 c12 c13 u0 u1 u2 fu0 fu1 fu2
    obtain ⟨_, c0, c1, c2, c3, c4, c5, c6, c7, c8, c9, c10, c11, c12, c13⟩ := id C
    obtain ⟨_, u0, u1, u2, fu0, fu1, fu2⟩ := id U
    obtain ⟨_, s0, s1, fs0, fs1⟩ := id S
    go_wp2_with fail
    refine (ca _ T).mono ?_
    rintro e w4 ⟨rfl, hb⟩
    replace C := C.kept hb
    replace B := bthen B hb
    replace T := T.kept hb
    replace U := U.kept hb
    replace S := S.kept hb
    clear hb c0 c1 c2 c3 c4 c5 c6 c7 c8 c9 c10 c11 c12 c13 u0 u1 u2 fu0 fu1 fu2 s0 s1 fs0 fs1
    obtain ⟨_, c0, c1, c2, c3, c4, c5, c6, c7, c8, c9, c10, c11, c12, c13⟩ := id C
    obtain ⟨_, u0, u1, u2, fu0, fu1, fu2⟩ := id U
    obtain ⟨_, s0, s1, fs0, fs1⟩ := id S
    have V := Go.Proofs.YtidemknapbkeiaaDoor.Bx.Tri.new w4 (.int .i64 p) (.int .i64 q) (.int .i64 r) 49
    replace C := C.alloc (.cells #[.int .i64 p, .int .i64 q, .int .i64 r] 49)
    replace T := T.alloc (.cells #[.int .i64 p, .int .i64 q, .int .i64 r] 49)
    replace U := U.alloc (.cells #[.int .i64 p, .int .i64 q, .int .i64 r] 49)
    replace S := S.alloc (.cells #[.int .i64 p, .int .i64 q, .int .i64 r] 49)
    replace B := balloc B (.cells #[.int .i64 p, .int .i64 q, .int .i64 r] 49)
    clear c0 c1 c2 c3 c4 c5 c6 c7 c8 c9 c10 c11 c12 c13 u0 u1 u2 fu0 fu1 fu2 s0 s1 fs0 fs1
    obtain ⟨_, c0, c1, c2, c3, c4, c5, c6, c7, c8, c9, c10, c11, c12, c13⟩ := id C
    obtain ⟨_, u0, u1, u2, fu0, fu1, fu2⟩ := id U
    obtain ⟨_, s0, s1, fs0, fs1⟩ := id S
    obtain ⟨_, v0, v1, v2, fv0, fv1, fv2⟩ := id V
    go_wp2_with fail
    refine (cc _ T).mono ?_
    rintro e w5 ⟨rfl, hb⟩
    replace C := C.kept hb
    replace B := bthen B hb
    replace T := T.kept hb
    replace U := U.kept hb
    replace S := S.kept hb
    replace V := V.kept hb
    clear hb c0 c1 c2 c3 c4 c5 c6 c7 c8 c9 c10 c11 c12 c13 u0 u1 u2 fu0 fu1 fu2 s0 s1 fs0 fs1 v0 v1 v2 fv0 fv1 fv2
    obtain ⟨_, c0, c1, c2, c3, c4, c5, c6, c7, c8, c9, c10, c11, c12, c13⟩ := id C
    obtain ⟨_, u0, u1, u2, fu0, fu1, fu2⟩ := id U
    obtain ⟨_, s0, s1, fs0, fs1⟩ := id S
    obtain ⟨_, v0, v1, v2, fv0, fv1, fv2⟩ := id V
    clear cs ca cc
    generalize hWL : w5 = WL at *
    clear hWL
    go_wp2
    go_loopw [13, 14] (fun Z X wr => ∃ k : Nat, k ≤ n ∧ X = .int .i64 ((k : Int) + 1) ∧ ((Z = .int .i64 0 ∧ (k : Int) < r) ∨ (Z = .int .i64 1 ∧ r ≤ (k : Int))) ∧ Below WL.heap.size WL wr) (fun _ X _ => (64 - intOf X).toNat)
    case atStart => exact ⟨0, by omega, rfl, .inl ⟨rfl, by omega⟩, Below.refl _ _⟩
    case round =>
      obtain ⟨k, hk, rfl, ZZ, B2⟩ := hrel
      clear c0 c1 c2 c3 c4 c5 c6 c7 c8 c9 c10 c11 c12 c13 u0 u1 u2 fu0 fu1 fu2 s0 s1 fs0 fs1 v0 v1 v2 fv0 fv1 fv2
      replace C := C.kept B2
      replace T := T.kept B2
      replace B := bthen B B2
      replace U := U.kept B2
      replace S := S.kept B2
      replace V := V.kept B2
      by_cases hlt : k < n
      · obtain ⟨f, t, O, cx⟩ := FA.out k hlt
        have dk : decide ((k : Int) + 1 ≤ (n : Int)) = true := decide_eq_true (by omega)
        obtain ⟨_, u0, u1, u2, fu0, fu1, fu2⟩ := id U
        have N := Go.Proofs.YtidemknapbkeiaaDoor.Bx.Tri.new wr (.int .i64 p) (.int .i64 q) (.int .i64 ((k : Int) + 1)) 49
        replace C := C.alloc (.cells #[.int .i64 p, .int .i64 q, .int .i64 ((k : Int) + 1)] 49)
        replace T := T.alloc (.cells #[.int .i64 p, .int .i64 q, .int .i64 ((k : Int) + 1)] 49)
        replace S := S.alloc (.cells #[.int .i64 p, .int .i64 q, .int .i64 ((k : Int) + 1)] 49)
        replace V := V.alloc (.cells #[.int .i64 p, .int .i64 q, .int .i64 ((k : Int) + 1)] 49)
        replace B2 := balloc B2 (.cells #[.int .i64 p, .int .i64 q, .int .i64 ((k : Int) + 1)] 49)
        go_upto_region 19 with fail
        generalize wr.alloc (.cells #[.int .i64 p, .int .i64 q, .int .i64 ((k : Int) + 1)] 49) = W5 at *
        clear u0 u1 u2 fu0 fu1 fu2
        obtain ⟨_, c0, c1, c2, c3, c4, c5, c6, c7, c8, c9, c10, c11, c12, c13⟩ := id C
        obtain ⟨_, m0, m1, m2, fm0, fm1, fm2⟩ := id N
        go_wp2_with fail
        refine (cx _ T).mono ?_
        rintro e w8 ⟨rfl, hb⟩
        have P := Go.Proofs.YtidemknapbkeiaaDoor.Pr.Two.new w8 (.int .i64 f) (.int .i64 t) 45
        replace N := (N.kept hb).alloc (.cells #[.int .i64 f, .int .i64 t] 45)
        replace S := (S.kept hb).alloc (.cells #[.int .i64 f, .int .i64 t] 45)
        replace V := (V.kept hb).alloc (.cells #[.int .i64 f, .int .i64 t] 45)
        replace B2 := balloc (bthen B2 hb) (.cells #[.int .i64 f, .int .i64 t] 45)
        clear hb cx m0 m1 m2 fm0 fm1 fm2 C T
        clear c0 c1 c2 c3 c4 c5 c6 c7 c8 c9 c10 c11 c12 c13 
        go_upto_region 20 with fail
        generalize w8.alloc (.cells #[.int .i64 f, .int .i64 t] 45) = W6 at *
        obtain ⟨_, m0, m1, m2, fm0, fm1, fm2⟩ := id N
        obtain ⟨_, s0, s1, fs0, fs1⟩ := id S
        obtain ⟨_, v0, v1, v2, fv0, fv1, fv2⟩ := id V
        obtain ⟨_, p0, p1, fp0, fp1⟩ := id P
        rcases O with ⟨o1, o2, o3, o4, o5⟩ | ⟨o1, o2, o3⟩ | ⟨o1, o2, o3⟩
        · have g1 : decide (f ≤ a) = true := decide_eq_true o2
          have g2 : decide (b ≤ t) = false := decide_eq_false (by omega)
          have g3 : decide (f ≤ b) = true := decide_eq_true o5
          have g4 : decide (a ≤ t) = false := decide_eq_false (by omega)
          rcases ZZ with ⟨rfl, z⟩ | ⟨rfl, z⟩
          · go_wp2
            go_roundw
            case rel => exact ⟨k + 1, by omega, by go_num, .inl ⟨rfl, by omega⟩, B2⟩
            case measure => simp [intOf]; omega
          · exfalso; omega
        · have g1 : decide (f ≤ a) = true := decide_eq_true o2
          have g2 : decide (b ≤ t) = true := decide_eq_true o3
          subst o1
          rcases ZZ with ⟨rfl, z⟩ | ⟨rfl, z⟩
          · go_wp2
            go_roundw
            case rel => exact ⟨k + 1, by omega, by go_num, .inr ⟨rfl, by omega⟩, B2⟩
            case measure => simp [intOf]; omega
          · exfalso; omega
        · have g1 : decide (f ≤ a) = false := decide_eq_false (by omega)
          have g3 : decide (f ≤ b) = false := decide_eq_false (by omega)
          rcases ZZ with ⟨rfl, z⟩ | ⟨rfl, z⟩
          · exfalso; omega
          · go_wp2
            go_roundw
            case rel => exact ⟨k + 1, by omega, by go_num, .inr ⟨rfl, by omega⟩, B2⟩
            case measure => simp [intOf]; omega
      · obtain rfl : k = n := by omega
        have dk : decide ((k : Int) + 1 ≤ (k : Int)) = false := decide_eq_false (by omega)
        rcases ZZ with ⟨rfl, z⟩ | ⟨rfl, z⟩
        · exfalso; omega
        · go_wp2
          go_ret
          exact ⟨by simp, B⟩
  · have S2 : e1 = 0 := by
      rcases S1 with ⟨_, x, z, h⟩ | ⟨h, _⟩
      · exact h
      · exact absurd uo h
    have O : decide (M < 1) = true ∨ (decide (M < 1) = false ∧ decide (L < M) = true) := by
      by_cases h : M < 1
      · exact .inl (decide_eq_true h)
      · exact .inr ⟨decide_eq_false h, decide_eq_true (by omega)⟩
    subst S2
    clear uo mm S1
    rcases O with n0 | ⟨n0, n1⟩
    all_goals
      go_enter Tryd.func12, Tryd.ntmps12
      go_upto_region 1 with fail
      generalize (w.alloc (.cells #[.string c.nm, .int .i64 c.k, .int .i64 c.d, .int .i64 c.m, .int .i64 c.s, .int .i64 c.sh, .int .i64 c.p0, .int .i64 c.p1, .int .i64 c.p2, .int .i64 c.cy, .int .i64 c.ex, .int .i64 c.fi, .int .i64 c.la, .int .i64 c.po] 24)).alloc (.cells #[.int .i64 L, .int .i64 y, .int .i64 i] 49) = W0 at *
      obtain ⟨_, c0, c1, c2, c3, c4, c5, c6, c7, c8, c9, c10, c11, c12, c13⟩ := id C
      obtain ⟨_, u0, u1, u2, fu0, fu1, fu2⟩ := id U
      go_wp2_with fail
      refine (ilive_ok _ T).mono ?_
      rintro e w6 ⟨rfl, hb⟩
      replace C := C.kept hb
      replace B := bthen B hb
      replace T := T.kept hb
      replace U := U.kept hb
      clear hb c0 c1 c2 c3 c4 c5 c6 c7 c8 c9 c10 c11 c12 c13 u0 u1 u2 fu0 fu1 fu2
      obtain ⟨_, c0, c1, c2, c3, c4, c5, c6, c7, c8, c9, c10, c11, c12, c13⟩ := id C
      obtain ⟨_, u0, u1, u2, fu0, fu1, fu2⟩ := id U
      go_wp2_with fail
      refine (cs _ T).mono ?_
      rintro e w7 ⟨rfl, hb⟩
      replace C := C.kept hb
      replace B := bthen B hb
      replace T := T.kept hb
      replace U := U.kept hb
      clear hb c0 c1 c2 c3 c4 c5 c6 c7 c8 c9 c10 c11 c12 c13 u0 u1 u2 fu0 fu1 fu2
      obtain ⟨_, c0, c1, c2, c3, c4, c5, c6, c7, c8, c9, c10, c11, c12, c13⟩ := id C
      obtain ⟨_, u0, u1, u2, fu0, fu1, fu2⟩ := id U
      have S := Go.Proofs.YtidemknapbkeiaaDoor.Pr.Two.new w7 (.int .i64 a) (.int .i64 b) 45
      replace C := C.alloc (.cells #[.int .i64 a, .int .i64 b] 45)
      replace T := T.alloc (.cells #[.int .i64 a, .int .i64 b] 45)
      replace U := U.alloc (.cells #[.int .i64 a, .int .i64 b] 45)
      replace B := balloc B (.cells #[.int .i64 a, .int .i64 b] 45)
      clear c0 c1 c2 c3 c4 c5 c6 c7 c8 c9 c10 c11 c12 c13 u0 u1 u2 fu0 fu1 fu2
      obtain ⟨_, c0, c1, c2, c3, c4, c5, c6, c7, c8, c9, c10, c11, c12, c13⟩ := id C
      obtain ⟨_, u0, u1, u2, fu0, fu1, fu2⟩ := id U
      obtain ⟨_, s0, s1, fs0, fs1⟩ := id S
      go_wp2_with fail
      refine (ca _ T).mono ?_
      rintro e w8 ⟨rfl, hb⟩
      replace C := C.kept hb
      replace B := bthen B hb
      replace T := T.kept hb
      replace U := U.kept hb
      replace S := S.kept hb
      clear hb c0 c1 c2 c3 c4 c5 c6 c7 c8 c9 c10 c11 c12 c13 u0 u1 u2 fu0 fu1 fu2 s0 s1 fs0 fs1
      obtain ⟨_, c0, c1, c2, c3, c4, c5, c6, c7, c8, c9, c10, c11, c12, c13⟩ := id C
      obtain ⟨_, u0, u1, u2, fu0, fu1, fu2⟩ := id U
      obtain ⟨_, s0, s1, fs0, fs1⟩ := id S
      have V := Go.Proofs.YtidemknapbkeiaaDoor.Bx.Tri.new w8 (.int .i64 0) (.int .i64 0) (.int .i64 0) 49
      replace C := C.alloc (.cells #[.int .i64 0, .int .i64 0, .int .i64 0] 49)
      replace T := T.alloc (.cells #[.int .i64 0, .int .i64 0, .int .i64 0] 49)
      replace U := U.alloc (.cells #[.int .i64 0, .int .i64 0, .int .i64 0] 49)
      replace S := S.alloc (.cells #[.int .i64 0, .int .i64 0, .int .i64 0] 49)
      replace B := balloc B (.cells #[.int .i64 0, .int .i64 0, .int .i64 0] 49)
      clear c0 c1 c2 c3 c4 c5 c6 c7 c8 c9 c10 c11 c12 c13 u0 u1 u2 fu0 fu1 fu2 s0 s1 fs0 fs1
      obtain ⟨_, c0, c1, c2, c3, c4, c5, c6, c7, c8, c9, c10, c11, c12, c13⟩ := id C
      obtain ⟨_, u0, u1, u2, fu0, fu1, fu2⟩ := id U
      obtain ⟨_, s0, s1, fs0, fs1⟩ := id S
      obtain ⟨_, v0, v1, v2, fv0, fv1, fv2⟩ := id V
      go_wp2
      go_ret
      exact ⟨by simp, B⟩
  · have S2 : a = 0 ∧ b = 0 ∧ e1 = er := by
      rcases S1 with ⟨h, _⟩ | ⟨_, ck2, x, z⟩
      · exact absurd h no
      · refine ⟨x, z, ?_⟩
        obtain ⟨v1, f1, A1, O1⟩ := ck
        obtain ⟨v2, f2, A2, O2⟩ := ck2
        have : v1 = v2 ∧ f1 = f2 := counta_uniq A1 A2
        omega
    obtain ⟨rfl, rfl, rfl⟩ := S2
    have O := spana_no ck (fun q => no ((uchka_ok ck).1 q))
    clear no ck S1
    rcases O with rfl | rfl | rfl
    all_goals
      go_enter Tryd.func12, Tryd.ntmps12
      go_upto_region 1 with fail
      generalize (w.alloc (.cells #[.string c.nm, .int .i64 c.k, .int .i64 c.d, .int .i64 c.m, .int .i64 c.s, .int .i64 c.sh, .int .i64 c.p0, .int .i64 c.p1, .int .i64 c.p2, .int .i64 c.cy, .int .i64 c.ex, .int .i64 c.fi, .int .i64 c.la, .int .i64 c.po] 24)).alloc (.cells #[.int .i64 L, .int .i64 y, .int .i64 i] 49) = W0 at *
      obtain ⟨_, c0, c1, c2, c3, c4, c5, c6, c7, c8, c9, c10, c11, c12, c13⟩ := id C
      obtain ⟨_, u0, u1, u2, fu0, fu1, fu2⟩ := id U
      go_wp2_with fail
      refine (ilive_ok _ T).mono ?_
      rintro e w9 ⟨rfl, hb⟩
      replace C := C.kept hb
      replace B := bthen B hb
      replace T := T.kept hb
      replace U := U.kept hb
      clear hb c0 c1 c2 c3 c4 c5 c6 c7 c8 c9 c10 c11 c12 c13 u0 u1 u2 fu0 fu1 fu2
      obtain ⟨_, c0, c1, c2, c3, c4, c5, c6, c7, c8, c9, c10, c11, c12, c13⟩ := id C
      obtain ⟨_, u0, u1, u2, fu0, fu1, fu2⟩ := id U
      go_wp2_with fail
      refine (cs _ T).mono ?_
      rintro e w10 ⟨rfl, hb⟩
      replace C := C.kept hb
      replace B := bthen B hb
      replace T := T.kept hb
      replace U := U.kept hb
      clear hb c0 c1 c2 c3 c4 c5 c6 c7 c8 c9 c10 c11 c12 c13 u0 u1 u2 fu0 fu1 fu2
      obtain ⟨_, c0, c1, c2, c3, c4, c5, c6, c7, c8, c9, c10, c11, c12, c13⟩ := id C
      obtain ⟨_, u0, u1, u2, fu0, fu1, fu2⟩ := id U
      have S := Go.Proofs.YtidemknapbkeiaaDoor.Pr.Two.new w10 (.int .i64 0) (.int .i64 0) 45
      replace C := C.alloc (.cells #[.int .i64 0, .int .i64 0] 45)
      replace T := T.alloc (.cells #[.int .i64 0, .int .i64 0] 45)
      replace U := U.alloc (.cells #[.int .i64 0, .int .i64 0] 45)
      replace B := balloc B (.cells #[.int .i64 0, .int .i64 0] 45)
      clear c0 c1 c2 c3 c4 c5 c6 c7 c8 c9 c10 c11 c12 c13 u0 u1 u2 fu0 fu1 fu2
      obtain ⟨_, c0, c1, c2, c3, c4, c5, c6, c7, c8, c9, c10, c11, c12, c13⟩ := id C
      obtain ⟨_, u0, u1, u2, fu0, fu1, fu2⟩ := id U
      obtain ⟨_, s0, s1, fs0, fs1⟩ := id S
      go_wp2_with fail
      refine (ca _ T).mono ?_
      rintro e w11 ⟨rfl, hb⟩
      replace C := C.kept hb
      replace B := bthen B hb
      replace T := T.kept hb
      replace U := U.kept hb
      replace S := S.kept hb
      clear hb c0 c1 c2 c3 c4 c5 c6 c7 c8 c9 c10 c11 c12 c13 u0 u1 u2 fu0 fu1 fu2 s0 s1 fs0 fs1
      obtain ⟨_, c0, c1, c2, c3, c4, c5, c6, c7, c8, c9, c10, c11, c12, c13⟩ := id C
      obtain ⟨_, u0, u1, u2, fu0, fu1, fu2⟩ := id U
      obtain ⟨_, s0, s1, fs0, fs1⟩ := id S
      have V := Go.Proofs.YtidemknapbkeiaaDoor.Bx.Tri.new w11 (.int .i64 0) (.int .i64 0) (.int .i64 0) 49
      replace C := C.alloc (.cells #[.int .i64 0, .int .i64 0, .int .i64 0] 49)
      replace T := T.alloc (.cells #[.int .i64 0, .int .i64 0, .int .i64 0] 49)
      replace U := U.alloc (.cells #[.int .i64 0, .int .i64 0, .int .i64 0] 49)
      replace S := S.alloc (.cells #[.int .i64 0, .int .i64 0, .int .i64 0] 49)
      replace B := balloc B (.cells #[.int .i64 0, .int .i64 0, .int .i64 0] 49)
      clear c0 c1 c2 c3 c4 c5 c6 c7 c8 c9 c10 c11 c12 c13 u0 u1 u2 fu0 fu1 fu2 s0 s1 fs0 fs1
      obtain ⟨_, c0, c1, c2, c3, c4, c5, c6, c7, c8, c9, c10, c11, c12, c13⟩ := id C
      obtain ⟨_, u0, u1, u2, fu0, fu1, fu2⟩ := id U
      obtain ⟨_, s0, s1, fs0, fs1⟩ := id S
      obtain ⟨_, v0, v1, v2, fv0, fv1, fv2⟩ := id V
      go_wp2
      go_ret
      exact ⟨by simp, B⟩

end Go.Proofs.YtidemknapbkeiaaDoor.Il
