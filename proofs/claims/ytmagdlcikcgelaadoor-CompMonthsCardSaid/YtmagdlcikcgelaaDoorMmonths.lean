/- CompMonths' walk. -/
import Derived.Test.YtmagdlcikcgelaaDoorMlive
import Derived.Test.YtmagdlcikcgelaaDoorMlaw
namespace Go.Proofs.YtmagdlcikcgelaaDoor.Ml
set_option linter.unusedSimpArgs false
set_option linter.unusedVariables false
open Go.RowKit Go.Proofs.YtmagdlcikcgelaaDoor.Bn Go.Proofs.YtmagdlcikcgelaaDoor.Bx Go.Proofs.YtmagdlcikcgelaaDoor.Cp Go.Proofs.YtmagdlcikcgelaaDoor.Am Go.Proofs.YtmagdlcikcgelaaDoor.Fp Go.Proofs.YtmagdlcikcgelaaDoor.Ap Go.Proofs.YtmagdlcikcgelaaDoor.Cm Go.Proofs.YtmagdlcikcgelaaDoor.Em Go.Proofs.YtmagdlcikcgelaaDoor.Ep Go.Proofs.YtmagdlcikcgelaaDoor.Rk Go.Proofs.YtmagdlcikcgelaaDoor.Hp Go.Proofs.YtmagdlcikcgelaaDoor.Ip Go.Proofs.YtmagdlcikcgelaaDoor.Jp Go.Proofs.YtmagdlcikcgelaaDoor.Dp Go.Proofs.YtmagdlcikcgelaaDoor.Mp

set_option maxHeartbeats 8000000

/-- a day of a year of months, and the one that it is compared with, as dates -/
theorem months_at {c : CalZ} {d y : Int} (k : Int) (S : ServedA c d y 0) (k6 : c.k = 6) (st : Served c (y + k)) : ∃ v Y M D n x, CDayA c d k v 0 ∧ OfRes d Y M D 0 ∧ OfRes v (Y + k) M x 0 ∧ LenRes (Y + k) M n 0 ∧ ((D ≤ n ∧ x = D) ∨ (n < D ∧ x = n)) ∧
    1600 ≤ Y ∧ Y ≤ 9999 ∧ 1600 ≤ Y + k ∧ Y + k ≤ 9999 ∧ 1 ≤ D ∧ D ≤ 31 ∧ 28 ≤ n ∧ n ≤ 31 := by
  obtain ⟨ok, s, p0, p1⟩ := served_to S
  have ty := served_told ok s
  have tt := served_told ok st
  obtain ⟨v, i, I, hv⟩ := mday_ex ok s p0 p1 (y + k)
  have A : CDayA c d k v 0 := ⟨y, 0, S, .inr (.inr (.inr ⟨rfl, st, k6, ⟨i, I, hv⟩, rfl⟩))⟩
  obtain ⟨i0, i1, I2, I3⟩ := I
  rw [uend_4] at I2 I3
  rw [(ucount_is c y).2.2.2.1] at i1
  have s5 : c.sh = 5 ∧ per c = 12 := by
    rcases shape_cases ok.1 with h | h | h
    · omega
    · exact ⟨h.2.1, h.2.2.2⟩
    · exact absurd k6 h.2.1
  have a := pend_step ok.1 (y := y) (p := i) (by omega) (by omega) i0 i1
  have b := pend_step ok.1 (y := y + k) (p := i) (by omega) (by omega) i0 i1
  have kb := kind_bd ok.1
  obtain ⟨Y, hY⟩ : ∃ Y, Y = mon c y i / 12 := ⟨_, rfl⟩
  obtain ⟨M, hM⟩ : ∃ M, M = mon c y i % 12 + 1 := ⟨_, rfl⟩
  have e1 : mon c (y + k) i / 12 = Y + k := by subst hY; unfold mon; omega
  have e2 : mon c (y + k) i % 12 + 1 = M := by subst hM; unfold mon; omega
  have yb : 1600 ≤ Y ∧ Y ≤ 9999 ∧ 1 ≤ M ∧ M ≤ 12 ∧ 1600 ≤ Y + k ∧ Y + k ≤ 9999 := by subst hY hM; unfold mon; omega
  have q0 := yend_bd ok.1 (y := y - 1) (by omega) (by omega)
  have q1 := yend_bd ok.1 (y := y) (by omega) (by omega)
  have r0 := pend_bd ok.1 (y := y + k) (p := i - 1) (by omega) (by omega) (by omega) (by omega)
  have r1 := pend_bd ok.1 (y := y + k) (p := i) (by omega) (by omega) (by omega) (by omega)
  rcases a with ⟨h, _⟩ | ⟨_, a1, a2⟩ | ⟨_, h, _⟩
  · omega
  rcases b with ⟨h, _⟩ | ⟨_, b1, b2⟩ | ⟨_, h, _⟩
  · omega
  · rw [← hY, ← hM] at a1 a2
    rw [e1, e2] at b1 b2
    have ml := mlen_bd Y M
    have ml2 := mlen_bd (Y + k) M
    unfold num at a2 b2
    have lv : v = pend c (y + k) (i - 1) + (d - pend c y (i - 1)) ∧ d - pend c y (i - 1) ≤ mlen (Y + k) M ∨ v = pend c (y + k) i ∧ mlen (Y + k) M < d - pend c y (i - 1) := by omega
    obtain ⟨x, hx⟩ : ∃ x, x = v - pend c (y + k) (i - 1) := ⟨_, rfl⟩
    refine ⟨v, Y, M, d - pend c y (i - 1), mlen (Y + k) M, x, A, .inl ⟨by omega, by omega, ⟨⟨by omega, by omega, by omega, by omega⟩, by omega, by omega⟩, by unfold num; omega, rfl⟩,
      .inl ⟨by omega, by omega, ⟨⟨by omega, by omega, by omega, by omega⟩, by omega, by omega⟩, by unfold num; omega, rfl⟩, .inl ⟨⟨by omega, by omega, by omega, by omega⟩, rfl, rfl⟩, by omega, by omega, by omega, by omega, by omega, by omega, by omega, by omega, by omega⟩
  · omega
  · omega

set_option maxRecDepth 100000 in
theorem months_walk (c : CalZ) (d k : Int) (w : World) (wf : CalWf c) (wd : (Lit.int .i64 d).wf = true) (wk : (Lit.int .i64 k).wf = true) (tb : FTab w) :
    Calls Tryd.prog 9 #[.agg #[.string c.nm, .int .i64 c.k, .int .i64 c.d, .int .i64 c.m, .int .i64 c.s, .int .i64 c.sh, .int .i64 c.p0, .int .i64 c.p1, .int .i64 c.p2, .int .i64 c.cy, .int .i64 c.ex, .int .i64 c.fi, .int .i64 c.la, .int .i64 c.po], .int .i64 d, .int .i64 k] w fun e w' => e = .returned (.bool true) ∧ Below w.heap.size w w' := by
  have T := tb
  have C := CalIn.new w c 24
  have B := balloc (Below.refl _ w) (.cells #[.string c.nm, .int .i64 c.k, .int .i64 c.d, .int .i64 c.m, .int .i64 c.s, .int .i64 c.sh, .int .i64 c.p0, .int .i64 c.p1, .int .i64 c.p2, .int .i64 c.cy, .int .i64 c.ex, .int .i64 c.fi, .int .i64 c.la, .int .i64 c.po] 24)
  replace T := T.alloc (.cells #[.string c.nm, .int .i64 c.k, .int .i64 c.d, .int .i64 c.m, .int .i64 c.s, .int .i64 c.sh, .int .i64 c.p0, .int .i64 c.p1, .int .i64 c.p2, .int .i64 c.cy, .int .i64 c.ex, .int .i64 c.fi, .int .i64 c.la, .int .i64 c.po] 24)
  have hm := wf.1
  by_cases hl : 100 < c.nm.size
  · have dl : decide ((100 : Int) < (c.nm.size : Int)) = true := decide_eq_true (by omega)
    clear hl
    go_enter Tryd.func9, Tryd.ntmps9
    go_upto_region 1 with fail
    generalize w.alloc (.cells #[.string c.nm, .int .i64 c.k, .int .i64 c.d, .int .i64 c.m, .int .i64 c.s, .int .i64 c.sh, .int .i64 c.p0, .int .i64 c.p1, .int .i64 c.p2, .int .i64 c.cy, .int .i64 c.ex, .int .i64 c.fi, .int .i64 c.la, .int .i64 c.po] 24) = W0 at *
    obtain ⟨_, c0, c1, c2, c3, c4, c5, c6, c7, c8, c9, c10, c11, c12, c13⟩ := id C
    go_wp2_with fail
    refine (mlive_ok _ T).mono ?_
    rintro e w1 ⟨rfl, hb⟩
    replace C := C.kept hb
    replace B := bthen B hb
    replace T := T.kept hb
    clear hb c0 c1 c2 c3 c4 c5 c6 c7 c8 c9 c10 c11 c12 c13
    obtain ⟨_, c0, c1, c2, c3, c4, c5, c6, c7, c8, c9, c10, c11, c12, c13⟩ := id C
    go_wp2
    go_ret
    exact ⟨by simp <;> omega, B⟩
  have dl : decide ((100 : Int) < (c.nm.size : Int)) = false := decide_eq_false (by omega)
  clear hl
  by_cases k6 : c.k = 6
  case neg =>
    have d6 : (c.k != 6) = true := bne_iff_ne.2 k6
    clear k6
    go_enter Tryd.func9, Tryd.ntmps9
    go_upto_region 1 with fail
    generalize w.alloc (.cells #[.string c.nm, .int .i64 c.k, .int .i64 c.d, .int .i64 c.m, .int .i64 c.s, .int .i64 c.sh, .int .i64 c.p0, .int .i64 c.p1, .int .i64 c.p2, .int .i64 c.cy, .int .i64 c.ex, .int .i64 c.fi, .int .i64 c.la, .int .i64 c.po] 24) = W0 at *
    obtain ⟨_, c0, c1, c2, c3, c4, c5, c6, c7, c8, c9, c10, c11, c12, c13⟩ := id C
    go_wp2_with fail
    refine (mlive_ok _ T).mono ?_
    rintro e w2 ⟨rfl, hb⟩
    replace C := C.kept hb
    replace B := bthen B hb
    replace T := T.kept hb
    clear hb c0 c1 c2 c3 c4 c5 c6 c7 c8 c9 c10 c11 c12 c13
    obtain ⟨_, c0, c1, c2, c3, c4, c5, c6, c7, c8, c9, c10, c11, c12, c13⟩ := id C
    go_wp2
    go_ret
    exact ⟨by simp <;> omega, B⟩
  have d6 : (c.k != 6) = false := by rw [k6]; rfl
  obtain ⟨y, e, S⟩ := serveda_ex c d
  by_cases h : e = 0
  case neg =>
    have E := served_er S h
    have ca := fun w T => CDay_any c d k 0 e w (cday_no S h) wk hm T
    have E2 := E.2.1
    clear S h k6 E
    rcases E2 with rfl | rfl | rfl
    all_goals
      go_enter Tryd.func9, Tryd.ntmps9
      go_upto_region 1 with fail
      generalize w.alloc (.cells #[.string c.nm, .int .i64 c.k, .int .i64 c.d, .int .i64 c.m, .int .i64 c.s, .int .i64 c.sh, .int .i64 c.p0, .int .i64 c.p1, .int .i64 c.p2, .int .i64 c.cy, .int .i64 c.ex, .int .i64 c.fi, .int .i64 c.la, .int .i64 c.po] 24) = W0 at *
      obtain ⟨_, c0, c1, c2, c3, c4, c5, c6, c7, c8, c9, c10, c11, c12, c13⟩ := id C
      go_wp2_with fail
      refine (mlive_ok _ T).mono ?_
      rintro e w3 ⟨rfl, hb⟩
      replace C := C.kept hb
      replace B := bthen B hb
      replace T := T.kept hb
      clear hb c0 c1 c2 c3 c4 c5 c6 c7 c8 c9 c10 c11 c12 c13
      obtain ⟨_, c0, c1, c2, c3, c4, c5, c6, c7, c8, c9, c10, c11, c12, c13⟩ := id C
      go_wp2_with fail
      refine (ca _ T).mono ?_
      rintro e w4 ⟨rfl, hb⟩
      replace C := C.kept hb
      replace B := bthen B hb
      replace T := T.kept hb
      clear hb c0 c1 c2 c3 c4 c5 c6 c7 c8 c9 c10 c11 c12 c13
      obtain ⟨_, c0, c1, c2, c3, c4, c5, c6, c7, c8, c9, c10, c11, c12, c13⟩ := id C
      go_wp2
      go_ret
      exact ⟨by simp <;> omega, B⟩
  subst h
  rcases served_dec c (y + k) with st | ns
  case inr =>
    have ca := fun w T => CDay_any c d k 0 11 w (cday_out S ns) wk hm T
    clear S ns k6
    go_enter Tryd.func9, Tryd.ntmps9
    go_upto_region 1 with fail
    generalize w.alloc (.cells #[.string c.nm, .int .i64 c.k, .int .i64 c.d, .int .i64 c.m, .int .i64 c.s, .int .i64 c.sh, .int .i64 c.p0, .int .i64 c.p1, .int .i64 c.p2, .int .i64 c.cy, .int .i64 c.ex, .int .i64 c.fi, .int .i64 c.la, .int .i64 c.po] 24) = W0 at *
    obtain ⟨_, c0, c1, c2, c3, c4, c5, c6, c7, c8, c9, c10, c11, c12, c13⟩ := id C
    go_wp2_with fail
    refine (mlive_ok _ T).mono ?_
    rintro e w5 ⟨rfl, hb⟩
    replace C := C.kept hb
    replace B := bthen B hb
    replace T := T.kept hb
    clear hb c0 c1 c2 c3 c4 c5 c6 c7 c8 c9 c10 c11 c12 c13
    obtain ⟨_, c0, c1, c2, c3, c4, c5, c6, c7, c8, c9, c10, c11, c12, c13⟩ := id C
    go_wp2_with fail
    refine (ca _ T).mono ?_
    rintro e w6 ⟨rfl, hb⟩
    replace C := C.kept hb
    replace B := bthen B hb
    replace T := T.kept hb
    clear hb c0 c1 c2 c3 c4 c5 c6 c7 c8 c9 c10 c11 c12 c13
    obtain ⟨_, c0, c1, c2, c3, c4, c5, c6, c7, c8, c9, c10, c11, c12, c13⟩ := id C
    go_wp2
    go_ret
    exact ⟨by simp <;> omega, B⟩
  obtain ⟨v, Y, M, D, n, x, A, R1, R2, R3, O, y0, y1, y2, y3, D0, D1, n0, n1⟩ := months_at k S k6 st
  have ca := fun w T => CDay_any c d k v 0 w A wk hm T
  have q1 := fun w T => Of_b d Y M D 0 w R1 T
  have q2 := fun w T => Of_b v (Y + k) M x 0 w R2 T
  have q3 := fun w T => Length_b (Y + k) M n 0 w R3 T
  clear S k6 st A R1 R2 R3
  rcases O with ⟨hle, e9⟩ | ⟨hle, e9⟩ <;> subst e9
  · go_enter Tryd.func9, Tryd.ntmps9
    go_upto_region 1 with fail
    generalize w.alloc (.cells #[.string c.nm, .int .i64 c.k, .int .i64 c.d, .int .i64 c.m, .int .i64 c.s, .int .i64 c.sh, .int .i64 c.p0, .int .i64 c.p1, .int .i64 c.p2, .int .i64 c.cy, .int .i64 c.ex, .int .i64 c.fi, .int .i64 c.la, .int .i64 c.po] 24) = W0 at *
    obtain ⟨_, c0, c1, c2, c3, c4, c5, c6, c7, c8, c9, c10, c11, c12, c13⟩ := id C
    go_wp2_with fail
    refine (mlive_ok _ T).mono ?_
    rintro e w7 ⟨rfl, hb⟩
    replace C := C.kept hb
    replace B := bthen B hb
    replace T := T.kept hb
    clear hb c0 c1 c2 c3 c4 c5 c6 c7 c8 c9 c10 c11 c12 c13
    obtain ⟨_, c0, c1, c2, c3, c4, c5, c6, c7, c8, c9, c10, c11, c12, c13⟩ := id C
    go_wp2_with fail
    refine (ca _ T).mono ?_
    rintro e w8 ⟨rfl, hb⟩
    replace C := C.kept hb
    replace B := bthen B hb
    replace T := T.kept hb
    clear hb c0 c1 c2 c3 c4 c5 c6 c7 c8 c9 c10 c11 c12 c13 
    obtain ⟨_, c0, c1, c2, c3, c4, c5, c6, c7, c8, c9, c10, c11, c12, c13⟩ := id C
    go_wp2_with fail
    refine (q1 _ T.civ).mono ?_
    rintro e w9 ⟨rfl, hb⟩
    replace C := C.kept hb
    replace B := bthen B hb
    replace T := T.kept hb
    clear hb c0 c1 c2 c3 c4 c5 c6 c7 c8 c9 c10 c11 c12 c13 
    obtain ⟨_, c0, c1, c2, c3, c4, c5, c6, c7, c8, c9, c10, c11, c12, c13⟩ := id C
    have U := Go.Proofs.YtmagdlcikcgelaaDoor.Bx.Tri.new w9 (.int .i64 Y) (.int .i64 M) (.int .i64 x) 54
    replace C := C.alloc (.cells #[.int .i64 Y, .int .i64 M, .int .i64 x] 54)
    replace T := T.alloc (.cells #[.int .i64 Y, .int .i64 M, .int .i64 x] 54)
    replace B := balloc B (.cells #[.int .i64 Y, .int .i64 M, .int .i64 x] 54)
    clear c0 c1 c2 c3 c4 c5 c6 c7 c8 c9 c10 c11 c12 c13 
    obtain ⟨_, c0, c1, c2, c3, c4, c5, c6, c7, c8, c9, c10, c11, c12, c13⟩ := id C
    obtain ⟨_, u0, u1, u2, fu0, fu1, fu2⟩ := id U
    go_wp2_with fail
    refine (q2 _ T.civ).mono ?_
    rintro e w10 ⟨rfl, hb⟩
    replace C := C.kept hb
    replace B := bthen B hb
    replace T := T.kept hb
    replace U := U.kept hb
    clear hb c0 c1 c2 c3 c4 c5 c6 c7 c8 c9 c10 c11 c12 c13 u0 u1 u2 fu0 fu1 fu2
    obtain ⟨_, c0, c1, c2, c3, c4, c5, c6, c7, c8, c9, c10, c11, c12, c13⟩ := id C
    obtain ⟨_, u0, u1, u2, fu0, fu1, fu2⟩ := id U
    have V := Go.Proofs.YtmagdlcikcgelaaDoor.Bx.Tri.new w10 (.int .i64 (Y + k)) (.int .i64 M) (.int .i64 x) 54
    replace C := C.alloc (.cells #[.int .i64 (Y + k), .int .i64 M, .int .i64 x] 54)
    replace T := T.alloc (.cells #[.int .i64 (Y + k), .int .i64 M, .int .i64 x] 54)
    replace U := U.alloc (.cells #[.int .i64 (Y + k), .int .i64 M, .int .i64 x] 54)
    replace B := balloc B (.cells #[.int .i64 (Y + k), .int .i64 M, .int .i64 x] 54)
    clear c0 c1 c2 c3 c4 c5 c6 c7 c8 c9 c10 c11 c12 c13 u0 u1 u2 fu0 fu1 fu2
    obtain ⟨_, c0, c1, c2, c3, c4, c5, c6, c7, c8, c9, c10, c11, c12, c13⟩ := id C
    obtain ⟨_, u0, u1, u2, fu0, fu1, fu2⟩ := id U
    obtain ⟨_, v0, v1, v2, fv0, fv1, fv2⟩ := id V
    go_wp2_with fail
    refine (q3 _ T.civ).mono ?_
    rintro e w11 ⟨rfl, hb⟩
    replace C := C.kept hb
    replace B := bthen B hb
    replace T := T.kept hb
    replace U := U.kept hb
    replace V := V.kept hb
    clear hb c0 c1 c2 c3 c4 c5 c6 c7 c8 c9 c10 c11 c12 c13 u0 u1 u2 fu0 fu1 fu2 v0 v1 v2 fv0 fv1 fv2
    obtain ⟨_, c0, c1, c2, c3, c4, c5, c6, c7, c8, c9, c10, c11, c12, c13⟩ := id C
    obtain ⟨_, u0, u1, u2, fu0, fu1, fu2⟩ := id U
    obtain ⟨_, v0, v1, v2, fv0, fv1, fv2⟩ := id V
    go_wp2
    go_ret
    exact ⟨by simp <;> omega, B⟩
  · go_enter Tryd.func9, Tryd.ntmps9
    go_upto_region 1 with fail
    generalize w.alloc (.cells #[.string c.nm, .int .i64 c.k, .int .i64 c.d, .int .i64 c.m, .int .i64 c.s, .int .i64 c.sh, .int .i64 c.p0, .int .i64 c.p1, .int .i64 c.p2, .int .i64 c.cy, .int .i64 c.ex, .int .i64 c.fi, .int .i64 c.la, .int .i64 c.po] 24) = W0 at *
    obtain ⟨_, c0, c1, c2, c3, c4, c5, c6, c7, c8, c9, c10, c11, c12, c13⟩ := id C
    go_wp2_with fail
    refine (mlive_ok _ T).mono ?_
    rintro e w12 ⟨rfl, hb⟩
    replace C := C.kept hb
    replace B := bthen B hb
    replace T := T.kept hb
    clear hb c0 c1 c2 c3 c4 c5 c6 c7 c8 c9 c10 c11 c12 c13
    obtain ⟨_, c0, c1, c2, c3, c4, c5, c6, c7, c8, c9, c10, c11, c12, c13⟩ := id C
    go_wp2_with fail
    refine (ca _ T).mono ?_
    rintro e w13 ⟨rfl, hb⟩
    replace C := C.kept hb
    replace B := bthen B hb
    replace T := T.kept hb
    clear hb c0 c1 c2 c3 c4 c5 c6 c7 c8 c9 c10 c11 c12 c13 
    obtain ⟨_, c0, c1, c2, c3, c4, c5, c6, c7, c8, c9, c10, c11, c12, c13⟩ := id C
    go_wp2_with fail
    refine (q1 _ T.civ).mono ?_
    rintro e w14 ⟨rfl, hb⟩
    replace C := C.kept hb
    replace B := bthen B hb
    replace T := T.kept hb
    clear hb c0 c1 c2 c3 c4 c5 c6 c7 c8 c9 c10 c11 c12 c13 
    obtain ⟨_, c0, c1, c2, c3, c4, c5, c6, c7, c8, c9, c10, c11, c12, c13⟩ := id C
    have U := Go.Proofs.YtmagdlcikcgelaaDoor.Bx.Tri.new w14 (.int .i64 Y) (.int .i64 M) (.int .i64 D) 54
    replace C := C.alloc (.cells #[.int .i64 Y, .int .i64 M, .int .i64 D] 54)
    replace T := T.alloc (.cells #[.int .i64 Y, .int .i64 M, .int .i64 D] 54)
    replace B := balloc B (.cells #[.int .i64 Y, .int .i64 M, .int .i64 D] 54)
    clear c0 c1 c2 c3 c4 c5 c6 c7 c8 c9 c10 c11 c12 c13 
    obtain ⟨_, c0, c1, c2, c3, c4, c5, c6, c7, c8, c9, c10, c11, c12, c13⟩ := id C
    obtain ⟨_, u0, u1, u2, fu0, fu1, fu2⟩ := id U
    go_wp2_with fail
    refine (q2 _ T.civ).mono ?_
    rintro e w15 ⟨rfl, hb⟩
    replace C := C.kept hb
    replace B := bthen B hb
    replace T := T.kept hb
    replace U := U.kept hb
    clear hb c0 c1 c2 c3 c4 c5 c6 c7 c8 c9 c10 c11 c12 c13 u0 u1 u2 fu0 fu1 fu2
    obtain ⟨_, c0, c1, c2, c3, c4, c5, c6, c7, c8, c9, c10, c11, c12, c13⟩ := id C
    obtain ⟨_, u0, u1, u2, fu0, fu1, fu2⟩ := id U
    have V := Go.Proofs.YtmagdlcikcgelaaDoor.Bx.Tri.new w15 (.int .i64 (Y + k)) (.int .i64 M) (.int .i64 x) 54
    replace C := C.alloc (.cells #[.int .i64 (Y + k), .int .i64 M, .int .i64 x] 54)
    replace T := T.alloc (.cells #[.int .i64 (Y + k), .int .i64 M, .int .i64 x] 54)
    replace U := U.alloc (.cells #[.int .i64 (Y + k), .int .i64 M, .int .i64 x] 54)
    replace B := balloc B (.cells #[.int .i64 (Y + k), .int .i64 M, .int .i64 x] 54)
    clear c0 c1 c2 c3 c4 c5 c6 c7 c8 c9 c10 c11 c12 c13 u0 u1 u2 fu0 fu1 fu2
    obtain ⟨_, c0, c1, c2, c3, c4, c5, c6, c7, c8, c9, c10, c11, c12, c13⟩ := id C
    obtain ⟨_, u0, u1, u2, fu0, fu1, fu2⟩ := id U
    obtain ⟨_, v0, v1, v2, fv0, fv1, fv2⟩ := id V
    go_wp2_with fail
    refine (q3 _ T.civ).mono ?_
    rintro e w16 ⟨rfl, hb⟩
    replace C := C.kept hb
    replace B := bthen B hb
    replace T := T.kept hb
    replace U := U.kept hb
    replace V := V.kept hb
    clear hb c0 c1 c2 c3 c4 c5 c6 c7 c8 c9 c10 c11 c12 c13 u0 u1 u2 fu0 fu1 fu2 v0 v1 v2 fv0 fv1 fv2
    obtain ⟨_, c0, c1, c2, c3, c4, c5, c6, c7, c8, c9, c10, c11, c12, c13⟩ := id C
    obtain ⟨_, u0, u1, u2, fu0, fu1, fu2⟩ := id U
    obtain ⟨_, v0, v1, v2, fv0, fv1, fv2⟩ := id V
    go_wp2
    go_ret
    exact ⟨by simp <;> omega, B⟩

end Go.Proofs.YtmagdlcikcgelaaDoor.Ml
