/- CompEnds' walk. -/
import Derived.Test.YtmagdlcikcgelaaDoorMlive
import Derived.Test.YtmagdlcikcgelaaDoorMlaw3
namespace Go.Proofs.YtmagdlcikcgelaaDoor.Ml
set_option linter.unusedSimpArgs false
set_option linter.unusedVariables false
open Go.RowKit Go.Proofs.YtmagdlcikcgelaaDoor.Bn Go.Proofs.YtmagdlcikcgelaaDoor.Bx Go.Proofs.YtmagdlcikcgelaaDoor.Cp Go.Proofs.YtmagdlcikcgelaaDoor.Am Go.Proofs.YtmagdlcikcgelaaDoor.Fp Go.Proofs.YtmagdlcikcgelaaDoor.Ap Go.Proofs.YtmagdlcikcgelaaDoor.Cm Go.Proofs.YtmagdlcikcgelaaDoor.Em Go.Proofs.YtmagdlcikcgelaaDoor.Ep Go.Proofs.YtmagdlcikcgelaaDoor.Rk Go.Proofs.YtmagdlcikcgelaaDoor.Hp Go.Proofs.YtmagdlcikcgelaaDoor.Ip Go.Proofs.YtmagdlcikcgelaaDoor.Jp Go.Proofs.YtmagdlcikcgelaaDoor.Dp Go.Proofs.YtmagdlcikcgelaaDoor.Mp

set_option maxHeartbeats 16000000

set_option maxRecDepth 100000 in
theorem ends_far (c : CalZ) (y t n : Int) (w : World) (wf : CalWf c) (T : FTab w) (hm : c.nm.size ≤ maxLen) (dl : decide ((100 : Int) < (c.nm.size : Int)) = false) (k6 : c.k ≠ 6) (h : y < c.fi ∨ c.la < y ∨ t < c.fi ∨ c.la < t) :
    Calls Tryd.prog 13 #[.agg #[.string c.nm, .int .i64 c.k, .int .i64 c.d, .int .i64 c.m, .int .i64 c.s, .int .i64 c.sh, .int .i64 c.p0, .int .i64 c.p1, .int .i64 c.p2, .int .i64 c.cy, .int .i64 c.ex, .int .i64 c.fi, .int .i64 c.la, .int .i64 c.po], .int .i64 y, .int .i64 t, .int .i64 n] w fun e w' => e = .returned (.bool true) ∧ Below w.heap.size w w' := by
  have C := CalIn.new w c 24
  have B := balloc (Below.refl _ w) (.cells #[.string c.nm, .int .i64 c.k, .int .i64 c.d, .int .i64 c.m, .int .i64 c.s, .int .i64 c.sh, .int .i64 c.p0, .int .i64 c.p1, .int .i64 c.p2, .int .i64 c.cy, .int .i64 c.ex, .int .i64 c.fi, .int .i64 c.la, .int .i64 c.po] 24)
  replace T := T.alloc (.cells #[.string c.nm, .int .i64 c.k, .int .i64 c.d, .int .i64 c.m, .int .i64 c.s, .int .i64 c.sh, .int .i64 c.p0, .int .i64 c.p1, .int .i64 c.p2, .int .i64 c.cy, .int .i64 c.ex, .int .i64 c.fi, .int .i64 c.la, .int .i64 c.po] 24)
  have d6 : (c.k == 6) = false := beq_eq_false_iff_ne.2 k6
  have O : decide (y < c.fi) = true ∨ (decide (y < c.fi) = false ∧ decide (c.la < y) = true) ∨ (decide (y < c.fi) = false ∧ decide (c.la < y) = false ∧ decide (t < c.fi) = true) ∨ (decide (y < c.fi) = false ∧ decide (c.la < y) = false ∧ decide (t < c.fi) = false ∧ decide (c.la < t) = true) := by
    by_cases h1 : y < c.fi
    · exact .inl (decide_eq_true h1)
    · by_cases h2 : c.la < y
      · exact .inr (.inl ⟨decide_eq_false h1, decide_eq_true h2⟩)
      · by_cases h3 : t < c.fi
        · exact .inr (.inr (.inl ⟨decide_eq_false h1, decide_eq_false h2, decide_eq_true h3⟩))
        · exact .inr (.inr (.inr ⟨decide_eq_false h1, decide_eq_false h2, decide_eq_false h3, decide_eq_true (by omega)⟩))
  clear h k6
  rcases O with h1 | ⟨h1, h2⟩ | ⟨h1, h2, h3⟩ | ⟨h1, h2, h3, h4⟩
  all_goals
    go_enter Tryd.func13, Tryd.ntmps13
    go_upto_region 1 with fail
    generalize w.alloc (.cells #[.string c.nm, .int .i64 c.k, .int .i64 c.d, .int .i64 c.m, .int .i64 c.s, .int .i64 c.sh, .int .i64 c.p0, .int .i64 c.p1, .int .i64 c.p2, .int .i64 c.cy, .int .i64 c.ex, .int .i64 c.fi, .int .i64 c.la, .int .i64 c.po] 24) = W0 at *
    obtain ⟨_, c0, c1, c2, c3, c4, c5, c6, c7, c8, c9, c10, c11, c12, c13⟩ := id C
    go_wp2_with fail
    refine (mlive_ok _ T).mono ?_
    rintro e w1 ⟨rfl, hb⟩
    replace C := C.kept hb
    replace B := bthen B hb
    replace T := T.kept hb
    clear hb c0 c1 c2 c3 c4 c5 c6 c7 c8 c9 c10 c11 c12 c13
    obtain ⟨_, c0, c1, c2, c3, c4, c5, c6, c7, c8, c9, c10, c11, c12, c13⟩ := id C
    go_wp2
    go_ret
    exact ⟨by simp <;> omega, B⟩

set_option maxRecDepth 100000 in
theorem ends_no (c : CalZ) (y t n : Int) (w : World) (wf : CalWf c) (T : FTab w) (hm : c.nm.size ≤ maxLen) (dl : decide ((100 : Int) < (c.nm.size : Int)) = false) (k6 : c.k ≠ 6) (no : ¬ CalOk c) (sy : Served c y) (st : Served c t) :
    Calls Tryd.prog 13 #[.agg #[.string c.nm, .int .i64 c.k, .int .i64 c.d, .int .i64 c.m, .int .i64 c.s, .int .i64 c.sh, .int .i64 c.p0, .int .i64 c.p1, .int .i64 c.p2, .int .i64 c.cy, .int .i64 c.ex, .int .i64 c.fi, .int .i64 c.la, .int .i64 c.po], .int .i64 y, .int .i64 t, .int .i64 n] w fun e w' => e = .returned (.bool true) ∧ Below w.heap.size w w' := by
  have C := CalIn.new w c 24
  have B := balloc (Below.refl _ w) (.cells #[.string c.nm, .int .i64 c.k, .int .i64 c.d, .int .i64 c.m, .int .i64 c.s, .int .i64 c.sh, .int .i64 c.p0, .int .i64 c.p1, .int .i64 c.p2, .int .i64 c.cy, .int .i64 c.ex, .int .i64 c.fi, .int .i64 c.la, .int .i64 c.po] 24)
  replace T := T.alloc (.cells #[.string c.nm, .int .i64 c.k, .int .i64 c.d, .int .i64 c.m, .int .i64 c.s, .int .i64 c.sh, .int .i64 c.p0, .int .i64 c.p1, .int .i64 c.p2, .int .i64 c.cy, .int .i64 c.ex, .int .i64 c.fi, .int .i64 c.la, .int .i64 c.po] 24)
  have d6 : (c.k == 6) = false := beq_eq_false_iff_ne.2 k6
  have q1 := fun w T => Start_any c y 0 1 w (.inr (.inr ⟨no, rfl, rfl⟩)) hm T
  have q2 := fun w T => End_any c y 0 1 w (.inr (.inr ⟨no, rfl, rfl⟩)) hm T
  have q3 := fun w T => Start_any c t 0 1 w (.inr (.inr ⟨no, rfl, rfl⟩)) hm T
  have q4 := fun w T => End_any c t 0 1 w (.inr (.inr ⟨no, rfl, rfl⟩)) hm T
  have g1 : decide (y < c.fi) = false := decide_eq_false (by have := sy.1; omega)
  have g2 : decide (c.la < y) = false := decide_eq_false (by have := sy.2; omega)
  have g3 : decide (t < c.fi) = false := decide_eq_false (by have := st.1; omega)
  have g4 : decide (c.la < t) = false := decide_eq_false (by have := st.2; omega)
  clear no sy st k6
  go_enter Tryd.func13, Tryd.ntmps13
  go_upto_region 1 with fail
  generalize w.alloc (.cells #[.string c.nm, .int .i64 c.k, .int .i64 c.d, .int .i64 c.m, .int .i64 c.s, .int .i64 c.sh, .int .i64 c.p0, .int .i64 c.p1, .int .i64 c.p2, .int .i64 c.cy, .int .i64 c.ex, .int .i64 c.fi, .int .i64 c.la, .int .i64 c.po] 24) = W0 at *
  obtain ⟨_, c0, c1, c2, c3, c4, c5, c6, c7, c8, c9, c10, c11, c12, c13⟩ := id C
  go_wp2_with fail
  refine (mlive_ok _ T).mono ?_
  rintro e w1 ⟨rfl, hb⟩
  replace C := C.kept hb
  replace B := bthen B hb
  replace T := T.kept hb
  clear hb c0 c1 c2 c3 c4 c5 c6 c7 c8 c9 c10 c11 c12 c13
  obtain ⟨_, c0, c1, c2, c3, c4, c5, c6, c7, c8, c9, c10, c11, c12, c13⟩ := id C
  go_wp2_with fail
  refine (q1 _ T).mono ?_
  rintro e w2 ⟨rfl, hb⟩
  replace C := C.kept hb
  replace B := bthen B hb
  replace T := T.kept hb
  clear hb c0 c1 c2 c3 c4 c5 c6 c7 c8 c9 c10 c11 c12 c13
  obtain ⟨_, c0, c1, c2, c3, c4, c5, c6, c7, c8, c9, c10, c11, c12, c13⟩ := id C
  go_wp2_with fail
  refine (q2 _ T).mono ?_
  rintro e w3 ⟨rfl, hb⟩
  replace C := C.kept hb
  replace B := bthen B hb
  replace T := T.kept hb
  clear hb c0 c1 c2 c3 c4 c5 c6 c7 c8 c9 c10 c11 c12 c13
  obtain ⟨_, c0, c1, c2, c3, c4, c5, c6, c7, c8, c9, c10, c11, c12, c13⟩ := id C
  go_wp2_with fail
  refine (q3 _ T).mono ?_
  rintro e w4 ⟨rfl, hb⟩
  replace C := C.kept hb
  replace B := bthen B hb
  replace T := T.kept hb
  clear hb c0 c1 c2 c3 c4 c5 c6 c7 c8 c9 c10 c11 c12 c13
  obtain ⟨_, c0, c1, c2, c3, c4, c5, c6, c7, c8, c9, c10, c11, c12, c13⟩ := id C
  go_wp2_with fail
  refine (q4 _ T).mono ?_
  rintro e w5 ⟨rfl, hb⟩
  replace C := C.kept hb
  replace B := bthen B hb
  replace T := T.kept hb
  clear hb c0 c1 c2 c3 c4 c5 c6 c7 c8 c9 c10 c11 c12 c13
  obtain ⟨_, c0, c1, c2, c3, c4, c5, c6, c7, c8, c9, c10, c11, c12, c13⟩ := id C
  go_wp2
  go_ret
  exact ⟨by simp <;> omega, B⟩

set_option maxRecDepth 100000 in
theorem ends_12 (c : CalZ) (y t n : Int) (w : World) (wf : CalWf c) (T : FTab w) (hm : c.nm.size ≤ maxLen) (dl : decide ((100 : Int) < (c.nm.size : Int)) = false) (k6 : c.k ≠ 6) (ok : CalOk c) (sy : Served c y) (st : Served c t) (po : c.po = 1 ∨ c.po = 2) :
    Calls Tryd.prog 13 #[.agg #[.string c.nm, .int .i64 c.k, .int .i64 c.d, .int .i64 c.m, .int .i64 c.s, .int .i64 c.sh, .int .i64 c.p0, .int .i64 c.p1, .int .i64 c.p2, .int .i64 c.cy, .int .i64 c.ex, .int .i64 c.fi, .int .i64 c.la, .int .i64 c.po], .int .i64 y, .int .i64 t, .int .i64 n] w fun e w' => e = .returned (.bool true) ∧ Below w.heap.size w w' := by
  have C := CalIn.new w c 24
  have B := balloc (Below.refl _ w) (.cells #[.string c.nm, .int .i64 c.k, .int .i64 c.d, .int .i64 c.m, .int .i64 c.s, .int .i64 c.sh, .int .i64 c.p0, .int .i64 c.p1, .int .i64 c.p2, .int .i64 c.cy, .int .i64 c.ex, .int .i64 c.fi, .int .i64 c.la, .int .i64 c.po] 24)
  replace T := T.alloc (.cells #[.string c.nm, .int .i64 c.k, .int .i64 c.d, .int .i64 c.m, .int .i64 c.s, .int .i64 c.sh, .int .i64 c.p0, .int .i64 c.p1, .int .i64 c.p2, .int .i64 c.cy, .int .i64 c.ex, .int .i64 c.fi, .int .i64 c.la, .int .i64 c.po] 24)
  have d6 : (c.k == 6) = false := beq_eq_false_iff_ne.2 k6
  have ty := served_told ok sy
  have tt := served_told ok st
  obtain ⟨a, ha⟩ : ∃ a, a = yend c (y - 1) + 1 := ⟨_, rfl⟩
  obtain ⟨b, hb'⟩ : ∃ b, b = yend c y := ⟨_, rfl⟩
  obtain ⟨s, hs⟩ : ∃ s, s = yend c (t - 1) + 1 := ⟨_, rfl⟩
  obtain ⟨z, hz⟩ : ∃ z, z = yend c t := ⟨_, rfl⟩
  have q1 := fun w T => Start_any c y a 0 w (.inl ⟨ok, by omega, by omega, ha, rfl⟩) hm T
  have q2 := fun w T => End_any c y b 0 w (.inl ⟨ok, by omega, by omega, hb', rfl⟩) hm T
  have q3 := fun w T => Start_any c t s 0 w (.inl ⟨ok, by omega, by omega, hs, rfl⟩) hm T
  have q4 := fun w T => End_any c t z 0 w (.inl ⟨ok, by omega, by omega, hz, rfl⟩) hm T
  have yb := yend_bd ok.1 (y := y - 1) (by omega) (by omega)
  have yb2 := yend_bd ok.1 (y := y) (by omega) (by omega)
  have ys := yend_step ok.1 (y := y - 1) (by omega) (by omega)
  rw [show y - 1 + 1 = y by omega] at ys
  have wk : (Lit.int .i64 (t - y)).wf = true := WalkArith.wf_i64 ⟨by omega, by omega⟩
  have ek : y + (t - y) = t := by omega
  have n3 := (nweeks_01 ok.1 k6 (y := y) (by omega) (by omega))
  have m3 := (nweeks_01 ok.1 k6 (y := t) (by omega) (by omega))
  have SA : ServedA c a y 0 := served_of ok sy (by omega) (by omega)
  have SB : ServedA c b y 0 := served_of ok sy (by omega) (by omega)
  have g1 : decide (y < c.fi) = false := decide_eq_false (by have := sy.1; omega)
  have g2 : decide (c.la < y) = false := decide_eq_false (by have := sy.2; omega)
  have g3 : decide (t < c.fi) = false := decide_eq_false (by have := st.1; omega)
  have g4 : decide (c.la < t) = false := decide_eq_false (by have := st.2; omega)
  obtain ⟨v1, e1, A1⟩ := cday_ex c a (t - y)
  obtain ⟨v2, e2, A2⟩ := cday_ex c b (t - y)
  have F1 : c.po = 1 → CDayA c a (t - y) s 0 := fun p => by
    rcases cday_for (t - y) SA k6 with ⟨ns, _⟩ | ⟨_, i, u, v, er, i0, i1, i2, i3, P, A, E⟩
    · exact absurd st (by rwa [ek] at ns)
    · rw [ek] at P E
      rcases P with ⟨_, h, h0⟩ | ⟨q, _⟩ | ⟨q, _⟩
      · rcases E with ⟨e9, hv⟩ | ⟨e9, _⟩
        · subst e9
          rwa [show v = s by omega] at A
        · omega
      · omega
      · omega
  have F2 : c.po = 2 → CDayA c b (t - y) z 0 := fun p => by
    rcases cday_for (t - y) SB k6 with ⟨ns, _⟩ | ⟨_, i, u, v, er, i0, i1, i2, i3, P, A, E⟩
    · exact absurd st (by rwa [ek] at ns)
    · rw [ek] at P E
      rcases P with ⟨q, _⟩ | ⟨_, h, h0⟩ | ⟨q, _⟩
      · omega
      · rcases E with ⟨e9, hv⟩ | ⟨e9, _⟩
        · subst e9
          rwa [show v = z by omega] at A
        · omega
      · omega
  obtain ⟨ty0, ty1⟩ := ty
  obtain ⟨tt0, tt1⟩ := tt
  have bds : 0 ≤ a ∧ a ≤ 3068037 ∧ 0 ≤ b ∧ b ≤ 3068036 := by omega
  obtain ⟨ba0, ba1, bb0, bb1⟩ := bds
  rcases po with p | p
  · have qa := fun w T => CDay_any c a (t - y) s 0 w (F1 p) wk hm T
    have qb := fun w T => CDay_any c b (t - y) v2 e2 w A2 wk hm T
    have p1 : (c.po == 1) = true := by rw [p]; rfl
    clear F1 F2 A1 A2 p ok k6 sy st ha hb' hs hz yb yb2 ys n3 m3 SA SB
    go_enter Tryd.func13, Tryd.ntmps13
    go_upto_region 1 with fail
    generalize w.alloc (.cells #[.string c.nm, .int .i64 c.k, .int .i64 c.d, .int .i64 c.m, .int .i64 c.s, .int .i64 c.sh, .int .i64 c.p0, .int .i64 c.p1, .int .i64 c.p2, .int .i64 c.cy, .int .i64 c.ex, .int .i64 c.fi, .int .i64 c.la, .int .i64 c.po] 24) = W0 at *
    obtain ⟨_, c0, c1, c2, c3, c4, c5, c6, c7, c8, c9, c10, c11, c12, c13⟩ := id C
    go_wp2_with fail
    refine (mlive_ok _ T).mono ?_
    rintro e w1 ⟨rfl, hb⟩
    replace C := C.kept hb
    replace B := bthen B hb
    replace T := T.kept hb
    clear hb c0 c1 c2 c3 c4 c5 c6 c7 c8 c9 c10 c11 c12 c13
    obtain ⟨_, c0, c1, c2, c3, c4, c5, c6, c7, c8, c9, c10, c11, c12, c13⟩ := id C
    go_wp2_with fail
    refine (q1 _ T).mono ?_
    rintro e w2 ⟨rfl, hb⟩
    replace C := C.kept hb
    replace B := bthen B hb
    replace T := T.kept hb
    clear hb c0 c1 c2 c3 c4 c5 c6 c7 c8 c9 c10 c11 c12 c13 
    obtain ⟨_, c0, c1, c2, c3, c4, c5, c6, c7, c8, c9, c10, c11, c12, c13⟩ := id C
    go_wp2_with fail
    refine (q2 _ T).mono ?_
    rintro e w3 ⟨rfl, hb⟩
    replace C := C.kept hb
    replace B := bthen B hb
    replace T := T.kept hb
    clear hb c0 c1 c2 c3 c4 c5 c6 c7 c8 c9 c10 c11 c12 c13 
    obtain ⟨_, c0, c1, c2, c3, c4, c5, c6, c7, c8, c9, c10, c11, c12, c13⟩ := id C
    go_wp2_with fail
    refine (q3 _ T).mono ?_
    rintro e w4 ⟨rfl, hb⟩
    replace C := C.kept hb
    replace B := bthen B hb
    replace T := T.kept hb
    clear hb c0 c1 c2 c3 c4 c5 c6 c7 c8 c9 c10 c11 c12 c13 
    obtain ⟨_, c0, c1, c2, c3, c4, c5, c6, c7, c8, c9, c10, c11, c12, c13⟩ := id C
    go_wp2_with fail
    refine (q4 _ T).mono ?_
    rintro e w5 ⟨rfl, hb⟩
    replace C := C.kept hb
    replace B := bthen B hb
    replace T := T.kept hb
    clear hb c0 c1 c2 c3 c4 c5 c6 c7 c8 c9 c10 c11 c12 c13 
    obtain ⟨_, c0, c1, c2, c3, c4, c5, c6, c7, c8, c9, c10, c11, c12, c13⟩ := id C
    go_wp2_with fail
    refine (qa _ T).mono ?_
    rintro e w6 ⟨rfl, hb⟩
    replace C := C.kept hb
    replace B := bthen B hb
    replace T := T.kept hb
    clear hb c0 c1 c2 c3 c4 c5 c6 c7 c8 c9 c10 c11 c12 c13 
    obtain ⟨_, c0, c1, c2, c3, c4, c5, c6, c7, c8, c9, c10, c11, c12, c13⟩ := id C
    go_wp2_with fail
    refine (qb _ T).mono ?_
    rintro e w7 ⟨rfl, hb⟩
    replace C := C.kept hb
    replace B := bthen B hb
    replace T := T.kept hb
    clear hb c0 c1 c2 c3 c4 c5 c6 c7 c8 c9 c10 c11 c12 c13 
    obtain ⟨_, c0, c1, c2, c3, c4, c5, c6, c7, c8, c9, c10, c11, c12, c13⟩ := id C
    go_wp2
    go_ret
    exact ⟨by simp <;> omega, B⟩
  · have qa := fun w T => CDay_any c a (t - y) v1 e1 w A1 wk hm T
    have qb := fun w T => CDay_any c b (t - y) z 0 w (F2 p) wk hm T
    have p1 : (c.po == 1) = false := by rw [p]; rfl
    have p2 : (c.po == 2) = true := by rw [p]; rfl
    clear F1 F2 A1 A2 p ok k6 sy st ha hb' hs hz yb yb2 ys n3 m3 SA SB
    go_enter Tryd.func13, Tryd.ntmps13
    go_upto_region 1 with fail
    generalize w.alloc (.cells #[.string c.nm, .int .i64 c.k, .int .i64 c.d, .int .i64 c.m, .int .i64 c.s, .int .i64 c.sh, .int .i64 c.p0, .int .i64 c.p1, .int .i64 c.p2, .int .i64 c.cy, .int .i64 c.ex, .int .i64 c.fi, .int .i64 c.la, .int .i64 c.po] 24) = W0 at *
    obtain ⟨_, c0, c1, c2, c3, c4, c5, c6, c7, c8, c9, c10, c11, c12, c13⟩ := id C
    go_wp2_with fail
    refine (mlive_ok _ T).mono ?_
    rintro e w8 ⟨rfl, hb⟩
    replace C := C.kept hb
    replace B := bthen B hb
    replace T := T.kept hb
    clear hb c0 c1 c2 c3 c4 c5 c6 c7 c8 c9 c10 c11 c12 c13
    obtain ⟨_, c0, c1, c2, c3, c4, c5, c6, c7, c8, c9, c10, c11, c12, c13⟩ := id C
    go_wp2_with fail
    refine (q1 _ T).mono ?_
    rintro e w9 ⟨rfl, hb⟩
    replace C := C.kept hb
    replace B := bthen B hb
    replace T := T.kept hb
    clear hb c0 c1 c2 c3 c4 c5 c6 c7 c8 c9 c10 c11 c12 c13 
    obtain ⟨_, c0, c1, c2, c3, c4, c5, c6, c7, c8, c9, c10, c11, c12, c13⟩ := id C
    go_wp2_with fail
    refine (q2 _ T).mono ?_
    rintro e w10 ⟨rfl, hb⟩
    replace C := C.kept hb
    replace B := bthen B hb
    replace T := T.kept hb
    clear hb c0 c1 c2 c3 c4 c5 c6 c7 c8 c9 c10 c11 c12 c13 
    obtain ⟨_, c0, c1, c2, c3, c4, c5, c6, c7, c8, c9, c10, c11, c12, c13⟩ := id C
    go_wp2_with fail
    refine (q3 _ T).mono ?_
    rintro e w11 ⟨rfl, hb⟩
    replace C := C.kept hb
    replace B := bthen B hb
    replace T := T.kept hb
    clear hb c0 c1 c2 c3 c4 c5 c6 c7 c8 c9 c10 c11 c12 c13 
    obtain ⟨_, c0, c1, c2, c3, c4, c5, c6, c7, c8, c9, c10, c11, c12, c13⟩ := id C
    go_wp2_with fail
    refine (q4 _ T).mono ?_
    rintro e w12 ⟨rfl, hb⟩
    replace C := C.kept hb
    replace B := bthen B hb
    replace T := T.kept hb
    clear hb c0 c1 c2 c3 c4 c5 c6 c7 c8 c9 c10 c11 c12 c13 
    obtain ⟨_, c0, c1, c2, c3, c4, c5, c6, c7, c8, c9, c10, c11, c12, c13⟩ := id C
    go_wp2_with fail
    refine (qa _ T).mono ?_
    rintro e w13 ⟨rfl, hb⟩
    replace C := C.kept hb
    replace B := bthen B hb
    replace T := T.kept hb
    clear hb c0 c1 c2 c3 c4 c5 c6 c7 c8 c9 c10 c11 c12 c13 
    obtain ⟨_, c0, c1, c2, c3, c4, c5, c6, c7, c8, c9, c10, c11, c12, c13⟩ := id C
    go_wp2_with fail
    refine (qb _ T).mono ?_
    rintro e w14 ⟨rfl, hb⟩
    replace C := C.kept hb
    replace B := bthen B hb
    replace T := T.kept hb
    clear hb c0 c1 c2 c3 c4 c5 c6 c7 c8 c9 c10 c11 c12 c13 
    obtain ⟨_, c0, c1, c2, c3, c4, c5, c6, c7, c8, c9, c10, c11, c12, c13⟩ := id C
    go_wp2
    go_ret
    exact ⟨by simp <;> omega, B⟩

set_option maxRecDepth 100000 in
theorem ends_3 (c : CalZ) (y t n : Int) (w : World) (wf : CalWf c) (T : FTab w) (hm : c.nm.size ≤ maxLen) (dl : decide ((100 : Int) < (c.nm.size : Int)) = false) (k6 : c.k ≠ 6) (ok : CalOk c) (sy : Served c y) (st : Served c t) (po : c.po = 3) :
    Calls Tryd.prog 13 #[.agg #[.string c.nm, .int .i64 c.k, .int .i64 c.d, .int .i64 c.m, .int .i64 c.s, .int .i64 c.sh, .int .i64 c.p0, .int .i64 c.p1, .int .i64 c.p2, .int .i64 c.cy, .int .i64 c.ex, .int .i64 c.fi, .int .i64 c.la, .int .i64 c.po], .int .i64 y, .int .i64 t, .int .i64 n] w fun e w' => e = .returned (.bool true) ∧ Below w.heap.size w w' := by
  have C := CalIn.new w c 24
  have B := balloc (Below.refl _ w) (.cells #[.string c.nm, .int .i64 c.k, .int .i64 c.d, .int .i64 c.m, .int .i64 c.s, .int .i64 c.sh, .int .i64 c.p0, .int .i64 c.p1, .int .i64 c.p2, .int .i64 c.cy, .int .i64 c.ex, .int .i64 c.fi, .int .i64 c.la, .int .i64 c.po] 24)
  replace T := T.alloc (.cells #[.string c.nm, .int .i64 c.k, .int .i64 c.d, .int .i64 c.m, .int .i64 c.s, .int .i64 c.sh, .int .i64 c.p0, .int .i64 c.p1, .int .i64 c.p2, .int .i64 c.cy, .int .i64 c.ex, .int .i64 c.fi, .int .i64 c.la, .int .i64 c.po] 24)
  have d6 : (c.k == 6) = false := beq_eq_false_iff_ne.2 k6
  have ty := served_told ok sy
  have tt := served_told ok st
  obtain ⟨a, ha⟩ : ∃ a, a = yend c (y - 1) + 1 := ⟨_, rfl⟩
  obtain ⟨b, hb'⟩ : ∃ b, b = yend c y := ⟨_, rfl⟩
  obtain ⟨s, hs⟩ : ∃ s, s = yend c (t - 1) + 1 := ⟨_, rfl⟩
  obtain ⟨z, hz⟩ : ∃ z, z = yend c t := ⟨_, rfl⟩
  have q1 := fun w T => Start_any c y a 0 w (.inl ⟨ok, by omega, by omega, ha, rfl⟩) hm T
  have q2 := fun w T => End_any c y b 0 w (.inl ⟨ok, by omega, by omega, hb', rfl⟩) hm T
  have q3 := fun w T => Start_any c t s 0 w (.inl ⟨ok, by omega, by omega, hs, rfl⟩) hm T
  have q4 := fun w T => End_any c t z 0 w (.inl ⟨ok, by omega, by omega, hz, rfl⟩) hm T
  have yb := yend_bd ok.1 (y := y - 1) (by omega) (by omega)
  have yb2 := yend_bd ok.1 (y := y) (by omega) (by omega)
  have ys := yend_step ok.1 (y := y - 1) (by omega) (by omega)
  rw [show y - 1 + 1 = y by omega] at ys
  have wk : (Lit.int .i64 (t - y)).wf = true := WalkArith.wf_i64 ⟨by omega, by omega⟩
  have ek : y + (t - y) = t := by omega
  have n3 := (nweeks_01 ok.1 k6 (y := y) (by omega) (by omega))
  have m3 := (nweeks_01 ok.1 k6 (y := t) (by omega) (by omega))
  have SA : ServedA c a y 0 := served_of ok sy (by omega) (by omega)
  have SB : ServedA c b y 0 := served_of ok sy (by omega) (by omega)
  have g1 : decide (y < c.fi) = false := decide_eq_false (by have := sy.1; omega)
  have g2 : decide (c.la < y) = false := decide_eq_false (by have := sy.2; omega)
  have g3 : decide (t < c.fi) = false := decide_eq_false (by have := st.1; omega)
  have g4 : decide (c.la < t) = false := decide_eq_false (by have := st.2; omega)
  obtain ⟨v1, e1, A1⟩ := cday_ex c a (t - y)
  obtain ⟨v2, e2, A2⟩ := cday_ex c b (t - y)
  have qa := fun w T => CDay_any c a (t - y) v1 e1 w A1 wk hm T
  have qb := fun w T => CDay_any c b (t - y) v2 e2 w A2 wk hm T
  have p1 : (c.po == 1) = false := by rw [po]; rfl
  have p2 : (c.po == 2) = false := by rw [po]; rfl
  have X : (decide (n < 0) = true) ∨ (decide (n < 0) = false ∧ decide (b - a < n) = true) ∨ (decide (n < 0) = false ∧ decide (b - a < n) = false ∧ 0 ≤ n ∧ n ≤ b - a ∧
      ((∀ w, FTab w → Calls Tryd.prog 29 #[.agg #[.string c.nm, .int .i64 c.k, .int .i64 c.d, .int .i64 c.m, .int .i64 c.s, .int .i64 c.sh, .int .i64 c.p0, .int .i64 c.p1, .int .i64 c.p2, .int .i64 c.cy, .int .i64 c.ex, .int .i64 c.fi, .int .i64 c.la, .int .i64 c.po], .int .i64 (a + n), .int .i64 (t - y)] w fun e w' => e = .returned (.tuple #[.int .i64 0, .int .i64 12]) ∧ Below w.heap.size w w') ∨
        ∃ v p p' P0 P1 Q0 Q1, 0 ≤ v ∧ v ≤ 3068036 ∧ 0 ≤ P0 ∧ P0 ≤ 3068037 ∧ 0 ≤ Q0 ∧ Q0 ≤ 3068037 ∧ (∀ w, FTab w → Calls Tryd.prog 29 #[.agg #[.string c.nm, .int .i64 c.k, .int .i64 c.d, .int .i64 c.m, .int .i64 c.s, .int .i64 c.sh, .int .i64 c.p0, .int .i64 c.p1, .int .i64 c.p2, .int .i64 c.cy, .int .i64 c.ex, .int .i64 c.fi, .int .i64 c.la, .int .i64 c.po], .int .i64 (a + n), .int .i64 (t - y)] w fun e w' => e = .returned (.tuple #[.int .i64 v, .int .i64 0]) ∧ Below w.heap.size w w') ∧
          (∀ w, FTab w → Calls Tryd.prog 15 #[.agg #[.string c.nm, .int .i64 c.k, .int .i64 c.d, .int .i64 c.m, .int .i64 c.s, .int .i64 c.sh, .int .i64 c.p0, .int .i64 c.p1, .int .i64 c.p2, .int .i64 c.cy, .int .i64 c.ex, .int .i64 c.fi, .int .i64 c.la, .int .i64 c.po], .int .i64 (a + n), .int .i64 4] w fun e w' => e = .returned (.tuple #[.agg #[.int .i64 4, .int .i64 y, .int .i64 p], .int .i64 0]) ∧ Below w.heap.size w w') ∧
          (∀ w, FTab w → Calls Tryd.prog 15 #[.agg #[.string c.nm, .int .i64 c.k, .int .i64 c.d, .int .i64 c.m, .int .i64 c.s, .int .i64 c.sh, .int .i64 c.p0, .int .i64 c.p1, .int .i64 c.p2, .int .i64 c.cy, .int .i64 c.ex, .int .i64 c.fi, .int .i64 c.la, .int .i64 c.po], .int .i64 v, .int .i64 4] w fun e w' => e = .returned (.tuple #[.agg #[.int .i64 4, .int .i64 t, .int .i64 p'], .int .i64 0]) ∧ Below w.heap.size w w') ∧
          (∀ w, FTab w → Calls Tryd.prog 16 #[.agg #[.string c.nm, .int .i64 c.k, .int .i64 c.d, .int .i64 c.m, .int .i64 c.s, .int .i64 c.sh, .int .i64 c.p0, .int .i64 c.p1, .int .i64 c.p2, .int .i64 c.cy, .int .i64 c.ex, .int .i64 c.fi, .int .i64 c.la, .int .i64 c.po], .agg #[.int .i64 4, .int .i64 y, .int .i64 p]] w fun e w' => e = .returned (.tuple #[.agg #[.int .i64 P0, .int .i64 P1], .int .i64 0]) ∧ Below w.heap.size w w') ∧
          (∀ w, FTab w → Calls Tryd.prog 16 #[.agg #[.string c.nm, .int .i64 c.k, .int .i64 c.d, .int .i64 c.m, .int .i64 c.s, .int .i64 c.sh, .int .i64 c.p0, .int .i64 c.p1, .int .i64 c.p2, .int .i64 c.cy, .int .i64 c.ex, .int .i64 c.fi, .int .i64 c.la, .int .i64 c.po], .agg #[.int .i64 4, .int .i64 t, .int .i64 p']] w fun e w' => e = .returned (.tuple #[.agg #[.int .i64 Q0, .int .i64 Q1], .int .i64 0]) ∧ Below w.heap.size w w') ∧
          ((c.sh == 4) = true ∨ ((c.sh == 4) = false ∧ (p == p') = true ∧ (a + n - P0 == v - Q0) = true)))) := by
    by_cases n0 : n < 0
    · exact .inl (decide_eq_true n0)
    by_cases n1 : b - a < n
    · exact .inr (.inl ⟨decide_eq_false n0, decide_eq_true n1⟩)
    refine .inr (.inr ⟨decide_eq_false n0, decide_eq_false n1, by omega, by omega, ?_⟩)
    have SN : ServedA c (a + n) y 0 := served_of ok sy (by omega) (by omega)
    rcases cday_for (t - y) SN k6 with ⟨ns, _⟩ | ⟨_, i, u, v, er, i0, i1, i2, i3, P, A, E⟩
    · exact absurd st (by rwa [ek] at ns)
    rw [ek] at P E
    rcases E with ⟨e9, hv⟩ | ⟨e9, hv⟩
    case inr =>
      subst e9 hv
      exact .inl (fun w T => CDay_any c (a + n) (t - y) 0 12 w A wk hm T)
    subst e9
    refine .inr ?_
    have U := pol_bd ok k6 (by omega) (by omega) (by omega) (by omega) i2 i3 P
    have tb := yend_bd ok.1 (y := t - 1) (by omega) (by omega)
    have tb2 := yend_bd ok.1 (y := t) (by omega) (by omega)
    have z1 := pend_zero c y
    have z2 := pend_last ok.1 (y := y) (by omega) (by omega)
    have z3 := pend_zero c t
    have z4 := pend_last ok.1 (y := t) (by omega) (by omega)
    have vr : yend c (t - 1) < v ∧ v ≤ yend c t := by omega
    obtain ⟨p, hp⟩ := inu_ex (y := y) (L := 4) (d := a + n) ok.1 (by omega) (by omega) ⟨by omega, by omega⟩ (by omega) (by omega)
    have lv : LevOk 4 := ⟨by omega, by omega⟩
    have go : ∀ p', InU c t 4 v p' → ((c.sh == 4) = true ∨ ((c.sh == 4) = false ∧ (p == p') = true ∧ (a + n - (uend c y 4 (p - 1) + 1) == v - (uend c t 4 (p' - 1) + 1)) = true)) →
        ∃ v p p' P0 P1 Q0 Q1, 0 ≤ v ∧ v ≤ 3068036 ∧ 0 ≤ P0 ∧ P0 ≤ 3068037 ∧ 0 ≤ Q0 ∧ Q0 ≤ 3068037 ∧ (∀ w, FTab w → Calls Tryd.prog 29 #[.agg #[.string c.nm, .int .i64 c.k, .int .i64 c.d, .int .i64 c.m, .int .i64 c.s, .int .i64 c.sh, .int .i64 c.p0, .int .i64 c.p1, .int .i64 c.p2, .int .i64 c.cy, .int .i64 c.ex, .int .i64 c.fi, .int .i64 c.la, .int .i64 c.po], .int .i64 (a + n), .int .i64 (t - y)] w fun e w' => e = .returned (.tuple #[.int .i64 v, .int .i64 0]) ∧ Below w.heap.size w w') ∧
          (∀ w, FTab w → Calls Tryd.prog 15 #[.agg #[.string c.nm, .int .i64 c.k, .int .i64 c.d, .int .i64 c.m, .int .i64 c.s, .int .i64 c.sh, .int .i64 c.p0, .int .i64 c.p1, .int .i64 c.p2, .int .i64 c.cy, .int .i64 c.ex, .int .i64 c.fi, .int .i64 c.la, .int .i64 c.po], .int .i64 (a + n), .int .i64 4] w fun e w' => e = .returned (.tuple #[.agg #[.int .i64 4, .int .i64 y, .int .i64 p], .int .i64 0]) ∧ Below w.heap.size w w') ∧
          (∀ w, FTab w → Calls Tryd.prog 15 #[.agg #[.string c.nm, .int .i64 c.k, .int .i64 c.d, .int .i64 c.m, .int .i64 c.s, .int .i64 c.sh, .int .i64 c.p0, .int .i64 c.p1, .int .i64 c.p2, .int .i64 c.cy, .int .i64 c.ex, .int .i64 c.fi, .int .i64 c.la, .int .i64 c.po], .int .i64 v, .int .i64 4] w fun e w' => e = .returned (.tuple #[.agg #[.int .i64 4, .int .i64 t, .int .i64 p'], .int .i64 0]) ∧ Below w.heap.size w w') ∧
          (∀ w, FTab w → Calls Tryd.prog 16 #[.agg #[.string c.nm, .int .i64 c.k, .int .i64 c.d, .int .i64 c.m, .int .i64 c.s, .int .i64 c.sh, .int .i64 c.p0, .int .i64 c.p1, .int .i64 c.p2, .int .i64 c.cy, .int .i64 c.ex, .int .i64 c.fi, .int .i64 c.la, .int .i64 c.po], .agg #[.int .i64 4, .int .i64 y, .int .i64 p]] w fun e w' => e = .returned (.tuple #[.agg #[.int .i64 P0, .int .i64 P1], .int .i64 0]) ∧ Below w.heap.size w w') ∧
          (∀ w, FTab w → Calls Tryd.prog 16 #[.agg #[.string c.nm, .int .i64 c.k, .int .i64 c.d, .int .i64 c.m, .int .i64 c.s, .int .i64 c.sh, .int .i64 c.p0, .int .i64 c.p1, .int .i64 c.p2, .int .i64 c.cy, .int .i64 c.ex, .int .i64 c.fi, .int .i64 c.la, .int .i64 c.po], .agg #[.int .i64 4, .int .i64 t, .int .i64 p']] w fun e w' => e = .returned (.tuple #[.agg #[.int .i64 Q0, .int .i64 Q1], .int .i64 0]) ∧ Below w.heap.size w w') ∧
          ((c.sh == 4) = true ∨ ((c.sh == 4) = false ∧ (p == p') = true ∧ (a + n - P0 == v - Q0) = true)) := fun p' hp' hz => by
      have u1 : UnitOk c 4 y p := ⟨ok, lv, sy, hp.1, hp.2.1⟩
      have u2 : UnitOk c 4 t p' := ⟨ok, lv, st, hp'.1, hp'.2.1⟩
      have b1 := uend_bd (y := y) (i := p - 1) ok.1 (by omega) (by omega) lv (by have := hp.1; omega) (by have := hp.2.1; omega)
      have b2 := uend_bd (y := t) (i := p' - 1) ok.1 (by omega) (by omega) lv (by have := hp'.1; omega) (by have := hp'.2.1; omega)
      exact ⟨v, p, p', uend c y 4 (p - 1) + 1, uend c y 4 p, uend c t 4 (p' - 1) + 1, uend c t 4 p', by omega, by omega, by omega, by omega, by omega, by omega, fun w T => CDay_any c (a + n) (t - y) v 0 w A wk hm T,
        fun w T => Day_any c (a + n) 4 4 y p 0 w (daya_of u1 hp.2.2.1 hp.2.2.2) hm T, fun w T => Day_any c v 4 4 t p' 0 w (daya_of u2 hp'.2.2.1 hp'.2.2.2) hm T,
        fun w T => Span_any c 4 y p _ _ 0 w (.inl ⟨u1, rfl, rfl, rfl⟩) hm T, fun w T => Span_any c 4 t p' _ _ 0 w (.inl ⟨u2, rfl, rfl, rfl⟩) hm T, hz⟩
    by_cases s4 : c.sh = 4
    · obtain ⟨p', hp'⟩ := inu_ex (y := t) (L := 4) (d := v) ok.1 (by omega) (by omega) lv (by omega) (by omega)
      exact go p' hp' (.inl (by rw [s4]; rfl))
    · have D : DropA i (addw c y) (addw c t) u 0 := by
        rcases P with ⟨q, _⟩ | ⟨q, _⟩ | ⟨_, D⟩
        · omega
        · omega
        · exact D
      have R := per_keeps ok k6 s4 sy st i0 i1 i2 i3 D hv hp
      exact go p R.1 (.inr ⟨beq_eq_false_iff_ne.2 s4, by simp, by rw [uend_4, uend_4, R.2]; simp⟩)
  obtain ⟨ty0, ty1⟩ := ty
  obtain ⟨tt0, tt1⟩ := tt
  have bds : 0 ≤ a ∧ a ≤ 3068037 ∧ 0 ≤ b ∧ b ≤ 3068036 := by omega
  obtain ⟨ba0, ba1, bb0, bb1⟩ := bds
  have X' := Lib.hid X
  clear X A1 A2 po ok k6 sy st ha hb' hs hz yb yb2 ys n3 m3 SA SB
  go_enter Tryd.func13, Tryd.ntmps13
  go_upto_region 1 with fail
  generalize w.alloc (.cells #[.string c.nm, .int .i64 c.k, .int .i64 c.d, .int .i64 c.m, .int .i64 c.s, .int .i64 c.sh, .int .i64 c.p0, .int .i64 c.p1, .int .i64 c.p2, .int .i64 c.cy, .int .i64 c.ex, .int .i64 c.fi, .int .i64 c.la, .int .i64 c.po] 24) = W0 at *
  obtain ⟨_, c0, c1, c2, c3, c4, c5, c6, c7, c8, c9, c10, c11, c12, c13⟩ := id C
  go_wp2_with fail
  refine (mlive_ok _ T).mono ?_
  rintro e w1 ⟨rfl, hb⟩
  replace C := C.kept hb
  replace B := bthen B hb
  replace T := T.kept hb
  clear hb c0 c1 c2 c3 c4 c5 c6 c7 c8 c9 c10 c11 c12 c13
  obtain ⟨_, c0, c1, c2, c3, c4, c5, c6, c7, c8, c9, c10, c11, c12, c13⟩ := id C
  go_wp2_with fail
  refine (q1 _ T).mono ?_
  rintro e w2 ⟨rfl, hb⟩
  replace C := C.kept hb
  replace B := bthen B hb
  replace T := T.kept hb
  clear hb c0 c1 c2 c3 c4 c5 c6 c7 c8 c9 c10 c11 c12 c13 
  obtain ⟨_, c0, c1, c2, c3, c4, c5, c6, c7, c8, c9, c10, c11, c12, c13⟩ := id C
  go_wp2_with fail
  refine (q2 _ T).mono ?_
  rintro e w3 ⟨rfl, hb⟩
  replace C := C.kept hb
  replace B := bthen B hb
  replace T := T.kept hb
  clear hb c0 c1 c2 c3 c4 c5 c6 c7 c8 c9 c10 c11 c12 c13 
  obtain ⟨_, c0, c1, c2, c3, c4, c5, c6, c7, c8, c9, c10, c11, c12, c13⟩ := id C
  go_wp2_with fail
  refine (q3 _ T).mono ?_
  rintro e w4 ⟨rfl, hb⟩
  replace C := C.kept hb
  replace B := bthen B hb
  replace T := T.kept hb
  clear hb c0 c1 c2 c3 c4 c5 c6 c7 c8 c9 c10 c11 c12 c13 
  obtain ⟨_, c0, c1, c2, c3, c4, c5, c6, c7, c8, c9, c10, c11, c12, c13⟩ := id C
  go_wp2_with fail
  refine (q4 _ T).mono ?_
  rintro e w5 ⟨rfl, hb⟩
  replace C := C.kept hb
  replace B := bthen B hb
  replace T := T.kept hb
  clear hb c0 c1 c2 c3 c4 c5 c6 c7 c8 c9 c10 c11 c12 c13 
  obtain ⟨_, c0, c1, c2, c3, c4, c5, c6, c7, c8, c9, c10, c11, c12, c13⟩ := id C
  go_wp2_with fail
  refine (qa _ T).mono ?_
  rintro e w6 ⟨rfl, hb⟩
  replace C := C.kept hb
  replace B := bthen B hb
  replace T := T.kept hb
  clear hb c0 c1 c2 c3 c4 c5 c6 c7 c8 c9 c10 c11 c12 c13 
  obtain ⟨_, c0, c1, c2, c3, c4, c5, c6, c7, c8, c9, c10, c11, c12, c13⟩ := id C
  go_wp2_with fail
  refine (qb _ T).mono ?_
  rintro e w7 ⟨rfl, hb⟩
  replace C := C.kept hb
  replace B := bthen B hb
  replace T := T.kept hb
  clear hb c0 c1 c2 c3 c4 c5 c6 c7 c8 c9 c10 c11 c12 c13 
  obtain ⟨_, c0, c1, c2, c3, c4, c5, c6, c7, c8, c9, c10, c11, c12, c13⟩ := id C
  rcases X'.out with h1 | ⟨h1, h2⟩ | ⟨h1, h2, n0, n1, cd | ⟨v, p, p', P0, P1, Q0, Q1, v0, v1, b0, b1, b2, b3, cd, f1, f2, s1, s2, O⟩⟩
  · go_wp2
    go_ret
    exact ⟨by simp <;> omega, B⟩
  · go_wp2
    go_ret
    exact ⟨by simp <;> omega, B⟩
  · go_wp2_with fail
    refine (cd _ T).mono ?_
    rintro e w8 ⟨rfl, hb⟩
    replace C := C.kept hb
    replace B := bthen B hb
    replace T := T.kept hb
    clear hb c0 c1 c2 c3 c4 c5 c6 c7 c8 c9 c10 c11 c12 c13 
    obtain ⟨_, c0, c1, c2, c3, c4, c5, c6, c7, c8, c9, c10, c11, c12, c13⟩ := id C
    go_wp2
    go_ret
    exact ⟨by simp <;> omega, B⟩
  · go_wp2_with fail
    refine (cd _ T).mono ?_
    rintro e w9 ⟨rfl, hb⟩
    replace C := C.kept hb
    replace B := bthen B hb
    replace T := T.kept hb
    clear hb c0 c1 c2 c3 c4 c5 c6 c7 c8 c9 c10 c11 c12 c13 
    obtain ⟨_, c0, c1, c2, c3, c4, c5, c6, c7, c8, c9, c10, c11, c12, c13⟩ := id C
    go_wp2_with fail
    refine (f1 _ T).mono ?_
    rintro e w10 ⟨rfl, hb⟩
    replace C := C.kept hb
    replace B := bthen B hb
    replace T := T.kept hb
    clear hb c0 c1 c2 c3 c4 c5 c6 c7 c8 c9 c10 c11 c12 c13 
    obtain ⟨_, c0, c1, c2, c3, c4, c5, c6, c7, c8, c9, c10, c11, c12, c13⟩ := id C
    have U := Go.Proofs.YtmagdlcikcgelaaDoor.Bx.Tri.new w10 (.int .i64 4) (.int .i64 y) (.int .i64 p) 26
    replace C := C.alloc (.cells #[.int .i64 4, .int .i64 y, .int .i64 p] 26)
    replace T := T.alloc (.cells #[.int .i64 4, .int .i64 y, .int .i64 p] 26)
    replace B := balloc B (.cells #[.int .i64 4, .int .i64 y, .int .i64 p] 26)
    clear c0 c1 c2 c3 c4 c5 c6 c7 c8 c9 c10 c11 c12 c13 
    obtain ⟨_, c0, c1, c2, c3, c4, c5, c6, c7, c8, c9, c10, c11, c12, c13⟩ := id C
    obtain ⟨_, u0, u1, u2, fu0, fu1, fu2⟩ := id U
    go_wp2_with fail
    refine (f2 _ T).mono ?_
    rintro e w11 ⟨rfl, hb⟩
    replace C := C.kept hb
    replace B := bthen B hb
    replace T := T.kept hb
    replace U := U.kept hb
    clear hb c0 c1 c2 c3 c4 c5 c6 c7 c8 c9 c10 c11 c12 c13 u0 u1 u2 fu0 fu1 fu2
    obtain ⟨_, c0, c1, c2, c3, c4, c5, c6, c7, c8, c9, c10, c11, c12, c13⟩ := id C
    obtain ⟨_, u0, u1, u2, fu0, fu1, fu2⟩ := id U
    have V := Go.Proofs.YtmagdlcikcgelaaDoor.Bx.Tri.new w11 (.int .i64 4) (.int .i64 t) (.int .i64 p') 26
    replace C := C.alloc (.cells #[.int .i64 4, .int .i64 t, .int .i64 p'] 26)
    replace T := T.alloc (.cells #[.int .i64 4, .int .i64 t, .int .i64 p'] 26)
    replace U := U.alloc (.cells #[.int .i64 4, .int .i64 t, .int .i64 p'] 26)
    replace B := balloc B (.cells #[.int .i64 4, .int .i64 t, .int .i64 p'] 26)
    clear c0 c1 c2 c3 c4 c5 c6 c7 c8 c9 c10 c11 c12 c13 u0 u1 u2 fu0 fu1 fu2
    obtain ⟨_, c0, c1, c2, c3, c4, c5, c6, c7, c8, c9, c10, c11, c12, c13⟩ := id C
    obtain ⟨_, u0, u1, u2, fu0, fu1, fu2⟩ := id U
    obtain ⟨_, x0, x1, x2, fx0, fx1, fx2⟩ := id V
    go_wp2_with fail
    refine (s1 _ T).mono ?_
    rintro e w12 ⟨rfl, hb⟩
    replace C := C.kept hb
    replace B := bthen B hb
    replace T := T.kept hb
    replace U := U.kept hb
    replace V := V.kept hb
    clear hb c0 c1 c2 c3 c4 c5 c6 c7 c8 c9 c10 c11 c12 c13 u0 u1 u2 fu0 fu1 fu2 x0 x1 x2 fx0 fx1 fx2
    obtain ⟨_, c0, c1, c2, c3, c4, c5, c6, c7, c8, c9, c10, c11, c12, c13⟩ := id C
    obtain ⟨_, u0, u1, u2, fu0, fu1, fu2⟩ := id U
    obtain ⟨_, x0, x1, x2, fx0, fx1, fx2⟩ := id V
    have K := Go.Proofs.YtmagdlcikcgelaaDoor.Pr.Two.new w12 (.int .i64 P0) (.int .i64 P1) 32
    replace C := C.alloc (.cells #[.int .i64 P0, .int .i64 P1] 32)
    replace T := T.alloc (.cells #[.int .i64 P0, .int .i64 P1] 32)
    replace U := U.alloc (.cells #[.int .i64 P0, .int .i64 P1] 32)
    replace V := V.alloc (.cells #[.int .i64 P0, .int .i64 P1] 32)
    replace B := balloc B (.cells #[.int .i64 P0, .int .i64 P1] 32)
    clear c0 c1 c2 c3 c4 c5 c6 c7 c8 c9 c10 c11 c12 c13 u0 u1 u2 fu0 fu1 fu2 x0 x1 x2 fx0 fx1 fx2
    obtain ⟨_, c0, c1, c2, c3, c4, c5, c6, c7, c8, c9, c10, c11, c12, c13⟩ := id C
    obtain ⟨_, u0, u1, u2, fu0, fu1, fu2⟩ := id U
    obtain ⟨_, x0, x1, x2, fx0, fx1, fx2⟩ := id V
    obtain ⟨_, k0, k1, fk0, fk1⟩ := id K
    go_wp2_with fail
    refine (s2 _ T).mono ?_
    rintro e w13 ⟨rfl, hb⟩
    replace C := C.kept hb
    replace B := bthen B hb
    replace T := T.kept hb
    replace U := U.kept hb
    replace V := V.kept hb
    replace K := K.kept hb
    clear hb c0 c1 c2 c3 c4 c5 c6 c7 c8 c9 c10 c11 c12 c13 u0 u1 u2 fu0 fu1 fu2 x0 x1 x2 fx0 fx1 fx2 k0 k1 fk0 fk1
    obtain ⟨_, c0, c1, c2, c3, c4, c5, c6, c7, c8, c9, c10, c11, c12, c13⟩ := id C
    obtain ⟨_, u0, u1, u2, fu0, fu1, fu2⟩ := id U
    obtain ⟨_, x0, x1, x2, fx0, fx1, fx2⟩ := id V
    obtain ⟨_, k0, k1, fk0, fk1⟩ := id K
    have H := Go.Proofs.YtmagdlcikcgelaaDoor.Pr.Two.new w13 (.int .i64 Q0) (.int .i64 Q1) 32
    replace C := C.alloc (.cells #[.int .i64 Q0, .int .i64 Q1] 32)
    replace T := T.alloc (.cells #[.int .i64 Q0, .int .i64 Q1] 32)
    replace U := U.alloc (.cells #[.int .i64 Q0, .int .i64 Q1] 32)
    replace V := V.alloc (.cells #[.int .i64 Q0, .int .i64 Q1] 32)
    replace K := K.alloc (.cells #[.int .i64 Q0, .int .i64 Q1] 32)
    replace B := balloc B (.cells #[.int .i64 Q0, .int .i64 Q1] 32)
    clear c0 c1 c2 c3 c4 c5 c6 c7 c8 c9 c10 c11 c12 c13 u0 u1 u2 fu0 fu1 fu2 x0 x1 x2 fx0 fx1 fx2 k0 k1 fk0 fk1
    obtain ⟨_, c0, c1, c2, c3, c4, c5, c6, c7, c8, c9, c10, c11, c12, c13⟩ := id C
    obtain ⟨_, u0, u1, u2, fu0, fu1, fu2⟩ := id U
    obtain ⟨_, x0, x1, x2, fx0, fx1, fx2⟩ := id V
    obtain ⟨_, k0, k1, fk0, fk1⟩ := id K
    obtain ⟨_, j0, j1, fj0, fj1⟩ := id H
    rcases O with s4 | ⟨s4, s5, s6⟩
    all_goals
      go_wp2
      go_ret
      exact ⟨by simp [*], B⟩

set_option maxRecDepth 100000 in
theorem ends_walk (c : CalZ) (y t n : Int) (w : World) (wf : CalWf c) (wy : (Lit.int .i64 y).wf = true) (wt : (Lit.int .i64 t).wf = true) (wn : (Lit.int .i64 n).wf = true) (tb : FTab w) :
    Calls Tryd.prog 13 #[.agg #[.string c.nm, .int .i64 c.k, .int .i64 c.d, .int .i64 c.m, .int .i64 c.s, .int .i64 c.sh, .int .i64 c.p0, .int .i64 c.p1, .int .i64 c.p2, .int .i64 c.cy, .int .i64 c.ex, .int .i64 c.fi, .int .i64 c.la, .int .i64 c.po], .int .i64 y, .int .i64 t, .int .i64 n] w fun e w' => e = .returned (.bool true) ∧ Below w.heap.size w w' := by
  have T := tb
  have C := CalIn.new w c 24
  have B := balloc (Below.refl _ w) (.cells #[.string c.nm, .int .i64 c.k, .int .i64 c.d, .int .i64 c.m, .int .i64 c.s, .int .i64 c.sh, .int .i64 c.p0, .int .i64 c.p1, .int .i64 c.p2, .int .i64 c.cy, .int .i64 c.ex, .int .i64 c.fi, .int .i64 c.la, .int .i64 c.po] 24)
  replace T := T.alloc (.cells #[.string c.nm, .int .i64 c.k, .int .i64 c.d, .int .i64 c.m, .int .i64 c.s, .int .i64 c.sh, .int .i64 c.p0, .int .i64 c.p1, .int .i64 c.p2, .int .i64 c.cy, .int .i64 c.ex, .int .i64 c.fi, .int .i64 c.la, .int .i64 c.po] 24)
  have hm := wf.1
  by_cases hl : 100 < c.nm.size
  · have dl : decide ((100 : Int) < (c.nm.size : Int)) = true := decide_eq_true (by omega)
    clear hl
    go_enter Tryd.func13, Tryd.ntmps13
    go_upto_region 1 with fail
    generalize w.alloc (.cells #[.string c.nm, .int .i64 c.k, .int .i64 c.d, .int .i64 c.m, .int .i64 c.s, .int .i64 c.sh, .int .i64 c.p0, .int .i64 c.p1, .int .i64 c.p2, .int .i64 c.cy, .int .i64 c.ex, .int .i64 c.fi, .int .i64 c.la, .int .i64 c.po] 24) = W0 at *
    obtain ⟨_, c0, c1, c2, c3, c4, c5, c6, c7, c8, c9, c10, c11, c12, c13⟩ := id C
    go_wp2_with fail
    refine (mlive_ok _ T).mono ?_
    rintro e w1 ⟨rfl, hb⟩
    replace C := C.kept hb
    replace B := bthen B hb
    replace T := T.kept hb
    clear hb c0 c1 c2 c3 c4 c5 c6 c7 c8 c9 c10 c11 c12 c13
    obtain ⟨_, c0, c1, c2, c3, c4, c5, c6, c7, c8, c9, c10, c11, c12, c13⟩ := id C
    go_wp2
    go_ret
    exact ⟨by simp <;> omega, B⟩
  have dl : decide ((100 : Int) < (c.nm.size : Int)) = false := decide_eq_false (by omega)
  clear hl
  by_cases k6 : c.k = 6
  · have d6 : (c.k == 6) = true := by rw [k6]; rfl
    clear k6
    go_enter Tryd.func13, Tryd.ntmps13
    go_upto_region 1 with fail
    generalize w.alloc (.cells #[.string c.nm, .int .i64 c.k, .int .i64 c.d, .int .i64 c.m, .int .i64 c.s, .int .i64 c.sh, .int .i64 c.p0, .int .i64 c.p1, .int .i64 c.p2, .int .i64 c.cy, .int .i64 c.ex, .int .i64 c.fi, .int .i64 c.la, .int .i64 c.po] 24) = W0 at *
    obtain ⟨_, c0, c1, c2, c3, c4, c5, c6, c7, c8, c9, c10, c11, c12, c13⟩ := id C
    go_wp2_with fail
    refine (mlive_ok _ T).mono ?_
    rintro e w2 ⟨rfl, hb⟩
    replace C := C.kept hb
    replace B := bthen B hb
    replace T := T.kept hb
    clear hb c0 c1 c2 c3 c4 c5 c6 c7 c8 c9 c10 c11 c12 c13
    obtain ⟨_, c0, c1, c2, c3, c4, c5, c6, c7, c8, c9, c10, c11, c12, c13⟩ := id C
    go_wp2
    go_ret
    exact ⟨by simp <;> omega, B⟩
  by_cases h : y < c.fi ∨ c.la < y ∨ t < c.fi ∨ c.la < t
  · exact ends_far c y t n w wf tb hm dl k6 h
  have sy : Served c y := by unfold Served; omega
  have st : Served c t := by unfold Served; omega
  by_cases ok : CalOk c
  · rcases pol_123 ok k6 with p | p | p
    · exact ends_12 c y t n w wf tb hm dl k6 ok sy st (.inl p)
    · exact ends_12 c y t n w wf tb hm dl k6 ok sy st (.inr p)
    · exact ends_3 c y t n w wf tb hm dl k6 ok sy st p
  · exact ends_no c y t n w wf tb hm dl k6 ok sy st

end Go.Proofs.YtmagdlcikcgelaaDoor.Ml
