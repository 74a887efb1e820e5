/- CompKeeps' walk. -/
import Derived.Test.YtmagdlcikcgelaaDoorMlive
import Derived.Test.YtmagdlcikcgelaaDoorMlaw2
namespace Go.Proofs.YtmagdlcikcgelaaDoor.Ml
set_option linter.unusedSimpArgs false
set_option linter.unusedVariables false
open Go.RowKit Go.Proofs.YtmagdlcikcgelaaDoor.Bn Go.Proofs.YtmagdlcikcgelaaDoor.Bx Go.Proofs.YtmagdlcikcgelaaDoor.Cp Go.Proofs.YtmagdlcikcgelaaDoor.Am Go.Proofs.YtmagdlcikcgelaaDoor.Fp Go.Proofs.YtmagdlcikcgelaaDoor.Ap Go.Proofs.YtmagdlcikcgelaaDoor.Cm Go.Proofs.YtmagdlcikcgelaaDoor.Em Go.Proofs.YtmagdlcikcgelaaDoor.Ep Go.Proofs.YtmagdlcikcgelaaDoor.Rk Go.Proofs.YtmagdlcikcgelaaDoor.Hp Go.Proofs.YtmagdlcikcgelaaDoor.Ip Go.Proofs.YtmagdlcikcgelaaDoor.Jp Go.Proofs.YtmagdlcikcgelaaDoor.Dp Go.Proofs.YtmagdlcikcgelaaDoor.Mp

set_option maxHeartbeats 16000000

set_option maxRecDepth 100000 in
theorem keeps_no (c : CalZ) (d k : Int) (w : World) (wf : CalWf c) (wk : (Lit.int .i64 k).wf = true) (T : FTab w) (hm : c.nm.size ≤ maxLen) (dl : decide ((100 : Int) < (c.nm.size : Int)) = false) (y e : Int) (S : ServedA c d y e) (h : e ≠ 0) (k6 : c.k ≠ 6) :
    Calls Tryd.prog 10 #[.agg #[.string c.nm, .int .i64 c.k, .int .i64 c.d, .int .i64 c.m, .int .i64 c.s, .int .i64 c.sh, .int .i64 c.p0, .int .i64 c.p1, .int .i64 c.p2, .int .i64 c.cy, .int .i64 c.ex, .int .i64 c.fi, .int .i64 c.la, .int .i64 c.po], .int .i64 d, .int .i64 k] w fun e w' => e = .returned (.bool true) ∧ Below w.heap.size w w' := by
  have C := CalIn.new w c 24
  have B := balloc (Below.refl _ w) (.cells #[.string c.nm, .int .i64 c.k, .int .i64 c.d, .int .i64 c.m, .int .i64 c.s, .int .i64 c.sh, .int .i64 c.p0, .int .i64 c.p1, .int .i64 c.p2, .int .i64 c.cy, .int .i64 c.ex, .int .i64 c.fi, .int .i64 c.la, .int .i64 c.po] 24)
  replace T := T.alloc (.cells #[.string c.nm, .int .i64 c.k, .int .i64 c.d, .int .i64 c.m, .int .i64 c.s, .int .i64 c.sh, .int .i64 c.p0, .int .i64 c.p1, .int .i64 c.p2, .int .i64 c.cy, .int .i64 c.ex, .int .i64 c.fi, .int .i64 c.la, .int .i64 c.po] 24)
  have d6 : (c.k == 6) = false := beq_eq_false_iff_ne.2 k6
  have cs := fun w T => Served_any c d y e w S hm T
  have e1 : (e != 0) = true := bne_iff_ne.2 h
  have ca := fun w T => CDay_any c d k 0 e w (cday_no S h) wk hm T
  clear S h k6
  go_enter Tryd.func10, Tryd.ntmps10
  go_upto_region 1 with fail
  generalize w.alloc (.cells #[.string c.nm, .int .i64 c.k, .int .i64 c.d, .int .i64 c.m, .int .i64 c.s, .int .i64 c.sh, .int .i64 c.p0, .int .i64 c.p1, .int .i64 c.p2, .int .i64 c.cy, .int .i64 c.ex, .int .i64 c.fi, .int .i64 c.la, .int .i64 c.po] 24) = W0 at *
  obtain ⟨_, c0, c1, c2, c3, c4, c5, c6, c7, c8, c9, c10, c11, c12, c13⟩ := id C
  go_wp2_with fail
  refine (mlive_ok _ T).mono ?_
  rintro e w1 ⟨rfl, hb⟩
  replace C := C.kept hb
  replace B := bthen B hb
  replace T := T.kept hb
  clear hb c0 c1 c2 c3 c4 c5 c6 c7 c8 c9 c10 c11 c12 c13
  obtain ⟨_, c0, c1, c2, c3, c4, c5, c6, c7, c8, c9, c10, c11, c12, c13⟩ := id C
  go_wp2_with fail
  refine (cs _ T).mono ?_
  rintro e w2 ⟨rfl, hb⟩
  replace C := C.kept hb
  replace B := bthen B hb
  replace T := T.kept hb
  clear hb c0 c1 c2 c3 c4 c5 c6 c7 c8 c9 c10 c11 c12 c13
  obtain ⟨_, c0, c1, c2, c3, c4, c5, c6, c7, c8, c9, c10, c11, c12, c13⟩ := id C
  go_wp2_with fail
  refine (ca _ T).mono ?_
  rintro e w3 ⟨rfl, hb⟩
  replace C := C.kept hb
  replace B := bthen B hb
  replace T := T.kept hb
  clear hb c0 c1 c2 c3 c4 c5 c6 c7 c8 c9 c10 c11 c12 c13
  obtain ⟨_, c0, c1, c2, c3, c4, c5, c6, c7, c8, c9, c10, c11, c12, c13⟩ := id C
  go_wp2
  go_ret
  exact ⟨by simp <;> omega, B⟩

set_option maxRecDepth 100000 in
theorem keeps_out (c : CalZ) (d k : Int) (w : World) (wf : CalWf c) (wk : (Lit.int .i64 k).wf = true) (T : FTab w) (hm : c.nm.size ≤ maxLen) (dl : decide ((100 : Int) < (c.nm.size : Int)) = false) (y : Int) (S : ServedA c d y 0) (k6 : c.k ≠ 6) (ns : ¬ Served c (y + k)) (A : CDayA c d k 0 11) :
    Calls Tryd.prog 10 #[.agg #[.string c.nm, .int .i64 c.k, .int .i64 c.d, .int .i64 c.m, .int .i64 c.s, .int .i64 c.sh, .int .i64 c.p0, .int .i64 c.p1, .int .i64 c.p2, .int .i64 c.cy, .int .i64 c.ex, .int .i64 c.fi, .int .i64 c.la, .int .i64 c.po], .int .i64 d, .int .i64 k] w fun e w' => e = .returned (.bool true) ∧ Below w.heap.size w w' := by
  have C := CalIn.new w c 24
  have B := balloc (Below.refl _ w) (.cells #[.string c.nm, .int .i64 c.k, .int .i64 c.d, .int .i64 c.m, .int .i64 c.s, .int .i64 c.sh, .int .i64 c.p0, .int .i64 c.p1, .int .i64 c.p2, .int .i64 c.cy, .int .i64 c.ex, .int .i64 c.fi, .int .i64 c.la, .int .i64 c.po] 24)
  replace T := T.alloc (.cells #[.string c.nm, .int .i64 c.k, .int .i64 c.d, .int .i64 c.m, .int .i64 c.s, .int .i64 c.sh, .int .i64 c.p0, .int .i64 c.p1, .int .i64 c.p2, .int .i64 c.cy, .int .i64 c.ex, .int .i64 c.fi, .int .i64 c.la, .int .i64 c.po] 24)
  have d6 : (c.k == 6) = false := beq_eq_false_iff_ne.2 k6
  have cs := fun w T => Served_any c d y 0 w S hm T
  obtain ⟨ok, sy, p0, p1⟩ := served_to S
  have ty := served_told ok sy
  have yo := ok.2.2.1
  obtain ⟨o0, o1, o2, o3⟩ := yo
  obtain ⟨s0, s1⟩ := id sy
  have ca := fun w T => CDay_any c d k 0 11 w A wk hm T
  have O : decide (k < -400) = true ∨ (decide (k < -400) = false ∧ decide (400 < k) = true) ∨ (-400 ≤ k ∧ k ≤ 400 ∧ decide (k < -400) = false ∧ decide (400 < k) = false ∧ decide (y + k < c.fi) = true) ∨ (-400 ≤ k ∧ k ≤ 400 ∧ decide (k < -400) = false ∧ decide (400 < k) = false ∧ decide (y + k < c.fi) = false ∧ decide (c.la < y + k) = true) := by
    unfold Served at ns
    by_cases q0 : k < -400
    · exact .inl (decide_eq_true q0)
    · by_cases q1 : 400 < k
      · exact .inr (.inl ⟨decide_eq_false q0, decide_eq_true q1⟩)
      · by_cases q2 : y + k < c.fi
        · exact .inr (.inr (.inl ⟨by omega, by omega, decide_eq_false q0, decide_eq_false q1, decide_eq_true q2⟩))
        · exact .inr (.inr (.inr ⟨by omega, by omega, decide_eq_false q0, decide_eq_false q1, decide_eq_false q2, decide_eq_true (by omega)⟩))
  have O' := Lib.hid O
  obtain ⟨y0, y1⟩ := ty
  clear O S A ns ok k6 sy p0 p1 o0 o1 o2 o3 s0 s1
  go_enter Tryd.func10, Tryd.ntmps10
  go_upto_region 1 with fail
  generalize w.alloc (.cells #[.string c.nm, .int .i64 c.k, .int .i64 c.d, .int .i64 c.m, .int .i64 c.s, .int .i64 c.sh, .int .i64 c.p0, .int .i64 c.p1, .int .i64 c.p2, .int .i64 c.cy, .int .i64 c.ex, .int .i64 c.fi, .int .i64 c.la, .int .i64 c.po] 24) = W0 at *
  obtain ⟨_, c0, c1, c2, c3, c4, c5, c6, c7, c8, c9, c10, c11, c12, c13⟩ := id C
  go_wp2_with fail
  refine (mlive_ok _ T).mono ?_
  rintro e w1 ⟨rfl, hb⟩
  replace C := C.kept hb
  replace B := bthen B hb
  replace T := T.kept hb
  clear hb c0 c1 c2 c3 c4 c5 c6 c7 c8 c9 c10 c11 c12 c13
  obtain ⟨_, c0, c1, c2, c3, c4, c5, c6, c7, c8, c9, c10, c11, c12, c13⟩ := id C
  go_wp2_with fail
  refine (cs _ T).mono ?_
  rintro e w2 ⟨rfl, hb⟩
  replace C := C.kept hb
  replace B := bthen B hb
  replace T := T.kept hb
  clear hb c0 c1 c2 c3 c4 c5 c6 c7 c8 c9 c10 c11 c12 c13
  obtain ⟨_, c0, c1, c2, c3, c4, c5, c6, c7, c8, c9, c10, c11, c12, c13⟩ := id C
  go_wp2_with fail
  refine (ca _ T).mono ?_
  rintro e w3 ⟨rfl, hb⟩
  replace C := C.kept hb
  replace B := bthen B hb
  replace T := T.kept hb
  clear hb c0 c1 c2 c3 c4 c5 c6 c7 c8 c9 c10 c11 c12 c13
  obtain ⟨_, c0, c1, c2, c3, c4, c5, c6, c7, c8, c9, c10, c11, c12, c13⟩ := id C
  rcases O'.out with g1 | ⟨g1, g2⟩ | ⟨k0, k1, g1, g2, g3⟩ | ⟨k0, k1, g1, g2, g3, g4⟩
  all_goals
    go_wp2
    go_ret
    exact ⟨by simp <;> omega, B⟩

set_option maxRecDepth 100000 in
theorem keeps_gone (c : CalZ) (d k : Int) (w : World) (wf : CalWf c) (wk : (Lit.int .i64 k).wf = true) (T : FTab w) (hm : c.nm.size ≤ maxLen) (dl : decide ((100 : Int) < (c.nm.size : Int)) = false) (y : Int) (S : ServedA c d y 0) (k6 : c.k ≠ 6) (st : Served c (y + k)) (i u v er : Int) (i0 : 7 * (i - 1) < d - yend c (y - 1)) (i1 : d - yend c (y - 1) ≤ 7 * i) (i2 : 1 ≤ i) (i3 : i ≤ nweeks c y) (hv0 : v = 0) (he : er = 12) (P : PolA c y (y + k) i u er) (A : CDayA c d k v er) :
    Calls Tryd.prog 10 #[.agg #[.string c.nm, .int .i64 c.k, .int .i64 c.d, .int .i64 c.m, .int .i64 c.s, .int .i64 c.sh, .int .i64 c.p0, .int .i64 c.p1, .int .i64 c.p2, .int .i64 c.cy, .int .i64 c.ex, .int .i64 c.fi, .int .i64 c.la, .int .i64 c.po], .int .i64 d, .int .i64 k] w fun e w' => e = .returned (.bool true) ∧ Below w.heap.size w w' := by
  have C := CalIn.new w c 24
  have B := balloc (Below.refl _ w) (.cells #[.string c.nm, .int .i64 c.k, .int .i64 c.d, .int .i64 c.m, .int .i64 c.s, .int .i64 c.sh, .int .i64 c.p0, .int .i64 c.p1, .int .i64 c.p2, .int .i64 c.cy, .int .i64 c.ex, .int .i64 c.fi, .int .i64 c.la, .int .i64 c.po] 24)
  replace T := T.alloc (.cells #[.string c.nm, .int .i64 c.k, .int .i64 c.d, .int .i64 c.m, .int .i64 c.s, .int .i64 c.sh, .int .i64 c.p0, .int .i64 c.p1, .int .i64 c.p2, .int .i64 c.cy, .int .i64 c.ex, .int .i64 c.fi, .int .i64 c.la, .int .i64 c.po] 24)
  have d6 : (c.k == 6) = false := beq_eq_false_iff_ne.2 k6
  have cs := fun w T => Served_any c d y 0 w S hm T
  obtain ⟨ok, sy, p0, p1⟩ := served_to S
  have ty := served_told ok sy
  have yo := ok.2.2.1
  obtain ⟨o0, o1, o2, o3⟩ := yo
  obtain ⟨s0, s1⟩ := id sy
  have ca := fun w T => CDay_any c d k v er w A wk hm T
  have tt := served_told ok st
  obtain ⟨t0, t1⟩ := id st
  have k0 : -400 ≤ k := by omega
  have k1 : k ≤ 400 := by omega
  have h1 : c.fi ≤ y + k := by omega
  have h2 : y + k ≤ c.la := by omega
  obtain ⟨a, ha⟩ : ∃ a, a = yend c (y + k - 1) + 1 := ⟨_, rfl⟩
  obtain ⟨b, hb'⟩ : ∃ b, b = yend c (y + k) := ⟨_, rfl⟩
  obtain ⟨n, hn⟩ : ∃ n, n = nweeks c y := ⟨_, rfl⟩
  obtain ⟨m, hm'⟩ : ∃ m, m = nweeks c (y + k) := ⟨_, rfl⟩
  obtain ⟨ad, had⟩ : ∃ ad, ad = addw c y := ⟨_, rfl⟩
  have nb := (nweeks_01 ok.1 k6 (y := y) (by omega) (by omega)).1
  have mb := (nweeks_01 ok.1 k6 (y := y + k) (by omega) (by omega)).1
  have n3 := (nweeks_01 ok.1 k6 (y := y) (by omega) (by omega)).2
  have m3 := (nweeks_01 ok.1 k6 (y := y + k) (by omega) (by omega)).2
  have q1 := fun w T => Start_any c (y + k) a 0 w (.inl ⟨ok, by omega, by omega, ha, rfl⟩) hm T
  have q2 := fun w T => End_any c (y + k) b 0 w (.inl ⟨ok, by omega, by omega, hb', rfl⟩) hm T
  have q3 := fun w T => Weeks_any c y n 0 w (.inl ⟨ok, k6, by omega, by omega, hn, rfl⟩) hm T
  have q4 := fun w T => Weeks_any c (y + k) m 0 w (.inl ⟨ok, k6, by omega, by omega, hm', rfl⟩) hm T
  have q5 := fun w T => Added_any c y ad 0 w (by rw [had]; exact added_is ok k6 (by omega) (by omega)) hm T
  have wa := week_at ok k6 sy p0 p1 i0 i1
  have q6 := fun w T => Day_any c d 5 5 y i 0 w (daya_of ⟨ok, ⟨by omega, by omega⟩, sy, wa.1.1, wa.1.2.1⟩ wa.1.2.2.1 wa.1.2.2.2) hm T
  have yb := yend_bd ok.1 (y := y - 1) (by omega) (by omega)
  have yb2 := yend_bd ok.1 (y := y) (by omega) (by omega)
  have tb0 := yend_bd ok.1 (y := y + k - 1) (by omega) (by omega)
  have tb1 := yend_bd ok.1 (y := y + k) (by omega) (by omega)
  have bd : 0 ≤ a ∧ a ≤ 3068037 ∧ 0 ≤ b ∧ b ≤ 3068036 ∧ 0 ≤ d ∧ d ≤ 3068036 := by omega
  obtain ⟨a0, a1, b0, b1, d0, d1⟩ := bd
  have g1 : decide (k < -400) = false := decide_eq_false (by omega)
  have g2 : decide (400 < k) = false := decide_eq_false (by omega)
  have g3 : decide (y + k < c.fi) = false := decide_eq_false (by omega)
  have g4 : decide (c.la < y + k) = false := decide_eq_false (by omega)
  subst hv0 he
  have G := pol_gone ok k6 (by omega) (by omega) (by omega) (by omega) i2 P (by decide)
  rw [← hn, ← hm', ← had] at G
  obtain ⟨_, po, e1, e2, e3⟩ := G
  subst e1 e2 e3
  have dpo : (c.po == 3) = true := by rw [po]; rfl
  obtain ⟨y0, y1⟩ := ty
  clear S A P wa ok k6 sy st p0 p1 o0 o1 o2 o3 s0 s1 t0 t1 ha hb' hn hm' had nb mb n3 m3 i0 i1 i2 i3 tt yb yb2 tb0 tb1 po
  go_enter Tryd.func10, Tryd.ntmps10
  go_upto_region 1 with fail
  generalize w.alloc (.cells #[.string c.nm, .int .i64 c.k, .int .i64 c.d, .int .i64 c.m, .int .i64 c.s, .int .i64 c.sh, .int .i64 c.p0, .int .i64 c.p1, .int .i64 c.p2, .int .i64 c.cy, .int .i64 c.ex, .int .i64 c.fi, .int .i64 c.la, .int .i64 c.po] 24) = W0 at *
  obtain ⟨_, c0, c1, c2, c3, c4, c5, c6, c7, c8, c9, c10, c11, c12, c13⟩ := id C
  go_wp2_with fail
  refine (mlive_ok _ T).mono ?_
  rintro e w1 ⟨rfl, hb⟩
  replace C := C.kept hb
  replace B := bthen B hb
  replace T := T.kept hb
  clear hb c0 c1 c2 c3 c4 c5 c6 c7 c8 c9 c10 c11 c12 c13
  obtain ⟨_, c0, c1, c2, c3, c4, c5, c6, c7, c8, c9, c10, c11, c12, c13⟩ := id C
  go_wp2_with fail
  refine (cs _ T).mono ?_
  rintro e w2 ⟨rfl, hb⟩
  replace C := C.kept hb
  replace B := bthen B hb
  replace T := T.kept hb
  clear hb c0 c1 c2 c3 c4 c5 c6 c7 c8 c9 c10 c11 c12 c13
  obtain ⟨_, c0, c1, c2, c3, c4, c5, c6, c7, c8, c9, c10, c11, c12, c13⟩ := id C
  go_wp2_with fail
  refine (ca _ T).mono ?_
  rintro e w3 ⟨rfl, hb⟩
  replace C := C.kept hb
  replace B := bthen B hb
  replace T := T.kept hb
  clear hb c0 c1 c2 c3 c4 c5 c6 c7 c8 c9 c10 c11 c12 c13
  obtain ⟨_, c0, c1, c2, c3, c4, c5, c6, c7, c8, c9, c10, c11, c12, c13⟩ := id C
  go_wp2_with fail
  refine (q1 _ T).mono ?_
  rintro e w4 ⟨rfl, hb⟩
  replace C := C.kept hb
  replace B := bthen B hb
  replace T := T.kept hb
  clear hb c0 c1 c2 c3 c4 c5 c6 c7 c8 c9 c10 c11 c12 c13
  obtain ⟨_, c0, c1, c2, c3, c4, c5, c6, c7, c8, c9, c10, c11, c12, c13⟩ := id C
  go_wp2_with fail
  refine (q2 _ T).mono ?_
  rintro e w5 ⟨rfl, hb⟩
  replace C := C.kept hb
  replace B := bthen B hb
  replace T := T.kept hb
  clear hb c0 c1 c2 c3 c4 c5 c6 c7 c8 c9 c10 c11 c12 c13
  obtain ⟨_, c0, c1, c2, c3, c4, c5, c6, c7, c8, c9, c10, c11, c12, c13⟩ := id C
  go_wp2_with fail
  refine (q3 _ T).mono ?_
  rintro e w6 ⟨rfl, hb⟩
  replace C := C.kept hb
  replace B := bthen B hb
  replace T := T.kept hb
  clear hb c0 c1 c2 c3 c4 c5 c6 c7 c8 c9 c10 c11 c12 c13
  obtain ⟨_, c0, c1, c2, c3, c4, c5, c6, c7, c8, c9, c10, c11, c12, c13⟩ := id C
  go_wp2_with fail
  refine (q4 _ T).mono ?_
  rintro e w7 ⟨rfl, hb⟩
  replace C := C.kept hb
  replace B := bthen B hb
  replace T := T.kept hb
  clear hb c0 c1 c2 c3 c4 c5 c6 c7 c8 c9 c10 c11 c12 c13
  obtain ⟨_, c0, c1, c2, c3, c4, c5, c6, c7, c8, c9, c10, c11, c12, c13⟩ := id C
  go_wp2_with fail
  refine (q5 _ T).mono ?_
  rintro e w8 ⟨rfl, hb⟩
  replace C := C.kept hb
  replace B := bthen B hb
  replace T := T.kept hb
  clear hb c0 c1 c2 c3 c4 c5 c6 c7 c8 c9 c10 c11 c12 c13
  obtain ⟨_, c0, c1, c2, c3, c4, c5, c6, c7, c8, c9, c10, c11, c12, c13⟩ := id C
  go_wp2_with fail
  refine (q6 _ T).mono ?_
  rintro e w9 ⟨rfl, hb⟩
  replace C := C.kept hb
  replace B := bthen B hb
  replace T := T.kept hb
  clear hb c0 c1 c2 c3 c4 c5 c6 c7 c8 c9 c10 c11 c12 c13 
  obtain ⟨_, c0, c1, c2, c3, c4, c5, c6, c7, c8, c9, c10, c11, c12, c13⟩ := id C
  go_wp2
  go_ret
  exact ⟨by simp [*], balloc B _⟩

set_option maxRecDepth 100000 in
theorem keeps_in (c : CalZ) (d k : Int) (w : World) (wf : CalWf c) (wk : (Lit.int .i64 k).wf = true) (T : FTab w) (hm : c.nm.size ≤ maxLen) (dl : decide ((100 : Int) < (c.nm.size : Int)) = false) (y : Int) (S : ServedA c d y 0) (k6 : c.k ≠ 6) (st : Served c (y + k)) (i u v er : Int) (i0 : 7 * (i - 1) < d - yend c (y - 1)) (i1 : d - yend c (y - 1) ≤ 7 * i) (i2 : 1 ≤ i) (i3 : i ≤ nweeks c y) (he : er = 0) (hv : v = yend c (y + k - 1) + (d - yend c (y - 1)) + 7 * (u - i)) (P : PolA c y (y + k) i u er) (A : CDayA c d k v er) :
    Calls Tryd.prog 10 #[.agg #[.string c.nm, .int .i64 c.k, .int .i64 c.d, .int .i64 c.m, .int .i64 c.s, .int .i64 c.sh, .int .i64 c.p0, .int .i64 c.p1, .int .i64 c.p2, .int .i64 c.cy, .int .i64 c.ex, .int .i64 c.fi, .int .i64 c.la, .int .i64 c.po], .int .i64 d, .int .i64 k] w fun e w' => e = .returned (.bool true) ∧ Below w.heap.size w w' := by
  have C := CalIn.new w c 24
  have B := balloc (Below.refl _ w) (.cells #[.string c.nm, .int .i64 c.k, .int .i64 c.d, .int .i64 c.m, .int .i64 c.s, .int .i64 c.sh, .int .i64 c.p0, .int .i64 c.p1, .int .i64 c.p2, .int .i64 c.cy, .int .i64 c.ex, .int .i64 c.fi, .int .i64 c.la, .int .i64 c.po] 24)
  replace T := T.alloc (.cells #[.string c.nm, .int .i64 c.k, .int .i64 c.d, .int .i64 c.m, .int .i64 c.s, .int .i64 c.sh, .int .i64 c.p0, .int .i64 c.p1, .int .i64 c.p2, .int .i64 c.cy, .int .i64 c.ex, .int .i64 c.fi, .int .i64 c.la, .int .i64 c.po] 24)
  have d6 : (c.k == 6) = false := beq_eq_false_iff_ne.2 k6
  have cs := fun w T => Served_any c d y 0 w S hm T
  obtain ⟨ok, sy, p0, p1⟩ := served_to S
  have ty := served_told ok sy
  have yo := ok.2.2.1
  obtain ⟨o0, o1, o2, o3⟩ := yo
  obtain ⟨s0, s1⟩ := id sy
  have ca := fun w T => CDay_any c d k v er w A wk hm T
  have tt := served_told ok st
  obtain ⟨t0, t1⟩ := id st
  have k0 : -400 ≤ k := by omega
  have k1 : k ≤ 400 := by omega
  have h1 : c.fi ≤ y + k := by omega
  have h2 : y + k ≤ c.la := by omega
  obtain ⟨a, ha⟩ : ∃ a, a = yend c (y + k - 1) + 1 := ⟨_, rfl⟩
  obtain ⟨b, hb'⟩ : ∃ b, b = yend c (y + k) := ⟨_, rfl⟩
  obtain ⟨n, hn⟩ : ∃ n, n = nweeks c y := ⟨_, rfl⟩
  obtain ⟨m, hm'⟩ : ∃ m, m = nweeks c (y + k) := ⟨_, rfl⟩
  obtain ⟨ad, had⟩ : ∃ ad, ad = addw c y := ⟨_, rfl⟩
  have nb := (nweeks_01 ok.1 k6 (y := y) (by omega) (by omega)).1
  have mb := (nweeks_01 ok.1 k6 (y := y + k) (by omega) (by omega)).1
  have n3 := (nweeks_01 ok.1 k6 (y := y) (by omega) (by omega)).2
  have m3 := (nweeks_01 ok.1 k6 (y := y + k) (by omega) (by omega)).2
  have q1 := fun w T => Start_any c (y + k) a 0 w (.inl ⟨ok, by omega, by omega, ha, rfl⟩) hm T
  have q2 := fun w T => End_any c (y + k) b 0 w (.inl ⟨ok, by omega, by omega, hb', rfl⟩) hm T
  have q3 := fun w T => Weeks_any c y n 0 w (.inl ⟨ok, k6, by omega, by omega, hn, rfl⟩) hm T
  have q4 := fun w T => Weeks_any c (y + k) m 0 w (.inl ⟨ok, k6, by omega, by omega, hm', rfl⟩) hm T
  have q5 := fun w T => Added_any c y ad 0 w (by rw [had]; exact added_is ok k6 (by omega) (by omega)) hm T
  have wa := week_at ok k6 sy p0 p1 i0 i1
  have q6 := fun w T => Day_any c d 5 5 y i 0 w (daya_of ⟨ok, ⟨by omega, by omega⟩, sy, wa.1.1, wa.1.2.1⟩ wa.1.2.2.1 wa.1.2.2.2) hm T
  have yb := yend_bd ok.1 (y := y - 1) (by omega) (by omega)
  have yb2 := yend_bd ok.1 (y := y) (by omega) (by omega)
  have tb0 := yend_bd ok.1 (y := y + k - 1) (by omega) (by omega)
  have tb1 := yend_bd ok.1 (y := y + k) (by omega) (by omega)
  have bd : 0 ≤ a ∧ a ≤ 3068037 ∧ 0 ≤ b ∧ b ≤ 3068036 ∧ 0 ≤ d ∧ d ≤ 3068036 := by omega
  obtain ⟨a0, a1, b0, b1, d0, d1⟩ := bd
  have g1 : decide (k < -400) = false := decide_eq_false (by omega)
  have g2 : decide (400 < k) = false := decide_eq_false (by omega)
  have g3 : decide (y + k < c.fi) = false := decide_eq_false (by omega)
  have g4 : decide (c.la < y + k) = false := decide_eq_false (by omega)
  subst he
  have U := pol_bd ok k6 (by omega) (by omega) (by omega) (by omega) i2 i3 P
  have ed := ends_7 ok k6 (y - 1) (y + k - 1)
  have ay := addw_bd ok k6 (y := y) (by omega) (by omega)
  have at' := addw_bd ok k6 (y := y + k) (by omega) (by omega)
  have vb : 0 ≤ v ∧ v ≤ 3068036 := by
    have e9 := yend_step ok.1 (y := y + k) (by omega) (by omega)
    have e8 := yend_bd ok.1 (y := y + k + 1) (by omega) (by omega)
    have e7 := yend_lt ok.1 (a := 1600) (b := y + k - 1) (by omega) (by omega) (by omega)
    have e6 := yend_bd ok.1 (y := 1600) (by omega) (by omega)
    omega
  obtain ⟨v0, v1⟩ := vb
  obtain ⟨wd', hwd⟩ : ∃ z, z = wday d := ⟨_, rfl⟩
  have hwv : wd' = wday v := by rw [hwd]; unfold wday; omega
  have q7 := fun w T => Weekday_b d wd' 0 w (.inl ⟨d0, d1, hwd, rfl⟩) T
  have q8 := fun w T => Weekday_b v wd' 0 w (.inl ⟨v0, v1, hwv, rfl⟩) T
  have tm : (d - v).tmod 7 = 0 := by
    have : (d - v) % 7 = 0 := by omega
    exact Int.tmod_eq_zero_of_dvd (Int.dvd_of_emod_eq_zero this)
  have p3 : (c.po == 3) = false ∨ ((c.po == 3) = true ∧ (n == 53) = false) ∨ ((c.po == 3) = true ∧ (n == 53) = true ∧ (m == 52) = false) ∨ ((c.po == 3) = true ∧ (n == 53) = true ∧ (m == 52) = true ∧ (i == ad) = false) := by
    by_cases q3 : c.po = 3
    · have x3 : (c.po == 3) = true := by rw [q3]; rfl
      by_cases qn : n = 53
      · by_cases qm : m = 52
        · refine .inr (.inr (.inr ⟨x3, by rw [qn]; rfl, by rw [qm]; rfl, beq_eq_false_iff_ne.2 (fun x => ?_)⟩))
          have q2 : addw c (y + k) = 0 := by omega
          omega
        · exact .inr (.inr (.inl ⟨x3, by rw [qn]; rfl, beq_eq_false_iff_ne.2 qm⟩))
      · exact .inr (.inl ⟨x3, beq_eq_false_iff_ne.2 qn⟩)
    · exact .inl (beq_eq_false_iff_ne.2 q3)
  have O : (decide (a ≤ v) = true ∧ decide (v ≤ b) = true) ∨ ((c.po == 3) = false ∧ (n == 53) = true ∧ (m == 52) = true ∧ (c.po == 1) = false ∧ (c.po == 2) = true ∧ decide (a ≤ v) = false ∧ decide (a - 7 ≤ v) = true ∧ decide (v < a) = true) ∨
      ((c.po == 3) = false ∧ (n == 53) = true ∧ (m == 52) = true ∧ (c.po == 1) = true ∧ (c.po == 2) = false ∧ decide (a ≤ v) = true ∧ decide (v ≤ b) = false ∧ decide (b < v) = true ∧ decide (v ≤ b + 7) = true) := by
    by_cases q1 : a ≤ v
    · by_cases q2 : v ≤ b
      · exact .inl ⟨decide_eq_true q1, decide_eq_true q2⟩
      · have e1 : c.po = 1 := by omega
        have e2 : n = 53 := by omega
        have e3 : m = 52 := by omega
        exact .inr (.inr ⟨by rw [e1]; rfl, by rw [e2]; rfl, by rw [e3]; rfl, by rw [e1]; rfl, by rw [e1]; rfl, decide_eq_true q1, decide_eq_false q2, decide_eq_true (by omega), decide_eq_true (by omega)⟩)
    · have e1 : c.po = 2 := by omega
      have e2 : n = 53 := by omega
      have e3 : m = 52 := by omega
      exact .inr (.inl ⟨by rw [e1]; rfl, by rw [e2]; rfl, by rw [e3]; rfl, by rw [e1]; rfl, by rw [e1]; rfl, decide_eq_false q1, decide_eq_true (by omega), decide_eq_true (by omega)⟩)
  have O' := Lib.hid O
  have P' := Lib.hid p3
  obtain ⟨y0, y1⟩ := ty
  clear O p3 S A P U wa ok k6 sy st p0 p1 o0 o1 o2 o3 s0 s1 t0 t1 ha hb' hn hm' had nb mb n3 m3 i0 i1 i2 i3 tt yb yb2 tb0 tb1 ed ay at' hwd hwv hv
  go_enter Tryd.func10, Tryd.ntmps10
  go_upto_region 1 with fail
  generalize w.alloc (.cells #[.string c.nm, .int .i64 c.k, .int .i64 c.d, .int .i64 c.m, .int .i64 c.s, .int .i64 c.sh, .int .i64 c.p0, .int .i64 c.p1, .int .i64 c.p2, .int .i64 c.cy, .int .i64 c.ex, .int .i64 c.fi, .int .i64 c.la, .int .i64 c.po] 24) = W0 at *
  obtain ⟨_, c0, c1, c2, c3, c4, c5, c6, c7, c8, c9, c10, c11, c12, c13⟩ := id C
  go_wp2_with fail
  refine (mlive_ok _ T).mono ?_
  rintro e w1 ⟨rfl, hb⟩
  replace C := C.kept hb
  replace B := bthen B hb
  replace T := T.kept hb
  clear hb c0 c1 c2 c3 c4 c5 c6 c7 c8 c9 c10 c11 c12 c13
  obtain ⟨_, c0, c1, c2, c3, c4, c5, c6, c7, c8, c9, c10, c11, c12, c13⟩ := id C
  go_wp2_with fail
  refine (cs _ T).mono ?_
  rintro e w2 ⟨rfl, hb⟩
  replace C := C.kept hb
  replace B := bthen B hb
  replace T := T.kept hb
  clear hb c0 c1 c2 c3 c4 c5 c6 c7 c8 c9 c10 c11 c12 c13
  obtain ⟨_, c0, c1, c2, c3, c4, c5, c6, c7, c8, c9, c10, c11, c12, c13⟩ := id C
  go_wp2_with fail
  refine (ca _ T).mono ?_
  rintro e w3 ⟨rfl, hb⟩
  replace C := C.kept hb
  replace B := bthen B hb
  replace T := T.kept hb
  clear hb c0 c1 c2 c3 c4 c5 c6 c7 c8 c9 c10 c11 c12 c13
  obtain ⟨_, c0, c1, c2, c3, c4, c5, c6, c7, c8, c9, c10, c11, c12, c13⟩ := id C
  go_wp2_with fail
  refine (q1 _ T).mono ?_
  rintro e w4 ⟨rfl, hb⟩
  replace C := C.kept hb
  replace B := bthen B hb
  replace T := T.kept hb
  clear hb c0 c1 c2 c3 c4 c5 c6 c7 c8 c9 c10 c11 c12 c13
  obtain ⟨_, c0, c1, c2, c3, c4, c5, c6, c7, c8, c9, c10, c11, c12, c13⟩ := id C
  go_wp2_with fail
  refine (q2 _ T).mono ?_
  rintro e w5 ⟨rfl, hb⟩
  replace C := C.kept hb
  replace B := bthen B hb
  replace T := T.kept hb
  clear hb c0 c1 c2 c3 c4 c5 c6 c7 c8 c9 c10 c11 c12 c13
  obtain ⟨_, c0, c1, c2, c3, c4, c5, c6, c7, c8, c9, c10, c11, c12, c13⟩ := id C
  go_wp2_with fail
  refine (q3 _ T).mono ?_
  rintro e w6 ⟨rfl, hb⟩
  replace C := C.kept hb
  replace B := bthen B hb
  replace T := T.kept hb
  clear hb c0 c1 c2 c3 c4 c5 c6 c7 c8 c9 c10 c11 c12 c13
  obtain ⟨_, c0, c1, c2, c3, c4, c5, c6, c7, c8, c9, c10, c11, c12, c13⟩ := id C
  go_wp2_with fail
  refine (q4 _ T).mono ?_
  rintro e w7 ⟨rfl, hb⟩
  replace C := C.kept hb
  replace B := bthen B hb
  replace T := T.kept hb
  clear hb c0 c1 c2 c3 c4 c5 c6 c7 c8 c9 c10 c11 c12 c13
  obtain ⟨_, c0, c1, c2, c3, c4, c5, c6, c7, c8, c9, c10, c11, c12, c13⟩ := id C
  go_wp2_with fail
  refine (q5 _ T).mono ?_
  rintro e w8 ⟨rfl, hb⟩
  replace C := C.kept hb
  replace B := bthen B hb
  replace T := T.kept hb
  clear hb c0 c1 c2 c3 c4 c5 c6 c7 c8 c9 c10 c11 c12 c13
  obtain ⟨_, c0, c1, c2, c3, c4, c5, c6, c7, c8, c9, c10, c11, c12, c13⟩ := id C
  go_wp2_with fail
  refine (q6 _ T).mono ?_
  rintro e w9 ⟨rfl, hb⟩
  replace C := C.kept hb
  replace B := bthen B hb
  replace T := T.kept hb
  clear hb c0 c1 c2 c3 c4 c5 c6 c7 c8 c9 c10 c11 c12 c13 
  obtain ⟨_, c0, c1, c2, c3, c4, c5, c6, c7, c8, c9, c10, c11, c12, c13⟩ := id C
  have U := Go.Proofs.YtmagdlcikcgelaaDoor.Bx.Tri.new w9 (.int .i64 5) (.int .i64 y) (.int .i64 i) 26
  replace C := C.alloc (.cells #[.int .i64 5, .int .i64 y, .int .i64 i] 26)
  replace T := T.alloc (.cells #[.int .i64 5, .int .i64 y, .int .i64 i] 26)
  replace B := balloc B (.cells #[.int .i64 5, .int .i64 y, .int .i64 i] 26)
  clear c0 c1 c2 c3 c4 c5 c6 c7 c8 c9 c10 c11 c12 c13 
  obtain ⟨_, c0, c1, c2, c3, c4, c5, c6, c7, c8, c9, c10, c11, c12, c13⟩ := id C
  obtain ⟨_, u0, u1, u2, fu0, fu1, fu2⟩ := id U
  go_wp2_with fail
  refine (q7 _ T.civ).mono ?_
  rintro e w10 ⟨rfl, hb⟩
  replace C := C.kept hb
  replace B := bthen B hb
  replace T := T.kept hb
  replace U := U.kept hb
  clear hb c0 c1 c2 c3 c4 c5 c6 c7 c8 c9 c10 c11 c12 c13 u0 u1 u2 fu0 fu1 fu2
  obtain ⟨_, c0, c1, c2, c3, c4, c5, c6, c7, c8, c9, c10, c11, c12, c13⟩ := id C
  obtain ⟨_, u0, u1, u2, fu0, fu1, fu2⟩ := id U
  go_wp2_with fail
  refine (q8 _ T.civ).mono ?_
  rintro e w11 ⟨rfl, hb⟩
  replace C := C.kept hb
  replace B := bthen B hb
  replace T := T.kept hb
  replace U := U.kept hb
  clear hb c0 c1 c2 c3 c4 c5 c6 c7 c8 c9 c10 c11 c12 c13 u0 u1 u2 fu0 fu1 fu2
  obtain ⟨_, c0, c1, c2, c3, c4, c5, c6, c7, c8, c9, c10, c11, c12, c13⟩ := id C
  obtain ⟨_, u0, u1, u2, fu0, fu1, fu2⟩ := id U
  rcases O'.out with ⟨z1, z2⟩ | ⟨z0, z1, z2, z3, z4, z5, z6, z7⟩ | ⟨z0, z1, z2, z3, z4, z5, z6, z7, z8⟩
  · rcases P'.out with x3 | ⟨x3, x4⟩ | ⟨x3, x4, x5⟩ | ⟨x3, x4, x5, x6⟩
    all_goals
      go_wp2
      all_goals
        go_ret
        exact ⟨by simp [*], B⟩
  all_goals
    go_wp2
    go_ret
    exact ⟨by simp [*], B⟩

set_option maxRecDepth 100000 in
theorem keeps_walk (c : CalZ) (d k : Int) (w : World) (wf : CalWf c) (wd : (Lit.int .i64 d).wf = true) (wk : (Lit.int .i64 k).wf = true) (tb : FTab w) :
    Calls Tryd.prog 10 #[.agg #[.string c.nm, .int .i64 c.k, .int .i64 c.d, .int .i64 c.m, .int .i64 c.s, .int .i64 c.sh, .int .i64 c.p0, .int .i64 c.p1, .int .i64 c.p2, .int .i64 c.cy, .int .i64 c.ex, .int .i64 c.fi, .int .i64 c.la, .int .i64 c.po], .int .i64 d, .int .i64 k] w fun e w' => e = .returned (.bool true) ∧ Below w.heap.size w w' := by
  have T := tb
  have C := CalIn.new w c 24
  have B := balloc (Below.refl _ w) (.cells #[.string c.nm, .int .i64 c.k, .int .i64 c.d, .int .i64 c.m, .int .i64 c.s, .int .i64 c.sh, .int .i64 c.p0, .int .i64 c.p1, .int .i64 c.p2, .int .i64 c.cy, .int .i64 c.ex, .int .i64 c.fi, .int .i64 c.la, .int .i64 c.po] 24)
  replace T := T.alloc (.cells #[.string c.nm, .int .i64 c.k, .int .i64 c.d, .int .i64 c.m, .int .i64 c.s, .int .i64 c.sh, .int .i64 c.p0, .int .i64 c.p1, .int .i64 c.p2, .int .i64 c.cy, .int .i64 c.ex, .int .i64 c.fi, .int .i64 c.la, .int .i64 c.po] 24)
  have hm := wf.1
  by_cases hl : 100 < c.nm.size
  · have dl : decide ((100 : Int) < (c.nm.size : Int)) = true := decide_eq_true (by omega)
    clear hl
    go_enter Tryd.func10, Tryd.ntmps10
    go_upto_region 1 with fail
    generalize w.alloc (.cells #[.string c.nm, .int .i64 c.k, .int .i64 c.d, .int .i64 c.m, .int .i64 c.s, .int .i64 c.sh, .int .i64 c.p0, .int .i64 c.p1, .int .i64 c.p2, .int .i64 c.cy, .int .i64 c.ex, .int .i64 c.fi, .int .i64 c.la, .int .i64 c.po] 24) = W0 at *
    obtain ⟨_, c0, c1, c2, c3, c4, c5, c6, c7, c8, c9, c10, c11, c12, c13⟩ := id C
    go_wp2_with fail
    refine (mlive_ok _ T).mono ?_
    rintro e w1 ⟨rfl, hb⟩
    replace C := C.kept hb
    replace B := bthen B hb
    replace T := T.kept hb
    clear hb c0 c1 c2 c3 c4 c5 c6 c7 c8 c9 c10 c11 c12 c13
    obtain ⟨_, c0, c1, c2, c3, c4, c5, c6, c7, c8, c9, c10, c11, c12, c13⟩ := id C
    go_wp2
    go_ret
    exact ⟨by simp <;> omega, B⟩
  have dl : decide ((100 : Int) < (c.nm.size : Int)) = false := decide_eq_false (by omega)
  clear hl
  by_cases k6 : c.k = 6
  · have d6 : (c.k == 6) = true := by rw [k6]; rfl
    clear k6
    go_enter Tryd.func10, Tryd.ntmps10
    go_upto_region 1 with fail
    generalize w.alloc (.cells #[.string c.nm, .int .i64 c.k, .int .i64 c.d, .int .i64 c.m, .int .i64 c.s, .int .i64 c.sh, .int .i64 c.p0, .int .i64 c.p1, .int .i64 c.p2, .int .i64 c.cy, .int .i64 c.ex, .int .i64 c.fi, .int .i64 c.la, .int .i64 c.po] 24) = W0 at *
    obtain ⟨_, c0, c1, c2, c3, c4, c5, c6, c7, c8, c9, c10, c11, c12, c13⟩ := id C
    go_wp2_with fail
    refine (mlive_ok _ T).mono ?_
    rintro e w2 ⟨rfl, hb⟩
    replace C := C.kept hb
    replace B := bthen B hb
    replace T := T.kept hb
    clear hb c0 c1 c2 c3 c4 c5 c6 c7 c8 c9 c10 c11 c12 c13
    obtain ⟨_, c0, c1, c2, c3, c4, c5, c6, c7, c8, c9, c10, c11, c12, c13⟩ := id C
    go_wp2
    go_ret
    exact ⟨by simp <;> omega, B⟩
  obtain ⟨y, e, S⟩ := serveda_ex c d
  by_cases h : e = 0
  case neg => exact keeps_no c d k w wf wk tb hm dl y e S h k6
  subst h
  rcases cday_for k S k6 with ⟨ns, A⟩ | ⟨st, i, u, v, er, i0, i1, i2, i3, P, A, E⟩
  · exact keeps_out c d k w wf wk tb hm dl y S k6 ns A
  · rcases E with ⟨he, hv⟩ | ⟨he, hv⟩
    · exact keeps_in c d k w wf wk tb hm dl y S k6 st i u v er i0 i1 i2 i3 he hv P A
    · exact keeps_gone c d k w wf wk tb hm dl y S k6 st i u v er i0 i1 i2 i3 hv he P A

end Go.Proofs.YtmagdlcikcgelaaDoor.Ml
