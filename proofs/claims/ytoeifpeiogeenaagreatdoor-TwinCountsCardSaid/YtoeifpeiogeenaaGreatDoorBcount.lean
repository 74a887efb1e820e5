/- TwinCounts' walk. -/
import Derived.Test.YtoeifpeiogeenaaGreatDoorJR
namespace Go.Proofs.YtoeifpeiogeenaaGreatDoor.Bl
set_option linter.unusedSimpArgs false
set_option linter.unusedVariables false
open Go.RowKit Go.Proofs.YtoeifpeiogeenaaGreatDoor.Bn Go.Proofs.YtoeifpeiogeenaaGreatDoor.Bx Go.Proofs.YtoeifpeiogeenaaGreatDoor.Cp Go.Proofs.YtoeifpeiogeenaaGreatDoor.Am Go.Proofs.YtoeifpeiogeenaaGreatDoor.Fp Go.Proofs.YtoeifpeiogeenaaGreatDoor.Ap Go.Proofs.YtoeifpeiogeenaaGreatDoor.Cm Go.Proofs.YtoeifpeiogeenaaGreatDoor.Em Go.Proofs.YtoeifpeiogeenaaGreatDoor.Ep Go.Proofs.YtoeifpeiogeenaaGreatDoor.Rk Go.Proofs.YtoeifpeiogeenaaGreatDoor.Hp Go.Proofs.YtoeifpeiogeenaaGreatDoor.Ip Go.Proofs.YtoeifpeiogeenaaGreatDoor.Jp Go.Proofs.YtoeifpeiogeenaaGreatDoor.Dp Go.Proofs.YtoeifpeiogeenaaGreatDoor.Mp Go.Proofs.YtoeifpeiogeenaaGreatDoor.Bp

set_option maxHeartbeats 16000000

set_option maxRecDepth 100000 in
theorem counts_out (c : CalZ) (L y i k : Int) (w : World) (tb : FTab w) (h : 100 < c.nm.size ∨ c.k = 6 ∨ k < -400 ∨ 400 < k) :
    Calls Tryz.prog 3 #[.agg #[.string c.nm, .int .i64 c.k, .int .i64 c.d, .int .i64 c.m, .int .i64 c.s, .int .i64 c.sh, .int .i64 c.p0, .int .i64 c.p1, .int .i64 c.p2, .int .i64 c.cy, .int .i64 c.ex, .int .i64 c.fi, .int .i64 c.la, .int .i64 c.po], .agg #[.int .i64 L, .int .i64 y, .int .i64 i], .int .i64 k] w fun e w' => e = .returned (.bool true) ∧ Below w.heap.size w w' := by
  have T := tb
  have C := CalIn.new w c 24
  have B := balloc (Below.refl _ w) (.cells #[.string c.nm, .int .i64 c.k, .int .i64 c.d, .int .i64 c.m, .int .i64 c.s, .int .i64 c.sh, .int .i64 c.p0, .int .i64 c.p1, .int .i64 c.p2, .int .i64 c.cy, .int .i64 c.ex, .int .i64 c.fi, .int .i64 c.la, .int .i64 c.po] 24)
  replace T := T.alloc (.cells #[.string c.nm, .int .i64 c.k, .int .i64 c.d, .int .i64 c.m, .int .i64 c.s, .int .i64 c.sh, .int .i64 c.p0, .int .i64 c.p1, .int .i64 c.p2, .int .i64 c.cy, .int .i64 c.ex, .int .i64 c.fi, .int .i64 c.la, .int .i64 c.po] 24)
  have U := Go.Proofs.YtoeifpeiogeenaaGreatDoor.Bx.Tri.new (w.alloc (.cells #[.string c.nm, .int .i64 c.k, .int .i64 c.d, .int .i64 c.m, .int .i64 c.s, .int .i64 c.sh, .int .i64 c.p0, .int .i64 c.p1, .int .i64 c.p2, .int .i64 c.cy, .int .i64 c.ex, .int .i64 c.fi, .int .i64 c.la, .int .i64 c.po] 24)) (.int .i64 L) (.int .i64 y) (.int .i64 i) 26
  rw [World.size_alloc] at U
  replace C := C.alloc (.cells #[.int .i64 L, .int .i64 y, .int .i64 i] 26)
  replace B := balloc B (.cells #[.int .i64 L, .int .i64 y, .int .i64 i] 26)
  replace T := T.alloc (.cells #[.int .i64 L, .int .i64 y, .int .i64 i] 26)
  have O : decide ((100 : Int) < (c.nm.size : Int)) = true ∨ (decide ((100 : Int) < (c.nm.size : Int)) = false ∧ (c.k == 6) = true) ∨ (decide ((100 : Int) < (c.nm.size : Int)) = false ∧ (c.k == 6) = false ∧ decide (k < -400) = true) ∨ (decide ((100 : Int) < (c.nm.size : Int)) = false ∧ (c.k == 6) = false ∧ decide (k < -400) = false ∧ decide (400 < k) = true) := by
    by_cases h1 : 100 < c.nm.size
    · exact .inl (decide_eq_true (by omega))
    · refine .inr ?_
      by_cases h2 : c.k = 6
      · exact .inl ⟨decide_eq_false (by omega), beq_iff_eq.2 h2⟩
      · refine .inr ?_
        by_cases h3 : k < -400
        · exact .inl ⟨decide_eq_false (by omega), beq_eq_false_iff_ne.2 h2, decide_eq_true h3⟩
        · exact .inr ⟨decide_eq_false (by omega), beq_eq_false_iff_ne.2 h2, decide_eq_false h3, decide_eq_true (by omega)⟩
  clear h
  rcases O with dl | ⟨dl, d6⟩ | ⟨dl, d6, d3⟩ | ⟨dl, d6, d3, d4⟩
  all_goals
    go_enter Tryz.func3, Tryz.ntmps3
    go_upto_region 1 with fail
    generalize (w.alloc (.cells #[.string c.nm, .int .i64 c.k, .int .i64 c.d, .int .i64 c.m, .int .i64 c.s, .int .i64 c.sh, .int .i64 c.p0, .int .i64 c.p1, .int .i64 c.p2, .int .i64 c.cy, .int .i64 c.ex, .int .i64 c.fi, .int .i64 c.la, .int .i64 c.po] 24)).alloc (.cells #[.int .i64 L, .int .i64 y, .int .i64 i] 26) = W0 at *
    obtain ⟨_, c0, c1, c2, c3, c4, c5, c6, c7, c8, c9, c10, c11, c12, c13⟩ := id C
    obtain ⟨_, u0, u1, u2, fu0, fu1, fu2⟩ := id U
    go_wp2_with fail
    refine (blive_ok _ T).mono ?_
    rintro e w1 ⟨rfl, hb⟩
    replace C := C.kept hb
    replace B := bthen B hb
    replace T := T.kept hb
    replace U := U.kept hb
    clear hb c0 c1 c2 c3 c4 c5 c6 c7 c8 c9 c10 c11 c12 c13 u0 u1 u2 fu0 fu1 fu2
    obtain ⟨_, c0, c1, c2, c3, c4, c5, c6, c7, c8, c9, c10, c11, c12, c13⟩ := id C
    obtain ⟨_, u0, u1, u2, fu0, fu1, fu2⟩ := id U
    go_wp2
    go_ret
    exact ⟨by simp <;> omega, B⟩

set_option maxRecDepth 100000 in
theorem counts_er (c : CalZ) (L y i k er : Int) (l : List U3) (w : World) (tb : FTab w) (wk : (Lit.int .i64 k).wf = true) (hm : c.nm.size ≤ maxLen) (dl : decide ((100 : Int) < (c.nm.size : Int)) = false) (d6 : (c.k == 6) = false) (d3 : decide (k < -400) = false) (d4 : decide (400 < k) = false) (R : TwA c L y i k l er) (ne : er ≠ 0) :
    Calls Tryz.prog 3 #[.agg #[.string c.nm, .int .i64 c.k, .int .i64 c.d, .int .i64 c.m, .int .i64 c.s, .int .i64 c.sh, .int .i64 c.p0, .int .i64 c.p1, .int .i64 c.p2, .int .i64 c.cy, .int .i64 c.ex, .int .i64 c.fi, .int .i64 c.la, .int .i64 c.po], .agg #[.int .i64 L, .int .i64 y, .int .i64 i], .int .i64 k] w fun e w' => e = .returned (.bool true) ∧ Below w.heap.size w w' := by
  have T := tb
  have C := CalIn.new w c 24
  have B := balloc (Below.refl _ w) (.cells #[.string c.nm, .int .i64 c.k, .int .i64 c.d, .int .i64 c.m, .int .i64 c.s, .int .i64 c.sh, .int .i64 c.p0, .int .i64 c.p1, .int .i64 c.p2, .int .i64 c.cy, .int .i64 c.ex, .int .i64 c.fi, .int .i64 c.la, .int .i64 c.po] 24)
  replace T := T.alloc (.cells #[.string c.nm, .int .i64 c.k, .int .i64 c.d, .int .i64 c.m, .int .i64 c.s, .int .i64 c.sh, .int .i64 c.p0, .int .i64 c.p1, .int .i64 c.p2, .int .i64 c.cy, .int .i64 c.ex, .int .i64 c.fi, .int .i64 c.la, .int .i64 c.po] 24)
  have U := Go.Proofs.YtoeifpeiogeenaaGreatDoor.Bx.Tri.new (w.alloc (.cells #[.string c.nm, .int .i64 c.k, .int .i64 c.d, .int .i64 c.m, .int .i64 c.s, .int .i64 c.sh, .int .i64 c.p0, .int .i64 c.p1, .int .i64 c.p2, .int .i64 c.cy, .int .i64 c.ex, .int .i64 c.fi, .int .i64 c.la, .int .i64 c.po] 24)) (.int .i64 L) (.int .i64 y) (.int .i64 i) 26
  rw [World.size_alloc] at U
  replace C := C.alloc (.cells #[.int .i64 L, .int .i64 y, .int .i64 i] 26)
  replace B := balloc B (.cells #[.int .i64 L, .int .i64 y, .int .i64 i] 26)
  replace T := T.alloc (.cells #[.int .i64 L, .int .i64 y, .int .i64 i] 26)
  have cw := fun w T => Weeks_er c L y i k er l w R ne wk hm T
  have n1 : (er != 0) = true := bne_iff_ne.2 ne
  clear R ne
  go_enter Tryz.func3, Tryz.ntmps3
  go_upto_region 1 with fail
  generalize (w.alloc (.cells #[.string c.nm, .int .i64 c.k, .int .i64 c.d, .int .i64 c.m, .int .i64 c.s, .int .i64 c.sh, .int .i64 c.p0, .int .i64 c.p1, .int .i64 c.p2, .int .i64 c.cy, .int .i64 c.ex, .int .i64 c.fi, .int .i64 c.la, .int .i64 c.po] 24)).alloc (.cells #[.int .i64 L, .int .i64 y, .int .i64 i] 26) = W0 at *
  obtain ⟨_, c0, c1, c2, c3, c4, c5, c6, c7, c8, c9, c10, c11, c12, c13⟩ := id C
  obtain ⟨_, u0, u1, u2, fu0, fu1, fu2⟩ := id U
  go_wp2_with fail
  refine (blive_ok _ T).mono ?_
  rintro e w1 ⟨rfl, hb⟩
  replace C := C.kept hb
  replace B := bthen B hb
  replace T := T.kept hb
  replace U := U.kept hb
  clear hb c0 c1 c2 c3 c4 c5 c6 c7 c8 c9 c10 c11 c12 c13 u0 u1 u2 fu0 fu1 fu2
  obtain ⟨_, c0, c1, c2, c3, c4, c5, c6, c7, c8, c9, c10, c11, c12, c13⟩ := id C
  obtain ⟨_, u0, u1, u2, fu0, fu1, fu2⟩ := id U
  go_wp2_with fail
  refine (cw _ T).mono ?_
  rintro e w2 ⟨rfl, hb⟩
  replace C := C.kept hb
  replace B := bthen B hb
  replace T := T.kept hb
  replace U := U.kept hb
  clear hb c0 c1 c2 c3 c4 c5 c6 c7 c8 c9 c10 c11 c12 c13 u0 u1 u2 fu0 fu1 fu2
  obtain ⟨_, c0, c1, c2, c3, c4, c5, c6, c7, c8, c9, c10, c11, c12, c13⟩ := id C
  obtain ⟨_, u0, u1, u2, fu0, fu1, fu2⟩ := id U
  go_wp2
  go_ret
  exact ⟨by simp <;> omega, B⟩

set_option maxRecDepth 100000 in
theorem counts_ok1 (c : CalZ) (L y i k a b ad at' : Int) (l : List U3) (w : World) (tb : FTab w) (hm : c.nm.size ≤ maxLen) (dl : decide ((100 : Int) < (c.nm.size : Int)) = false) (d6 : (c.k == 6) = false) (d3 : decide (k < -400) = false) (d4 : decide (400 < k) = false) (R : TwA c L y i k l 0)
    (D : DownA c L y i 5 5 y a b 0) (A1 : AddedA c y ad 0) (A2 : AddedA c (y + k) at' 0) (y0 : 1601 ≤ y) (y1 : y ≤ 9997) (t0 : 1601 ≤ y + k) (t1 : y + k ≤ 9997) (a0 : 1 ≤ a) (ab : a ≤ b) (b53 : b ≤ 53) (l60 : l.length ≤ 60) (ad0 : 0 ≤ ad) (ad1 : ad ≤ 53) (at0 : 0 ≤ at') (at1 : at' ≤ 53)
    (e1 : (c.po == 3) = false) (ln : (l.length : Int) = b - a + 1) :
    Calls Tryz.prog 3 #[.agg #[.string c.nm, .int .i64 c.k, .int .i64 c.d, .int .i64 c.m, .int .i64 c.s, .int .i64 c.sh, .int .i64 c.p0, .int .i64 c.p1, .int .i64 c.p2, .int .i64 c.cy, .int .i64 c.ex, .int .i64 c.fi, .int .i64 c.la, .int .i64 c.po], .agg #[.int .i64 L, .int .i64 y, .int .i64 i], .int .i64 k] w fun e w' => e = .returned (.bool true) ∧ Below w.heap.size w w' := by
  have T := tb
  have C := CalIn.new w c 24
  have B := balloc (Below.refl _ w) (.cells #[.string c.nm, .int .i64 c.k, .int .i64 c.d, .int .i64 c.m, .int .i64 c.s, .int .i64 c.sh, .int .i64 c.p0, .int .i64 c.p1, .int .i64 c.p2, .int .i64 c.cy, .int .i64 c.ex, .int .i64 c.fi, .int .i64 c.la, .int .i64 c.po] 24)
  replace T := T.alloc (.cells #[.string c.nm, .int .i64 c.k, .int .i64 c.d, .int .i64 c.m, .int .i64 c.s, .int .i64 c.sh, .int .i64 c.p0, .int .i64 c.p1, .int .i64 c.p2, .int .i64 c.cy, .int .i64 c.ex, .int .i64 c.fi, .int .i64 c.la, .int .i64 c.po] 24)
  have U := Go.Proofs.YtoeifpeiogeenaaGreatDoor.Bx.Tri.new (w.alloc (.cells #[.string c.nm, .int .i64 c.k, .int .i64 c.d, .int .i64 c.m, .int .i64 c.s, .int .i64 c.sh, .int .i64 c.p0, .int .i64 c.p1, .int .i64 c.p2, .int .i64 c.cy, .int .i64 c.ex, .int .i64 c.fi, .int .i64 c.la, .int .i64 c.po] 24)) (.int .i64 L) (.int .i64 y) (.int .i64 i) 26
  rw [World.size_alloc] at U
  replace C := C.alloc (.cells #[.int .i64 L, .int .i64 y, .int .i64 i] 26)
  replace B := balloc B (.cells #[.int .i64 L, .int .i64 y, .int .i64 i] 26)
  replace T := T.alloc (.cells #[.int .i64 L, .int .i64 y, .int .i64 i] 26)
  have cw := fun w T => Weeks_ok c L y i k l w R hm T
  have cd := fun w T => Down_any c L y i 5 5 y a b 0 w D hm T
  have c1' := fun w T => Added_any c y ad 0 w A1 hm T
  have c2' := fun w T => Added_any c (y + k) at' 0 w A2 hm T
  obtain ⟨N, hN⟩ : ∃ N, N = l.length := ⟨_, rfl⟩
  clear R D A1 A2
  have ln2 := Lib.hid ln
  clear ln
  go_enter Tryz.func3, Tryz.ntmps3
  go_upto_region 1 with fail
  generalize (w.alloc (.cells #[.string c.nm, .int .i64 c.k, .int .i64 c.d, .int .i64 c.m, .int .i64 c.s, .int .i64 c.sh, .int .i64 c.p0, .int .i64 c.p1, .int .i64 c.p2, .int .i64 c.cy, .int .i64 c.ex, .int .i64 c.fi, .int .i64 c.la, .int .i64 c.po] 24)).alloc (.cells #[.int .i64 L, .int .i64 y, .int .i64 i] 26) = W0 at *
  obtain ⟨_, c0, c1, c2, c3, c4, c5, c6, c7, c8, c9, c10, c11, c12, c13⟩ := id C
  obtain ⟨_, u0, u1, u2, fu0, fu1, fu2⟩ := id U
  go_wp2_with fail
  refine (blive_ok _ T).mono ?_
  rintro e w1 ⟨rfl, hb⟩
  replace C := C.kept hb
  replace B := bthen B hb
  replace T := T.kept hb
  replace U := U.kept hb
  clear hb c0 c1 c2 c3 c4 c5 c6 c7 c8 c9 c10 c11 c12 c13 u0 u1 u2 fu0 fu1 fu2
  obtain ⟨_, c0, c1, c2, c3, c4, c5, c6, c7, c8, c9, c10, c11, c12, c13⟩ := id C
  obtain ⟨_, u0, u1, u2, fu0, fu1, fu2⟩ := id U
  go_wp2_with fail
  refine (cw _ T).mono ?_
  rintro e w2 ⟨g, cap, rfl, Rw, hg, hb, hcap⟩
  replace C := C.kept hb
  replace B := bthen B hb
  replace T := T.kept hb
  replace U := U.kept hb
  clear hb c0 c1 c2 c3 c4 c5 c6 c7 c8 c9 c10 c11 c12 c13 u0 u1 u2 fu0 fu1 fu2
  obtain ⟨_, c0, c1, c2, c3, c4, c5, c6, c7, c8, c9, c10, c11, c12, c13⟩ := id C
  obtain ⟨_, u0, u1, u2, fu0, fu1, fu2⟩ := id U
  rw [← hN]
  clear Rw hg hcap
  go_wp2_with fail
  refine (cd _ T).mono ?_
  rintro e w3 ⟨rfl, hb⟩
  replace C := C.kept hb
  replace B := bthen B hb
  replace T := T.kept hb
  replace U := U.kept hb
  clear hb c0 c1 c2 c3 c4 c5 c6 c7 c8 c9 c10 c11 c12 c13 u0 u1 u2 fu0 fu1 fu2
  obtain ⟨_, c0, c1, c2, c3, c4, c5, c6, c7, c8, c9, c10, c11, c12, c13⟩ := id C
  obtain ⟨_, u0, u1, u2, fu0, fu1, fu2⟩ := id U
  have V := Go.Proofs.YtoeifpeiogeenaaGreatDoor.Bx.Tri.new w3 (.int .i64 5) (.int .i64 y) (.int .i64 a) 26
  replace C := C.alloc (.cells #[.int .i64 5, .int .i64 y, .int .i64 a] 26)
  replace T := T.alloc (.cells #[.int .i64 5, .int .i64 y, .int .i64 a] 26)
  replace U := U.alloc (.cells #[.int .i64 5, .int .i64 y, .int .i64 a] 26)
  replace B := balloc B (.cells #[.int .i64 5, .int .i64 y, .int .i64 a] 26)
  clear c0 c1 c2 c3 c4 c5 c6 c7 c8 c9 c10 c11 c12 c13 u0 u1 u2 fu0 fu1 fu2
  obtain ⟨_, c0, c1, c2, c3, c4, c5, c6, c7, c8, c9, c10, c11, c12, c13⟩ := id C
  obtain ⟨_, u0, u1, u2, fu0, fu1, fu2⟩ := id U
  obtain ⟨_, v0, v1, v2, fv0, fv1, fv2⟩ := id V
  have X := Go.Proofs.YtoeifpeiogeenaaGreatDoor.Bx.Tri.new (w3.alloc (.cells #[.int .i64 5, .int .i64 y, .int .i64 a] 26)) (.int .i64 5) (.int .i64 y) (.int .i64 b) 26
  rw [World.size_alloc] at X
  replace C := C.alloc (.cells #[.int .i64 5, .int .i64 y, .int .i64 b] 26)
  replace T := T.alloc (.cells #[.int .i64 5, .int .i64 y, .int .i64 b] 26)
  replace U := U.alloc (.cells #[.int .i64 5, .int .i64 y, .int .i64 b] 26)
  replace V := V.alloc (.cells #[.int .i64 5, .int .i64 y, .int .i64 b] 26)
  replace B := balloc B (.cells #[.int .i64 5, .int .i64 y, .int .i64 b] 26)
  clear c0 c1 c2 c3 c4 c5 c6 c7 c8 c9 c10 c11 c12 c13 u0 u1 u2 fu0 fu1 fu2 v0 v1 v2 fv0 fv1 fv2
  obtain ⟨_, c0, c1, c2, c3, c4, c5, c6, c7, c8, c9, c10, c11, c12, c13⟩ := id C
  obtain ⟨_, u0, u1, u2, fu0, fu1, fu2⟩ := id U
  obtain ⟨_, v0, v1, v2, fv0, fv1, fv2⟩ := id V
  obtain ⟨_, x0, x1, x2, fx0, fx1, fx2⟩ := id X
  go_wp2_with fail
  refine (c1' _ T).mono ?_
  rintro e w4 ⟨rfl, hb⟩
  replace C := C.kept hb
  replace B := bthen B hb
  replace T := T.kept hb
  replace U := U.kept hb
  replace V := V.kept hb
  replace X := X.kept hb
  clear hb c0 c1 c2 c3 c4 c5 c6 c7 c8 c9 c10 c11 c12 c13 u0 u1 u2 fu0 fu1 fu2 v0 v1 v2 fv0 fv1 fv2 x0 x1 x2 fx0 fx1 fx2
  obtain ⟨_, c0, c1, c2, c3, c4, c5, c6, c7, c8, c9, c10, c11, c12, c13⟩ := id C
  obtain ⟨_, u0, u1, u2, fu0, fu1, fu2⟩ := id U
  obtain ⟨_, v0, v1, v2, fv0, fv1, fv2⟩ := id V
  obtain ⟨_, x0, x1, x2, fx0, fx1, fx2⟩ := id X
  go_wp2_with fail
  refine (c2' _ T).mono ?_
  rintro e w5 ⟨rfl, hb⟩
  replace C := C.kept hb
  replace B := bthen B hb
  replace T := T.kept hb
  replace U := U.kept hb
  replace V := V.kept hb
  replace X := X.kept hb
  clear hb c0 c1 c2 c3 c4 c5 c6 c7 c8 c9 c10 c11 c12 c13 u0 u1 u2 fu0 fu1 fu2 v0 v1 v2 fv0 fv1 fv2 x0 x1 x2 fx0 fx1 fx2
  obtain ⟨_, c0, c1, c2, c3, c4, c5, c6, c7, c8, c9, c10, c11, c12, c13⟩ := id C
  obtain ⟨_, u0, u1, u2, fu0, fu1, fu2⟩ := id U
  obtain ⟨_, v0, v1, v2, fv0, fv1, fv2⟩ := id V
  obtain ⟨_, x0, x1, x2, fx0, fx1, fx2⟩ := id X
  go_wp2
  go_ret
  have := ln2.out
  exact ⟨by simp <;> omega, B⟩

set_option maxRecDepth 100000 in
theorem counts_ok2 (c : CalZ) (L y i k a b ad at' : Int) (l : List U3) (w : World) (tb : FTab w) (hm : c.nm.size ≤ maxLen) (dl : decide ((100 : Int) < (c.nm.size : Int)) = false) (d6 : (c.k == 6) = false) (d3 : decide (k < -400) = false) (d4 : decide (400 < k) = false) (R : TwA c L y i k l 0)
    (D : DownA c L y i 5 5 y a b 0) (A1 : AddedA c y ad 0) (A2 : AddedA c (y + k) at' 0) (y0 : 1601 ≤ y) (y1 : y ≤ 9997) (t0 : 1601 ≤ y + k) (t1 : y + k ≤ 9997) (a0 : 1 ≤ a) (ab : a ≤ b) (b53 : b ≤ 53) (l60 : l.length ≤ 60) (ad0 : 0 ≤ ad) (ad1 : ad ≤ 53) (at0 : 0 ≤ at') (at1 : at' ≤ 53)
    (e1 : (c.po == 3) = true) (e2 : decide (0 < ad) = false) (ln : (l.length : Int) = b - a + 1) :
    Calls Tryz.prog 3 #[.agg #[.string c.nm, .int .i64 c.k, .int .i64 c.d, .int .i64 c.m, .int .i64 c.s, .int .i64 c.sh, .int .i64 c.p0, .int .i64 c.p1, .int .i64 c.p2, .int .i64 c.cy, .int .i64 c.ex, .int .i64 c.fi, .int .i64 c.la, .int .i64 c.po], .agg #[.int .i64 L, .int .i64 y, .int .i64 i], .int .i64 k] w fun e w' => e = .returned (.bool true) ∧ Below w.heap.size w w' := by
  have T := tb
  have C := CalIn.new w c 24
  have B := balloc (Below.refl _ w) (.cells #[.string c.nm, .int .i64 c.k, .int .i64 c.d, .int .i64 c.m, .int .i64 c.s, .int .i64 c.sh, .int .i64 c.p0, .int .i64 c.p1, .int .i64 c.p2, .int .i64 c.cy, .int .i64 c.ex, .int .i64 c.fi, .int .i64 c.la, .int .i64 c.po] 24)
  replace T := T.alloc (.cells #[.string c.nm, .int .i64 c.k, .int .i64 c.d, .int .i64 c.m, .int .i64 c.s, .int .i64 c.sh, .int .i64 c.p0, .int .i64 c.p1, .int .i64 c.p2, .int .i64 c.cy, .int .i64 c.ex, .int .i64 c.fi, .int .i64 c.la, .int .i64 c.po] 24)
  have U := Go.Proofs.YtoeifpeiogeenaaGreatDoor.Bx.Tri.new (w.alloc (.cells #[.string c.nm, .int .i64 c.k, .int .i64 c.d, .int .i64 c.m, .int .i64 c.s, .int .i64 c.sh, .int .i64 c.p0, .int .i64 c.p1, .int .i64 c.p2, .int .i64 c.cy, .int .i64 c.ex, .int .i64 c.fi, .int .i64 c.la, .int .i64 c.po] 24)) (.int .i64 L) (.int .i64 y) (.int .i64 i) 26
  rw [World.size_alloc] at U
  replace C := C.alloc (.cells #[.int .i64 L, .int .i64 y, .int .i64 i] 26)
  replace B := balloc B (.cells #[.int .i64 L, .int .i64 y, .int .i64 i] 26)
  replace T := T.alloc (.cells #[.int .i64 L, .int .i64 y, .int .i64 i] 26)
  have cw := fun w T => Weeks_ok c L y i k l w R hm T
  have cd := fun w T => Down_any c L y i 5 5 y a b 0 w D hm T
  have c1' := fun w T => Added_any c y ad 0 w A1 hm T
  have c2' := fun w T => Added_any c (y + k) at' 0 w A2 hm T
  obtain ⟨N, hN⟩ : ∃ N, N = l.length := ⟨_, rfl⟩
  clear R D A1 A2
  have ln2 := Lib.hid ln
  clear ln
  go_enter Tryz.func3, Tryz.ntmps3
  go_upto_region 1 with fail
  generalize (w.alloc (.cells #[.string c.nm, .int .i64 c.k, .int .i64 c.d, .int .i64 c.m, .int .i64 c.s, .int .i64 c.sh, .int .i64 c.p0, .int .i64 c.p1, .int .i64 c.p2, .int .i64 c.cy, .int .i64 c.ex, .int .i64 c.fi, .int .i64 c.la, .int .i64 c.po] 24)).alloc (.cells #[.int .i64 L, .int .i64 y, .int .i64 i] 26) = W0 at *
  obtain ⟨_, c0, c1, c2, c3, c4, c5, c6, c7, c8, c9, c10, c11, c12, c13⟩ := id C
  obtain ⟨_, u0, u1, u2, fu0, fu1, fu2⟩ := id U
  go_wp2_with fail
  refine (blive_ok _ T).mono ?_
  rintro e w1 ⟨rfl, hb⟩
  replace C := C.kept hb
  replace B := bthen B hb
  replace T := T.kept hb
  replace U := U.kept hb
  clear hb c0 c1 c2 c3 c4 c5 c6 c7 c8 c9 c10 c11 c12 c13 u0 u1 u2 fu0 fu1 fu2
  obtain ⟨_, c0, c1, c2, c3, c4, c5, c6, c7, c8, c9, c10, c11, c12, c13⟩ := id C
  obtain ⟨_, u0, u1, u2, fu0, fu1, fu2⟩ := id U
  go_wp2_with fail
  refine (cw _ T).mono ?_
  rintro e w2 ⟨g, cap, rfl, Rw, hg, hb, hcap⟩
  replace C := C.kept hb
  replace B := bthen B hb
  replace T := T.kept hb
  replace U := U.kept hb
  clear hb c0 c1 c2 c3 c4 c5 c6 c7 c8 c9 c10 c11 c12 c13 u0 u1 u2 fu0 fu1 fu2
  obtain ⟨_, c0, c1, c2, c3, c4, c5, c6, c7, c8, c9, c10, c11, c12, c13⟩ := id C
  obtain ⟨_, u0, u1, u2, fu0, fu1, fu2⟩ := id U
  rw [← hN]
  clear Rw hg hcap
  go_wp2_with fail
  refine (cd _ T).mono ?_
  rintro e w3 ⟨rfl, hb⟩
  replace C := C.kept hb
  replace B := bthen B hb
  replace T := T.kept hb
  replace U := U.kept hb
  clear hb c0 c1 c2 c3 c4 c5 c6 c7 c8 c9 c10 c11 c12 c13 u0 u1 u2 fu0 fu1 fu2
  obtain ⟨_, c0, c1, c2, c3, c4, c5, c6, c7, c8, c9, c10, c11, c12, c13⟩ := id C
  obtain ⟨_, u0, u1, u2, fu0, fu1, fu2⟩ := id U
  have V := Go.Proofs.YtoeifpeiogeenaaGreatDoor.Bx.Tri.new w3 (.int .i64 5) (.int .i64 y) (.int .i64 a) 26
  replace C := C.alloc (.cells #[.int .i64 5, .int .i64 y, .int .i64 a] 26)
  replace T := T.alloc (.cells #[.int .i64 5, .int .i64 y, .int .i64 a] 26)
  replace U := U.alloc (.cells #[.int .i64 5, .int .i64 y, .int .i64 a] 26)
  replace B := balloc B (.cells #[.int .i64 5, .int .i64 y, .int .i64 a] 26)
  clear c0 c1 c2 c3 c4 c5 c6 c7 c8 c9 c10 c11 c12 c13 u0 u1 u2 fu0 fu1 fu2
  obtain ⟨_, c0, c1, c2, c3, c4, c5, c6, c7, c8, c9, c10, c11, c12, c13⟩ := id C
  obtain ⟨_, u0, u1, u2, fu0, fu1, fu2⟩ := id U
  obtain ⟨_, v0, v1, v2, fv0, fv1, fv2⟩ := id V
  have X := Go.Proofs.YtoeifpeiogeenaaGreatDoor.Bx.Tri.new (w3.alloc (.cells #[.int .i64 5, .int .i64 y, .int .i64 a] 26)) (.int .i64 5) (.int .i64 y) (.int .i64 b) 26
  rw [World.size_alloc] at X
  replace C := C.alloc (.cells #[.int .i64 5, .int .i64 y, .int .i64 b] 26)
  replace T := T.alloc (.cells #[.int .i64 5, .int .i64 y, .int .i64 b] 26)
  replace U := U.alloc (.cells #[.int .i64 5, .int .i64 y, .int .i64 b] 26)
  replace V := V.alloc (.cells #[.int .i64 5, .int .i64 y, .int .i64 b] 26)
  replace B := balloc B (.cells #[.int .i64 5, .int .i64 y, .int .i64 b] 26)
  clear c0 c1 c2 c3 c4 c5 c6 c7 c8 c9 c10 c11 c12 c13 u0 u1 u2 fu0 fu1 fu2 v0 v1 v2 fv0 fv1 fv2
  obtain ⟨_, c0, c1, c2, c3, c4, c5, c6, c7, c8, c9, c10, c11, c12, c13⟩ := id C
  obtain ⟨_, u0, u1, u2, fu0, fu1, fu2⟩ := id U
  obtain ⟨_, v0, v1, v2, fv0, fv1, fv2⟩ := id V
  obtain ⟨_, x0, x1, x2, fx0, fx1, fx2⟩ := id X
  go_wp2_with fail
  refine (c1' _ T).mono ?_
  rintro e w4 ⟨rfl, hb⟩
  replace C := C.kept hb
  replace B := bthen B hb
  replace T := T.kept hb
  replace U := U.kept hb
  replace V := V.kept hb
  replace X := X.kept hb
  clear hb c0 c1 c2 c3 c4 c5 c6 c7 c8 c9 c10 c11 c12 c13 u0 u1 u2 fu0 fu1 fu2 v0 v1 v2 fv0 fv1 fv2 x0 x1 x2 fx0 fx1 fx2
  obtain ⟨_, c0, c1, c2, c3, c4, c5, c6, c7, c8, c9, c10, c11, c12, c13⟩ := id C
  obtain ⟨_, u0, u1, u2, fu0, fu1, fu2⟩ := id U
  obtain ⟨_, v0, v1, v2, fv0, fv1, fv2⟩ := id V
  obtain ⟨_, x0, x1, x2, fx0, fx1, fx2⟩ := id X
  go_wp2_with fail
  refine (c2' _ T).mono ?_
  rintro e w5 ⟨rfl, hb⟩
  replace C := C.kept hb
  replace B := bthen B hb
  replace T := T.kept hb
  replace U := U.kept hb
  replace V := V.kept hb
  replace X := X.kept hb
  clear hb c0 c1 c2 c3 c4 c5 c6 c7 c8 c9 c10 c11 c12 c13 u0 u1 u2 fu0 fu1 fu2 v0 v1 v2 fv0 fv1 fv2 x0 x1 x2 fx0 fx1 fx2
  obtain ⟨_, c0, c1, c2, c3, c4, c5, c6, c7, c8, c9, c10, c11, c12, c13⟩ := id C
  obtain ⟨_, u0, u1, u2, fu0, fu1, fu2⟩ := id U
  obtain ⟨_, v0, v1, v2, fv0, fv1, fv2⟩ := id V
  obtain ⟨_, x0, x1, x2, fx0, fx1, fx2⟩ := id X
  go_wp2
  go_ret
  have := ln2.out
  exact ⟨by simp <;> omega, B⟩

set_option maxRecDepth 100000 in
theorem counts_ok3 (c : CalZ) (L y i k a b ad at' : Int) (l : List U3) (w : World) (tb : FTab w) (hm : c.nm.size ≤ maxLen) (dl : decide ((100 : Int) < (c.nm.size : Int)) = false) (d6 : (c.k == 6) = false) (d3 : decide (k < -400) = false) (d4 : decide (400 < k) = false) (R : TwA c L y i k l 0)
    (D : DownA c L y i 5 5 y a b 0) (A1 : AddedA c y ad 0) (A2 : AddedA c (y + k) at' 0) (y0 : 1601 ≤ y) (y1 : y ≤ 9997) (t0 : 1601 ≤ y + k) (t1 : y + k ≤ 9997) (a0 : 1 ≤ a) (ab : a ≤ b) (b53 : b ≤ 53) (l60 : l.length ≤ 60) (ad0 : 0 ≤ ad) (ad1 : ad ≤ 53) (at0 : 0 ≤ at') (at1 : at' ≤ 53)
    (e1 : (c.po == 3) = true) (e2 : decide (0 < ad) = true) (e3 : (at' == 0) = false) (ln : (l.length : Int) = b - a + 1) :
    Calls Tryz.prog 3 #[.agg #[.string c.nm, .int .i64 c.k, .int .i64 c.d, .int .i64 c.m, .int .i64 c.s, .int .i64 c.sh, .int .i64 c.p0, .int .i64 c.p1, .int .i64 c.p2, .int .i64 c.cy, .int .i64 c.ex, .int .i64 c.fi, .int .i64 c.la, .int .i64 c.po], .agg #[.int .i64 L, .int .i64 y, .int .i64 i], .int .i64 k] w fun e w' => e = .returned (.bool true) ∧ Below w.heap.size w w' := by
  have T := tb
  have C := CalIn.new w c 24
  have B := balloc (Below.refl _ w) (.cells #[.string c.nm, .int .i64 c.k, .int .i64 c.d, .int .i64 c.m, .int .i64 c.s, .int .i64 c.sh, .int .i64 c.p0, .int .i64 c.p1, .int .i64 c.p2, .int .i64 c.cy, .int .i64 c.ex, .int .i64 c.fi, .int .i64 c.la, .int .i64 c.po] 24)
  replace T := T.alloc (.cells #[.string c.nm, .int .i64 c.k, .int .i64 c.d, .int .i64 c.m, .int .i64 c.s, .int .i64 c.sh, .int .i64 c.p0, .int .i64 c.p1, .int .i64 c.p2, .int .i64 c.cy, .int .i64 c.ex, .int .i64 c.fi, .int .i64 c.la, .int .i64 c.po] 24)
  have U := Go.Proofs.YtoeifpeiogeenaaGreatDoor.Bx.Tri.new (w.alloc (.cells #[.string c.nm, .int .i64 c.k, .int .i64 c.d, .int .i64 c.m, .int .i64 c.s, .int .i64 c.sh, .int .i64 c.p0, .int .i64 c.p1, .int .i64 c.p2, .int .i64 c.cy, .int .i64 c.ex, .int .i64 c.fi, .int .i64 c.la, .int .i64 c.po] 24)) (.int .i64 L) (.int .i64 y) (.int .i64 i) 26
  rw [World.size_alloc] at U
  replace C := C.alloc (.cells #[.int .i64 L, .int .i64 y, .int .i64 i] 26)
  replace B := balloc B (.cells #[.int .i64 L, .int .i64 y, .int .i64 i] 26)
  replace T := T.alloc (.cells #[.int .i64 L, .int .i64 y, .int .i64 i] 26)
  have cw := fun w T => Weeks_ok c L y i k l w R hm T
  have cd := fun w T => Down_any c L y i 5 5 y a b 0 w D hm T
  have c1' := fun w T => Added_any c y ad 0 w A1 hm T
  have c2' := fun w T => Added_any c (y + k) at' 0 w A2 hm T
  obtain ⟨N, hN⟩ : ∃ N, N = l.length := ⟨_, rfl⟩
  clear R D A1 A2
  have ln2 := Lib.hid ln
  clear ln
  go_enter Tryz.func3, Tryz.ntmps3
  go_upto_region 1 with fail
  generalize (w.alloc (.cells #[.string c.nm, .int .i64 c.k, .int .i64 c.d, .int .i64 c.m, .int .i64 c.s, .int .i64 c.sh, .int .i64 c.p0, .int .i64 c.p1, .int .i64 c.p2, .int .i64 c.cy, .int .i64 c.ex, .int .i64 c.fi, .int .i64 c.la, .int .i64 c.po] 24)).alloc (.cells #[.int .i64 L, .int .i64 y, .int .i64 i] 26) = W0 at *
  obtain ⟨_, c0, c1, c2, c3, c4, c5, c6, c7, c8, c9, c10, c11, c12, c13⟩ := id C
  obtain ⟨_, u0, u1, u2, fu0, fu1, fu2⟩ := id U
  go_wp2_with fail
  refine (blive_ok _ T).mono ?_
  rintro e w1 ⟨rfl, hb⟩
  replace C := C.kept hb
  replace B := bthen B hb
  replace T := T.kept hb
  replace U := U.kept hb
  clear hb c0 c1 c2 c3 c4 c5 c6 c7 c8 c9 c10 c11 c12 c13 u0 u1 u2 fu0 fu1 fu2
  obtain ⟨_, c0, c1, c2, c3, c4, c5, c6, c7, c8, c9, c10, c11, c12, c13⟩ := id C
  obtain ⟨_, u0, u1, u2, fu0, fu1, fu2⟩ := id U
  go_wp2_with fail
  refine (cw _ T).mono ?_
  rintro e w2 ⟨g, cap, rfl, Rw, hg, hb, hcap⟩
  replace C := C.kept hb
  replace B := bthen B hb
  replace T := T.kept hb
  replace U := U.kept hb
  clear hb c0 c1 c2 c3 c4 c5 c6 c7 c8 c9 c10 c11 c12 c13 u0 u1 u2 fu0 fu1 fu2
  obtain ⟨_, c0, c1, c2, c3, c4, c5, c6, c7, c8, c9, c10, c11, c12, c13⟩ := id C
  obtain ⟨_, u0, u1, u2, fu0, fu1, fu2⟩ := id U
  rw [← hN]
  clear Rw hg hcap
  go_wp2_with fail
  refine (cd _ T).mono ?_
  rintro e w3 ⟨rfl, hb⟩
  replace C := C.kept hb
  replace B := bthen B hb
  replace T := T.kept hb
  replace U := U.kept hb
  clear hb c0 c1 c2 c3 c4 c5 c6 c7 c8 c9 c10 c11 c12 c13 u0 u1 u2 fu0 fu1 fu2
  obtain ⟨_, c0, c1, c2, c3, c4, c5, c6, c7, c8, c9, c10, c11, c12, c13⟩ := id C
  obtain ⟨_, u0, u1, u2, fu0, fu1, fu2⟩ := id U
  have V := Go.Proofs.YtoeifpeiogeenaaGreatDoor.Bx.Tri.new w3 (.int .i64 5) (.int .i64 y) (.int .i64 a) 26
  replace C := C.alloc (.cells #[.int .i64 5, .int .i64 y, .int .i64 a] 26)
  replace T := T.alloc (.cells #[.int .i64 5, .int .i64 y, .int .i64 a] 26)
  replace U := U.alloc (.cells #[.int .i64 5, .int .i64 y, .int .i64 a] 26)
  replace B := balloc B (.cells #[.int .i64 5, .int .i64 y, .int .i64 a] 26)
  clear c0 c1 c2 c3 c4 c5 c6 c7 c8 c9 c10 c11 c12 c13 u0 u1 u2 fu0 fu1 fu2
  obtain ⟨_, c0, c1, c2, c3, c4, c5, c6, c7, c8, c9, c10, c11, c12, c13⟩ := id C
  obtain ⟨_, u0, u1, u2, fu0, fu1, fu2⟩ := id U
  obtain ⟨_, v0, v1, v2, fv0, fv1, fv2⟩ := id V
  have X := Go.Proofs.YtoeifpeiogeenaaGreatDoor.Bx.Tri.new (w3.alloc (.cells #[.int .i64 5, .int .i64 y, .int .i64 a] 26)) (.int .i64 5) (.int .i64 y) (.int .i64 b) 26
  rw [World.size_alloc] at X
  replace C := C.alloc (.cells #[.int .i64 5, .int .i64 y, .int .i64 b] 26)
  replace T := T.alloc (.cells #[.int .i64 5, .int .i64 y, .int .i64 b] 26)
  replace U := U.alloc (.cells #[.int .i64 5, .int .i64 y, .int .i64 b] 26)
  replace V := V.alloc (.cells #[.int .i64 5, .int .i64 y, .int .i64 b] 26)
  replace B := balloc B (.cells #[.int .i64 5, .int .i64 y, .int .i64 b] 26)
  clear c0 c1 c2 c3 c4 c5 c6 c7 c8 c9 c10 c11 c12 c13 u0 u1 u2 fu0 fu1 fu2 v0 v1 v2 fv0 fv1 fv2
  obtain ⟨_, c0, c1, c2, c3, c4, c5, c6, c7, c8, c9, c10, c11, c12, c13⟩ := id C
  obtain ⟨_, u0, u1, u2, fu0, fu1, fu2⟩ := id U
  obtain ⟨_, v0, v1, v2, fv0, fv1, fv2⟩ := id V
  obtain ⟨_, x0, x1, x2, fx0, fx1, fx2⟩ := id X
  go_wp2_with fail
  refine (c1' _ T).mono ?_
  rintro e w4 ⟨rfl, hb⟩
  replace C := C.kept hb
  replace B := bthen B hb
  replace T := T.kept hb
  replace U := U.kept hb
  replace V := V.kept hb
  replace X := X.kept hb
  clear hb c0 c1 c2 c3 c4 c5 c6 c7 c8 c9 c10 c11 c12 c13 u0 u1 u2 fu0 fu1 fu2 v0 v1 v2 fv0 fv1 fv2 x0 x1 x2 fx0 fx1 fx2
  obtain ⟨_, c0, c1, c2, c3, c4, c5, c6, c7, c8, c9, c10, c11, c12, c13⟩ := id C
  obtain ⟨_, u0, u1, u2, fu0, fu1, fu2⟩ := id U
  obtain ⟨_, v0, v1, v2, fv0, fv1, fv2⟩ := id V
  obtain ⟨_, x0, x1, x2, fx0, fx1, fx2⟩ := id X
  go_wp2_with fail
  refine (c2' _ T).mono ?_
  rintro e w5 ⟨rfl, hb⟩
  replace C := C.kept hb
  replace B := bthen B hb
  replace T := T.kept hb
  replace U := U.kept hb
  replace V := V.kept hb
  replace X := X.kept hb
  clear hb c0 c1 c2 c3 c4 c5 c6 c7 c8 c9 c10 c11 c12 c13 u0 u1 u2 fu0 fu1 fu2 v0 v1 v2 fv0 fv1 fv2 x0 x1 x2 fx0 fx1 fx2
  obtain ⟨_, c0, c1, c2, c3, c4, c5, c6, c7, c8, c9, c10, c11, c12, c13⟩ := id C
  obtain ⟨_, u0, u1, u2, fu0, fu1, fu2⟩ := id U
  obtain ⟨_, v0, v1, v2, fv0, fv1, fv2⟩ := id V
  obtain ⟨_, x0, x1, x2, fx0, fx1, fx2⟩ := id X
  go_wp2
  go_ret
  have := ln2.out
  exact ⟨by simp <;> omega, B⟩

set_option maxRecDepth 100000 in
theorem counts_ok4 (c : CalZ) (L y i k a b ad at' : Int) (l : List U3) (w : World) (tb : FTab w) (hm : c.nm.size ≤ maxLen) (dl : decide ((100 : Int) < (c.nm.size : Int)) = false) (d6 : (c.k == 6) = false) (d3 : decide (k < -400) = false) (d4 : decide (400 < k) = false) (R : TwA c L y i k l 0)
    (D : DownA c L y i 5 5 y a b 0) (A1 : AddedA c y ad 0) (A2 : AddedA c (y + k) at' 0) (y0 : 1601 ≤ y) (y1 : y ≤ 9997) (t0 : 1601 ≤ y + k) (t1 : y + k ≤ 9997) (a0 : 1 ≤ a) (ab : a ≤ b) (b53 : b ≤ 53) (l60 : l.length ≤ 60) (ad0 : 0 ≤ ad) (ad1 : ad ≤ 53) (at0 : 0 ≤ at') (at1 : at' ≤ 53)
    (e1 : (c.po == 3) = true) (e2 : decide (0 < ad) = true) (e3 : (at' == 0) = true) (e4 : decide (a ≤ ad) = false) (ln : (l.length : Int) = b - a + 1) :
    Calls Tryz.prog 3 #[.agg #[.string c.nm, .int .i64 c.k, .int .i64 c.d, .int .i64 c.m, .int .i64 c.s, .int .i64 c.sh, .int .i64 c.p0, .int .i64 c.p1, .int .i64 c.p2, .int .i64 c.cy, .int .i64 c.ex, .int .i64 c.fi, .int .i64 c.la, .int .i64 c.po], .agg #[.int .i64 L, .int .i64 y, .int .i64 i], .int .i64 k] w fun e w' => e = .returned (.bool true) ∧ Below w.heap.size w w' := by
  have T := tb
  have C := CalIn.new w c 24
  have B := balloc (Below.refl _ w) (.cells #[.string c.nm, .int .i64 c.k, .int .i64 c.d, .int .i64 c.m, .int .i64 c.s, .int .i64 c.sh, .int .i64 c.p0, .int .i64 c.p1, .int .i64 c.p2, .int .i64 c.cy, .int .i64 c.ex, .int .i64 c.fi, .int .i64 c.la, .int .i64 c.po] 24)
  replace T := T.alloc (.cells #[.string c.nm, .int .i64 c.k, .int .i64 c.d, .int .i64 c.m, .int .i64 c.s, .int .i64 c.sh, .int .i64 c.p0, .int .i64 c.p1, .int .i64 c.p2, .int .i64 c.cy, .int .i64 c.ex, .int .i64 c.fi, .int .i64 c.la, .int .i64 c.po] 24)
  have U := Go.Proofs.YtoeifpeiogeenaaGreatDoor.Bx.Tri.new (w.alloc (.cells #[.string c.nm, .int .i64 c.k, .int .i64 c.d, .int .i64 c.m, .int .i64 c.s, .int .i64 c.sh, .int .i64 c.p0, .int .i64 c.p1, .int .i64 c.p2, .int .i64 c.cy, .int .i64 c.ex, .int .i64 c.fi, .int .i64 c.la, .int .i64 c.po] 24)) (.int .i64 L) (.int .i64 y) (.int .i64 i) 26
  rw [World.size_alloc] at U
  replace C := C.alloc (.cells #[.int .i64 L, .int .i64 y, .int .i64 i] 26)
  replace B := balloc B (.cells #[.int .i64 L, .int .i64 y, .int .i64 i] 26)
  replace T := T.alloc (.cells #[.int .i64 L, .int .i64 y, .int .i64 i] 26)
  have cw := fun w T => Weeks_ok c L y i k l w R hm T
  have cd := fun w T => Down_any c L y i 5 5 y a b 0 w D hm T
  have c1' := fun w T => Added_any c y ad 0 w A1 hm T
  have c2' := fun w T => Added_any c (y + k) at' 0 w A2 hm T
  obtain ⟨N, hN⟩ : ∃ N, N = l.length := ⟨_, rfl⟩
  clear R D A1 A2
  have ln2 := Lib.hid ln
  clear ln
  go_enter Tryz.func3, Tryz.ntmps3
  go_upto_region 1 with fail
  generalize (w.alloc (.cells #[.string c.nm, .int .i64 c.k, .int .i64 c.d, .int .i64 c.m, .int .i64 c.s, .int .i64 c.sh, .int .i64 c.p0, .int .i64 c.p1, .int .i64 c.p2, .int .i64 c.cy, .int .i64 c.ex, .int .i64 c.fi, .int .i64 c.la, .int .i64 c.po] 24)).alloc (.cells #[.int .i64 L, .int .i64 y, .int .i64 i] 26) = W0 at *
  obtain ⟨_, c0, c1, c2, c3, c4, c5, c6, c7, c8, c9, c10, c11, c12, c13⟩ := id C
  obtain ⟨_, u0, u1, u2, fu0, fu1, fu2⟩ := id U
  go_wp2_with fail
  refine (blive_ok _ T).mono ?_
  rintro e w1 ⟨rfl, hb⟩
  replace C := C.kept hb
  replace B := bthen B hb
  replace T := T.kept hb
  replace U := U.kept hb
  clear hb c0 c1 c2 c3 c4 c5 c6 c7 c8 c9 c10 c11 c12 c13 u0 u1 u2 fu0 fu1 fu2
  obtain ⟨_, c0, c1, c2, c3, c4, c5, c6, c7, c8, c9, c10, c11, c12, c13⟩ := id C
  obtain ⟨_, u0, u1, u2, fu0, fu1, fu2⟩ := id U
  go_wp2_with fail
  refine (cw _ T).mono ?_
  rintro e w2 ⟨g, cap, rfl, Rw, hg, hb, hcap⟩
  replace C := C.kept hb
  replace B := bthen B hb
  replace T := T.kept hb
  replace U := U.kept hb
  clear hb c0 c1 c2 c3 c4 c5 c6 c7 c8 c9 c10 c11 c12 c13 u0 u1 u2 fu0 fu1 fu2
  obtain ⟨_, c0, c1, c2, c3, c4, c5, c6, c7, c8, c9, c10, c11, c12, c13⟩ := id C
  obtain ⟨_, u0, u1, u2, fu0, fu1, fu2⟩ := id U
  rw [← hN]
  clear Rw hg hcap
  go_wp2_with fail
  refine (cd _ T).mono ?_
  rintro e w3 ⟨rfl, hb⟩
  replace C := C.kept hb
  replace B := bthen B hb
  replace T := T.kept hb
  replace U := U.kept hb
  clear hb c0 c1 c2 c3 c4 c5 c6 c7 c8 c9 c10 c11 c12 c13 u0 u1 u2 fu0 fu1 fu2
  obtain ⟨_, c0, c1, c2, c3, c4, c5, c6, c7, c8, c9, c10, c11, c12, c13⟩ := id C
  obtain ⟨_, u0, u1, u2, fu0, fu1, fu2⟩ := id U
  have V := Go.Proofs.YtoeifpeiogeenaaGreatDoor.Bx.Tri.new w3 (.int .i64 5) (.int .i64 y) (.int .i64 a) 26
  replace C := C.alloc (.cells #[.int .i64 5, .int .i64 y, .int .i64 a] 26)
  replace T := T.alloc (.cells #[.int .i64 5, .int .i64 y, .int .i64 a] 26)
  replace U := U.alloc (.cells #[.int .i64 5, .int .i64 y, .int .i64 a] 26)
  replace B := balloc B (.cells #[.int .i64 5, .int .i64 y, .int .i64 a] 26)
  clear c0 c1 c2 c3 c4 c5 c6 c7 c8 c9 c10 c11 c12 c13 u0 u1 u2 fu0 fu1 fu2
  obtain ⟨_, c0, c1, c2, c3, c4, c5, c6, c7, c8, c9, c10, c11, c12, c13⟩ := id C
  obtain ⟨_, u0, u1, u2, fu0, fu1, fu2⟩ := id U
  obtain ⟨_, v0, v1, v2, fv0, fv1, fv2⟩ := id V
  have X := Go.Proofs.YtoeifpeiogeenaaGreatDoor.Bx.Tri.new (w3.alloc (.cells #[.int .i64 5, .int .i64 y, .int .i64 a] 26)) (.int .i64 5) (.int .i64 y) (.int .i64 b) 26
  rw [World.size_alloc] at X
  replace C := C.alloc (.cells #[.int .i64 5, .int .i64 y, .int .i64 b] 26)
  replace T := T.alloc (.cells #[.int .i64 5, .int .i64 y, .int .i64 b] 26)
  replace U := U.alloc (.cells #[.int .i64 5, .int .i64 y, .int .i64 b] 26)
  replace V := V.alloc (.cells #[.int .i64 5, .int .i64 y, .int .i64 b] 26)
  replace B := balloc B (.cells #[.int .i64 5, .int .i64 y, .int .i64 b] 26)
  clear c0 c1 c2 c3 c4 c5 c6 c7 c8 c9 c10 c11 c12 c13 u0 u1 u2 fu0 fu1 fu2 v0 v1 v2 fv0 fv1 fv2
  obtain ⟨_, c0, c1, c2, c3, c4, c5, c6, c7, c8, c9, c10, c11, c12, c13⟩ := id C
  obtain ⟨_, u0, u1, u2, fu0, fu1, fu2⟩ := id U
  obtain ⟨_, v0, v1, v2, fv0, fv1, fv2⟩ := id V
  obtain ⟨_, x0, x1, x2, fx0, fx1, fx2⟩ := id X
  go_wp2_with fail
  refine (c1' _ T).mono ?_
  rintro e w4 ⟨rfl, hb⟩
  replace C := C.kept hb
  replace B := bthen B hb
  replace T := T.kept hb
  replace U := U.kept hb
  replace V := V.kept hb
  replace X := X.kept hb
  clear hb c0 c1 c2 c3 c4 c5 c6 c7 c8 c9 c10 c11 c12 c13 u0 u1 u2 fu0 fu1 fu2 v0 v1 v2 fv0 fv1 fv2 x0 x1 x2 fx0 fx1 fx2
  obtain ⟨_, c0, c1, c2, c3, c4, c5, c6, c7, c8, c9, c10, c11, c12, c13⟩ := id C
  obtain ⟨_, u0, u1, u2, fu0, fu1, fu2⟩ := id U
  obtain ⟨_, v0, v1, v2, fv0, fv1, fv2⟩ := id V
  obtain ⟨_, x0, x1, x2, fx0, fx1, fx2⟩ := id X
  go_wp2_with fail
  refine (c2' _ T).mono ?_
  rintro e w5 ⟨rfl, hb⟩
  replace C := C.kept hb
  replace B := bthen B hb
  replace T := T.kept hb
  replace U := U.kept hb
  replace V := V.kept hb
  replace X := X.kept hb
  clear hb c0 c1 c2 c3 c4 c5 c6 c7 c8 c9 c10 c11 c12 c13 u0 u1 u2 fu0 fu1 fu2 v0 v1 v2 fv0 fv1 fv2 x0 x1 x2 fx0 fx1 fx2
  obtain ⟨_, c0, c1, c2, c3, c4, c5, c6, c7, c8, c9, c10, c11, c12, c13⟩ := id C
  obtain ⟨_, u0, u1, u2, fu0, fu1, fu2⟩ := id U
  obtain ⟨_, v0, v1, v2, fv0, fv1, fv2⟩ := id V
  obtain ⟨_, x0, x1, x2, fx0, fx1, fx2⟩ := id X
  go_wp2
  go_ret
  have := ln2.out
  exact ⟨by simp <;> omega, B⟩

set_option maxRecDepth 100000 in
theorem counts_ok5 (c : CalZ) (L y i k a b ad at' : Int) (l : List U3) (w : World) (tb : FTab w) (hm : c.nm.size ≤ maxLen) (dl : decide ((100 : Int) < (c.nm.size : Int)) = false) (d6 : (c.k == 6) = false) (d3 : decide (k < -400) = false) (d4 : decide (400 < k) = false) (R : TwA c L y i k l 0)
    (D : DownA c L y i 5 5 y a b 0) (A1 : AddedA c y ad 0) (A2 : AddedA c (y + k) at' 0) (y0 : 1601 ≤ y) (y1 : y ≤ 9997) (t0 : 1601 ≤ y + k) (t1 : y + k ≤ 9997) (a0 : 1 ≤ a) (ab : a ≤ b) (b53 : b ≤ 53) (l60 : l.length ≤ 60) (ad0 : 0 ≤ ad) (ad1 : ad ≤ 53) (at0 : 0 ≤ at') (at1 : at' ≤ 53)
    (e1 : (c.po == 3) = true) (e2 : decide (0 < ad) = true) (e3 : (at' == 0) = true) (e4 : decide (a ≤ ad) = true) (e5 : decide (ad ≤ b) = false) (ln : (l.length : Int) = b - a + 1) :
    Calls Tryz.prog 3 #[.agg #[.string c.nm, .int .i64 c.k, .int .i64 c.d, .int .i64 c.m, .int .i64 c.s, .int .i64 c.sh, .int .i64 c.p0, .int .i64 c.p1, .int .i64 c.p2, .int .i64 c.cy, .int .i64 c.ex, .int .i64 c.fi, .int .i64 c.la, .int .i64 c.po], .agg #[.int .i64 L, .int .i64 y, .int .i64 i], .int .i64 k] w fun e w' => e = .returned (.bool true) ∧ Below w.heap.size w w' := by
  have T := tb
  have C := CalIn.new w c 24
  have B := balloc (Below.refl _ w) (.cells #[.string c.nm, .int .i64 c.k, .int .i64 c.d, .int .i64 c.m, .int .i64 c.s, .int .i64 c.sh, .int .i64 c.p0, .int .i64 c.p1, .int .i64 c.p2, .int .i64 c.cy, .int .i64 c.ex, .int .i64 c.fi, .int .i64 c.la, .int .i64 c.po] 24)
  replace T := T.alloc (.cells #[.string c.nm, .int .i64 c.k, .int .i64 c.d, .int .i64 c.m, .int .i64 c.s, .int .i64 c.sh, .int .i64 c.p0, .int .i64 c.p1, .int .i64 c.p2, .int .i64 c.cy, .int .i64 c.ex, .int .i64 c.fi, .int .i64 c.la, .int .i64 c.po] 24)
  have U := Go.Proofs.YtoeifpeiogeenaaGreatDoor.Bx.Tri.new (w.alloc (.cells #[.string c.nm, .int .i64 c.k, .int .i64 c.d, .int .i64 c.m, .int .i64 c.s, .int .i64 c.sh, .int .i64 c.p0, .int .i64 c.p1, .int .i64 c.p2, .int .i64 c.cy, .int .i64 c.ex, .int .i64 c.fi, .int .i64 c.la, .int .i64 c.po] 24)) (.int .i64 L) (.int .i64 y) (.int .i64 i) 26
  rw [World.size_alloc] at U
  replace C := C.alloc (.cells #[.int .i64 L, .int .i64 y, .int .i64 i] 26)
  replace B := balloc B (.cells #[.int .i64 L, .int .i64 y, .int .i64 i] 26)
  replace T := T.alloc (.cells #[.int .i64 L, .int .i64 y, .int .i64 i] 26)
  have cw := fun w T => Weeks_ok c L y i k l w R hm T
  have cd := fun w T => Down_any c L y i 5 5 y a b 0 w D hm T
  have c1' := fun w T => Added_any c y ad 0 w A1 hm T
  have c2' := fun w T => Added_any c (y + k) at' 0 w A2 hm T
  obtain ⟨N, hN⟩ : ∃ N, N = l.length := ⟨_, rfl⟩
  clear R D A1 A2
  have ln2 := Lib.hid ln
  clear ln
  go_enter Tryz.func3, Tryz.ntmps3
  go_upto_region 1 with fail
  generalize (w.alloc (.cells #[.string c.nm, .int .i64 c.k, .int .i64 c.d, .int .i64 c.m, .int .i64 c.s, .int .i64 c.sh, .int .i64 c.p0, .int .i64 c.p1, .int .i64 c.p2, .int .i64 c.cy, .int .i64 c.ex, .int .i64 c.fi, .int .i64 c.la, .int .i64 c.po] 24)).alloc (.cells #[.int .i64 L, .int .i64 y, .int .i64 i] 26) = W0 at *
  obtain ⟨_, c0, c1, c2, c3, c4, c5, c6, c7, c8, c9, c10, c11, c12, c13⟩ := id C
  obtain ⟨_, u0, u1, u2, fu0, fu1, fu2⟩ := id U
  go_wp2_with fail
  refine (blive_ok _ T).mono ?_
  rintro e w1 ⟨rfl, hb⟩
  replace C := C.kept hb
  replace B := bthen B hb
  replace T := T.kept hb
  replace U := U.kept hb
  clear hb c0 c1 c2 c3 c4 c5 c6 c7 c8 c9 c10 c11 c12 c13 u0 u1 u2 fu0 fu1 fu2
  obtain ⟨_, c0, c1, c2, c3, c4, c5, c6, c7, c8, c9, c10, c11, c12, c13⟩ := id C
  obtain ⟨_, u0, u1, u2, fu0, fu1, fu2⟩ := id U
  go_wp2_with fail
  refine (cw _ T).mono ?_
  rintro e w2 ⟨g, cap, rfl, Rw, hg, hb, hcap⟩
  replace C := C.kept hb
  replace B := bthen B hb
  replace T := T.kept hb
  replace U := U.kept hb
  clear hb c0 c1 c2 c3 c4 c5 c6 c7 c8 c9 c10 c11 c12 c13 u0 u1 u2 fu0 fu1 fu2
  obtain ⟨_, c0, c1, c2, c3, c4, c5, c6, c7, c8, c9, c10, c11, c12, c13⟩ := id C
  obtain ⟨_, u0, u1, u2, fu0, fu1, fu2⟩ := id U
  rw [← hN]
  clear Rw hg hcap
  go_wp2_with fail
  refine (cd _ T).mono ?_
  rintro e w3 ⟨rfl, hb⟩
  replace C := C.kept hb
  replace B := bthen B hb
  replace T := T.kept hb
  replace U := U.kept hb
  clear hb c0 c1 c2 c3 c4 c5 c6 c7 c8 c9 c10 c11 c12 c13 u0 u1 u2 fu0 fu1 fu2
  obtain ⟨_, c0, c1, c2, c3, c4, c5, c6, c7, c8, c9, c10, c11, c12, c13⟩ := id C
  obtain ⟨_, u0, u1, u2, fu0, fu1, fu2⟩ := id U
  have V := Go.Proofs.YtoeifpeiogeenaaGreatDoor.Bx.Tri.new w3 (.int .i64 5) (.int .i64 y) (.int .i64 a) 26
  replace C := C.alloc (.cells #[.int .i64 5, .int .i64 y, .int .i64 a] 26)
  replace T := T.alloc (.cells #[.int .i64 5, .int .i64 y, .int .i64 a] 26)
  replace U := U.alloc (.cells #[.int .i64 5, .int .i64 y, .int .i64 a] 26)
  replace B := balloc B (.cells #[.int .i64 5, .int .i64 y, .int .i64 a] 26)
  clear c0 c1 c2 c3 c4 c5 c6 c7 c8 c9 c10 c11 c12 c13 u0 u1 u2 fu0 fu1 fu2
  obtain ⟨_, c0, c1, c2, c3, c4, c5, c6, c7, c8, c9, c10, c11, c12, c13⟩ := id C
  obtain ⟨_, u0, u1, u2, fu0, fu1, fu2⟩ := id U
  obtain ⟨_, v0, v1, v2, fv0, fv1, fv2⟩ := id V
  have X := Go.Proofs.YtoeifpeiogeenaaGreatDoor.Bx.Tri.new (w3.alloc (.cells #[.int .i64 5, .int .i64 y, .int .i64 a] 26)) (.int .i64 5) (.int .i64 y) (.int .i64 b) 26
  rw [World.size_alloc] at X
  replace C := C.alloc (.cells #[.int .i64 5, .int .i64 y, .int .i64 b] 26)
  replace T := T.alloc (.cells #[.int .i64 5, .int .i64 y, .int .i64 b] 26)
  replace U := U.alloc (.cells #[.int .i64 5, .int .i64 y, .int .i64 b] 26)
  replace V := V.alloc (.cells #[.int .i64 5, .int .i64 y, .int .i64 b] 26)
  replace B := balloc B (.cells #[.int .i64 5, .int .i64 y, .int .i64 b] 26)
  clear c0 c1 c2 c3 c4 c5 c6 c7 c8 c9 c10 c11 c12 c13 u0 u1 u2 fu0 fu1 fu2 v0 v1 v2 fv0 fv1 fv2
  obtain ⟨_, c0, c1, c2, c3, c4, c5, c6, c7, c8, c9, c10, c11, c12, c13⟩ := id C
  obtain ⟨_, u0, u1, u2, fu0, fu1, fu2⟩ := id U
  obtain ⟨_, v0, v1, v2, fv0, fv1, fv2⟩ := id V
  obtain ⟨_, x0, x1, x2, fx0, fx1, fx2⟩ := id X
  go_wp2_with fail
  refine (c1' _ T).mono ?_
  rintro e w4 ⟨rfl, hb⟩
  replace C := C.kept hb
  replace B := bthen B hb
  replace T := T.kept hb
  replace U := U.kept hb
  replace V := V.kept hb
  replace X := X.kept hb
  clear hb c0 c1 c2 c3 c4 c5 c6 c7 c8 c9 c10 c11 c12 c13 u0 u1 u2 fu0 fu1 fu2 v0 v1 v2 fv0 fv1 fv2 x0 x1 x2 fx0 fx1 fx2
  obtain ⟨_, c0, c1, c2, c3, c4, c5, c6, c7, c8, c9, c10, c11, c12, c13⟩ := id C
  obtain ⟨_, u0, u1, u2, fu0, fu1, fu2⟩ := id U
  obtain ⟨_, v0, v1, v2, fv0, fv1, fv2⟩ := id V
  obtain ⟨_, x0, x1, x2, fx0, fx1, fx2⟩ := id X
  go_wp2_with fail
  refine (c2' _ T).mono ?_
  rintro e w5 ⟨rfl, hb⟩
  replace C := C.kept hb
  replace B := bthen B hb
  replace T := T.kept hb
  replace U := U.kept hb
  replace V := V.kept hb
  replace X := X.kept hb
  clear hb c0 c1 c2 c3 c4 c5 c6 c7 c8 c9 c10 c11 c12 c13 u0 u1 u2 fu0 fu1 fu2 v0 v1 v2 fv0 fv1 fv2 x0 x1 x2 fx0 fx1 fx2
  obtain ⟨_, c0, c1, c2, c3, c4, c5, c6, c7, c8, c9, c10, c11, c12, c13⟩ := id C
  obtain ⟨_, u0, u1, u2, fu0, fu1, fu2⟩ := id U
  obtain ⟨_, v0, v1, v2, fv0, fv1, fv2⟩ := id V
  obtain ⟨_, x0, x1, x2, fx0, fx1, fx2⟩ := id X
  go_wp2
  go_ret
  have := ln2.out
  exact ⟨by simp <;> omega, B⟩

set_option maxRecDepth 100000 in
theorem counts_ok6 (c : CalZ) (L y i k a b ad at' : Int) (l : List U3) (w : World) (tb : FTab w) (hm : c.nm.size ≤ maxLen) (dl : decide ((100 : Int) < (c.nm.size : Int)) = false) (d6 : (c.k == 6) = false) (d3 : decide (k < -400) = false) (d4 : decide (400 < k) = false) (R : TwA c L y i k l 0)
    (D : DownA c L y i 5 5 y a b 0) (A1 : AddedA c y ad 0) (A2 : AddedA c (y + k) at' 0) (y0 : 1601 ≤ y) (y1 : y ≤ 9997) (t0 : 1601 ≤ y + k) (t1 : y + k ≤ 9997) (a0 : 1 ≤ a) (ab : a ≤ b) (b53 : b ≤ 53) (l60 : l.length ≤ 60) (ad0 : 0 ≤ ad) (ad1 : ad ≤ 53) (at0 : 0 ≤ at') (at1 : at' ≤ 53)
    (e1 : (c.po == 3) = true) (e2 : decide (0 < ad) = true) (e3 : (at' == 0) = true) (e4 : decide (a ≤ ad) = true) (e5 : decide (ad ≤ b) = true) (ln : (l.length : Int) = b - a) :
    Calls Tryz.prog 3 #[.agg #[.string c.nm, .int .i64 c.k, .int .i64 c.d, .int .i64 c.m, .int .i64 c.s, .int .i64 c.sh, .int .i64 c.p0, .int .i64 c.p1, .int .i64 c.p2, .int .i64 c.cy, .int .i64 c.ex, .int .i64 c.fi, .int .i64 c.la, .int .i64 c.po], .agg #[.int .i64 L, .int .i64 y, .int .i64 i], .int .i64 k] w fun e w' => e = .returned (.bool true) ∧ Below w.heap.size w w' := by
  have T := tb
  have C := CalIn.new w c 24
  have B := balloc (Below.refl _ w) (.cells #[.string c.nm, .int .i64 c.k, .int .i64 c.d, .int .i64 c.m, .int .i64 c.s, .int .i64 c.sh, .int .i64 c.p0, .int .i64 c.p1, .int .i64 c.p2, .int .i64 c.cy, .int .i64 c.ex, .int .i64 c.fi, .int .i64 c.la, .int .i64 c.po] 24)
  replace T := T.alloc (.cells #[.string c.nm, .int .i64 c.k, .int .i64 c.d, .int .i64 c.m, .int .i64 c.s, .int .i64 c.sh, .int .i64 c.p0, .int .i64 c.p1, .int .i64 c.p2, .int .i64 c.cy, .int .i64 c.ex, .int .i64 c.fi, .int .i64 c.la, .int .i64 c.po] 24)
  have U := Go.Proofs.YtoeifpeiogeenaaGreatDoor.Bx.Tri.new (w.alloc (.cells #[.string c.nm, .int .i64 c.k, .int .i64 c.d, .int .i64 c.m, .int .i64 c.s, .int .i64 c.sh, .int .i64 c.p0, .int .i64 c.p1, .int .i64 c.p2, .int .i64 c.cy, .int .i64 c.ex, .int .i64 c.fi, .int .i64 c.la, .int .i64 c.po] 24)) (.int .i64 L) (.int .i64 y) (.int .i64 i) 26
  rw [World.size_alloc] at U
  replace C := C.alloc (.cells #[.int .i64 L, .int .i64 y, .int .i64 i] 26)
  replace B := balloc B (.cells #[.int .i64 L, .int .i64 y, .int .i64 i] 26)
  replace T := T.alloc (.cells #[.int .i64 L, .int .i64 y, .int .i64 i] 26)
  have cw := fun w T => Weeks_ok c L y i k l w R hm T
  have cd := fun w T => Down_any c L y i 5 5 y a b 0 w D hm T
  have c1' := fun w T => Added_any c y ad 0 w A1 hm T
  have c2' := fun w T => Added_any c (y + k) at' 0 w A2 hm T
  obtain ⟨N, hN⟩ : ∃ N, N = l.length := ⟨_, rfl⟩
  clear R D A1 A2
  have ln2 := Lib.hid ln
  clear ln
  go_enter Tryz.func3, Tryz.ntmps3
  go_upto_region 1 with fail
  generalize (w.alloc (.cells #[.string c.nm, .int .i64 c.k, .int .i64 c.d, .int .i64 c.m, .int .i64 c.s, .int .i64 c.sh, .int .i64 c.p0, .int .i64 c.p1, .int .i64 c.p2, .int .i64 c.cy, .int .i64 c.ex, .int .i64 c.fi, .int .i64 c.la, .int .i64 c.po] 24)).alloc (.cells #[.int .i64 L, .int .i64 y, .int .i64 i] 26) = W0 at *
  obtain ⟨_, c0, c1, c2, c3, c4, c5, c6, c7, c8, c9, c10, c11, c12, c13⟩ := id C
  obtain ⟨_, u0, u1, u2, fu0, fu1, fu2⟩ := id U
  go_wp2_with fail
  refine (blive_ok _ T).mono ?_
  rintro e w1 ⟨rfl, hb⟩
  replace C := C.kept hb
  replace B := bthen B hb
  replace T := T.kept hb
  replace U := U.kept hb
  clear hb c0 c1 c2 c3 c4 c5 c6 c7 c8 c9 c10 c11 c12 c13 u0 u1 u2 fu0 fu1 fu2
  obtain ⟨_, c0, c1, c2, c3, c4, c5, c6, c7, c8, c9, c10, c11, c12, c13⟩ := id C
  obtain ⟨_, u0, u1, u2, fu0, fu1, fu2⟩ := id U
  go_wp2_with fail
  refine (cw _ T).mono ?_
  rintro e w2 ⟨g, cap, rfl, Rw, hg, hb, hcap⟩
  replace C := C.kept hb
  replace B := bthen B hb
  replace T := T.kept hb
  replace U := U.kept hb
  clear hb c0 c1 c2 c3 c4 c5 c6 c7 c8 c9 c10 c11 c12 c13 u0 u1 u2 fu0 fu1 fu2
  obtain ⟨_, c0, c1, c2, c3, c4, c5, c6, c7, c8, c9, c10, c11, c12, c13⟩ := id C
  obtain ⟨_, u0, u1, u2, fu0, fu1, fu2⟩ := id U
  rw [← hN]
  clear Rw hg hcap
  go_wp2_with fail
  refine (cd _ T).mono ?_
  rintro e w3 ⟨rfl, hb⟩
  replace C := C.kept hb
  replace B := bthen B hb
  replace T := T.kept hb
  replace U := U.kept hb
  clear hb c0 c1 c2 c3 c4 c5 c6 c7 c8 c9 c10 c11 c12 c13 u0 u1 u2 fu0 fu1 fu2
  obtain ⟨_, c0, c1, c2, c3, c4, c5, c6, c7, c8, c9, c10, c11, c12, c13⟩ := id C
  obtain ⟨_, u0, u1, u2, fu0, fu1, fu2⟩ := id U
  have V := Go.Proofs.YtoeifpeiogeenaaGreatDoor.Bx.Tri.new w3 (.int .i64 5) (.int .i64 y) (.int .i64 a) 26
  replace C := C.alloc (.cells #[.int .i64 5, .int .i64 y, .int .i64 a] 26)
  replace T := T.alloc (.cells #[.int .i64 5, .int .i64 y, .int .i64 a] 26)
  replace U := U.alloc (.cells #[.int .i64 5, .int .i64 y, .int .i64 a] 26)
  replace B := balloc B (.cells #[.int .i64 5, .int .i64 y, .int .i64 a] 26)
  clear c0 c1 c2 c3 c4 c5 c6 c7 c8 c9 c10 c11 c12 c13 u0 u1 u2 fu0 fu1 fu2
  obtain ⟨_, c0, c1, c2, c3, c4, c5, c6, c7, c8, c9, c10, c11, c12, c13⟩ := id C
  obtain ⟨_, u0, u1, u2, fu0, fu1, fu2⟩ := id U
  obtain ⟨_, v0, v1, v2, fv0, fv1, fv2⟩ := id V
  have X := Go.Proofs.YtoeifpeiogeenaaGreatDoor.Bx.Tri.new (w3.alloc (.cells #[.int .i64 5, .int .i64 y, .int .i64 a] 26)) (.int .i64 5) (.int .i64 y) (.int .i64 b) 26
  rw [World.size_alloc] at X
  replace C := C.alloc (.cells #[.int .i64 5, .int .i64 y, .int .i64 b] 26)
  replace T := T.alloc (.cells #[.int .i64 5, .int .i64 y, .int .i64 b] 26)
  replace U := U.alloc (.cells #[.int .i64 5, .int .i64 y, .int .i64 b] 26)
  replace V := V.alloc (.cells #[.int .i64 5, .int .i64 y, .int .i64 b] 26)
  replace B := balloc B (.cells #[.int .i64 5, .int .i64 y, .int .i64 b] 26)
  clear c0 c1 c2 c3 c4 c5 c6 c7 c8 c9 c10 c11 c12 c13 u0 u1 u2 fu0 fu1 fu2 v0 v1 v2 fv0 fv1 fv2
  obtain ⟨_, c0, c1, c2, c3, c4, c5, c6, c7, c8, c9, c10, c11, c12, c13⟩ := id C
  obtain ⟨_, u0, u1, u2, fu0, fu1, fu2⟩ := id U
  obtain ⟨_, v0, v1, v2, fv0, fv1, fv2⟩ := id V
  obtain ⟨_, x0, x1, x2, fx0, fx1, fx2⟩ := id X
  go_wp2_with fail
  refine (c1' _ T).mono ?_
  rintro e w4 ⟨rfl, hb⟩
  replace C := C.kept hb
  replace B := bthen B hb
  replace T := T.kept hb
  replace U := U.kept hb
  replace V := V.kept hb
  replace X := X.kept hb
  clear hb c0 c1 c2 c3 c4 c5 c6 c7 c8 c9 c10 c11 c12 c13 u0 u1 u2 fu0 fu1 fu2 v0 v1 v2 fv0 fv1 fv2 x0 x1 x2 fx0 fx1 fx2
  obtain ⟨_, c0, c1, c2, c3, c4, c5, c6, c7, c8, c9, c10, c11, c12, c13⟩ := id C
  obtain ⟨_, u0, u1, u2, fu0, fu1, fu2⟩ := id U
  obtain ⟨_, v0, v1, v2, fv0, fv1, fv2⟩ := id V
  obtain ⟨_, x0, x1, x2, fx0, fx1, fx2⟩ := id X
  go_wp2_with fail
  refine (c2' _ T).mono ?_
  rintro e w5 ⟨rfl, hb⟩
  replace C := C.kept hb
  replace B := bthen B hb
  replace T := T.kept hb
  replace U := U.kept hb
  replace V := V.kept hb
  replace X := X.kept hb
  clear hb c0 c1 c2 c3 c4 c5 c6 c7 c8 c9 c10 c11 c12 c13 u0 u1 u2 fu0 fu1 fu2 v0 v1 v2 fv0 fv1 fv2 x0 x1 x2 fx0 fx1 fx2
  obtain ⟨_, c0, c1, c2, c3, c4, c5, c6, c7, c8, c9, c10, c11, c12, c13⟩ := id C
  obtain ⟨_, u0, u1, u2, fu0, fu1, fu2⟩ := id U
  obtain ⟨_, v0, v1, v2, fv0, fv1, fv2⟩ := id V
  obtain ⟨_, x0, x1, x2, fx0, fx1, fx2⟩ := id X
  go_wp2
  go_ret
  have := ln2.out
  exact ⟨by simp <;> omega, B⟩

theorem counts_ok (c : CalZ) (L y i k a b ad at' : Int) (l : List U3) (w : World) (tb : FTab w) (hm : c.nm.size ≤ maxLen) (dl : decide ((100 : Int) < (c.nm.size : Int)) = false) (d6 : (c.k == 6) = false) (d3 : decide (k < -400) = false) (d4 : decide (400 < k) = false) (R : TwA c L y i k l 0)
    (D : DownA c L y i 5 5 y a b 0) (A1 : AddedA c y ad 0) (A2 : AddedA c (y + k) at' 0) (y0 : 1601 ≤ y) (y1 : y ≤ 9997) (t0 : 1601 ≤ y + k) (t1 : y + k ≤ 9997) (a0 : 1 ≤ a) (ab : a ≤ b) (b53 : b ≤ 53) (l60 : l.length ≤ 60) (ad0 : 0 ≤ ad) (ad1 : ad ≤ 53) (at0 : 0 ≤ at') (at1 : at' ≤ 53)
    (O : ((c.po == 3) = false ∧ (l.length : Int) = b - a + 1) ∨ ((c.po == 3) = true ∧ decide (0 < ad) = false ∧ (l.length : Int) = b - a + 1) ∨ ((c.po == 3) = true ∧ decide (0 < ad) = true ∧ (at' == 0) = false ∧ (l.length : Int) = b - a + 1) ∨ ((c.po == 3) = true ∧ decide (0 < ad) = true ∧ (at' == 0) = true ∧ decide (a ≤ ad) = false ∧ (l.length : Int) = b - a + 1) ∨ ((c.po == 3) = true ∧ decide (0 < ad) = true ∧ (at' == 0) = true ∧ decide (a ≤ ad) = true ∧ decide (ad ≤ b) = false ∧ (l.length : Int) = b - a + 1) ∨ ((c.po == 3) = true ∧ decide (0 < ad) = true ∧ (at' == 0) = true ∧ decide (a ≤ ad) = true ∧ decide (ad ≤ b) = true ∧ (l.length : Int) = b - a)) :
    Calls Tryz.prog 3 #[.agg #[.string c.nm, .int .i64 c.k, .int .i64 c.d, .int .i64 c.m, .int .i64 c.s, .int .i64 c.sh, .int .i64 c.p0, .int .i64 c.p1, .int .i64 c.p2, .int .i64 c.cy, .int .i64 c.ex, .int .i64 c.fi, .int .i64 c.la, .int .i64 c.po], .agg #[.int .i64 L, .int .i64 y, .int .i64 i], .int .i64 k] w fun e w' => e = .returned (.bool true) ∧ Below w.heap.size w w' := by
  rcases O with ⟨e1, ln⟩ | ⟨e1, e2, ln⟩ | ⟨e1, e2, e3, ln⟩ | ⟨e1, e2, e3, e4, ln⟩ | ⟨e1, e2, e3, e4, e5, ln⟩ | ⟨e1, e2, e3, e4, e5, ln⟩
  · exact counts_ok1 c L y i k a b ad at' l w tb hm dl d6 d3 d4 R D A1 A2 y0 y1 t0 t1 a0 ab b53 l60 ad0 ad1 at0 at1 e1 ln
  · exact counts_ok2 c L y i k a b ad at' l w tb hm dl d6 d3 d4 R D A1 A2 y0 y1 t0 t1 a0 ab b53 l60 ad0 ad1 at0 at1 e1 e2 ln
  · exact counts_ok3 c L y i k a b ad at' l w tb hm dl d6 d3 d4 R D A1 A2 y0 y1 t0 t1 a0 ab b53 l60 ad0 ad1 at0 at1 e1 e2 e3 ln
  · exact counts_ok4 c L y i k a b ad at' l w tb hm dl d6 d3 d4 R D A1 A2 y0 y1 t0 t1 a0 ab b53 l60 ad0 ad1 at0 at1 e1 e2 e3 e4 ln
  · exact counts_ok5 c L y i k a b ad at' l w tb hm dl d6 d3 d4 R D A1 A2 y0 y1 t0 t1 a0 ab b53 l60 ad0 ad1 at0 at1 e1 e2 e3 e4 e5 ln
  · exact counts_ok6 c L y i k a b ad at' l w tb hm dl d6 d3 d4 R D A1 A2 y0 y1 t0 t1 a0 ab b53 l60 ad0 ad1 at0 at1 e1 e2 e3 e4 e5 ln

theorem counts_walk (c : CalZ) (L y i k : Int) (w : World) (wf : CalWf c) (wL : (Lit.int .i64 L).wf = true) (wy : (Lit.int .i64 y).wf = true) (wi : (Lit.int .i64 i).wf = true) (wk : (Lit.int .i64 k).wf = true) (tb : FTab w) :
    Calls Tryz.prog 3 #[.agg #[.string c.nm, .int .i64 c.k, .int .i64 c.d, .int .i64 c.m, .int .i64 c.s, .int .i64 c.sh, .int .i64 c.p0, .int .i64 c.p1, .int .i64 c.p2, .int .i64 c.cy, .int .i64 c.ex, .int .i64 c.fi, .int .i64 c.la, .int .i64 c.po], .agg #[.int .i64 L, .int .i64 y, .int .i64 i], .int .i64 k] w fun e w' => e = .returned (.bool true) ∧ Below w.heap.size w w' := by
  by_cases h : 100 < c.nm.size ∨ c.k = 6 ∨ k < -400 ∨ 400 < k
  · exact counts_out c L y i k w tb h
  have dl : decide ((100 : Int) < (c.nm.size : Int)) = false := decide_eq_false (by omega)
  have d6 : (c.k == 6) = false := beq_eq_false_iff_ne.2 (by omega)
  have d3 : decide (k < -400) = false := decide_eq_false (by omega)
  have d4 : decide (400 < k) = false := decide_eq_false (by omega)
  have k6 : c.k ≠ 6 := by omega
  obtain ⟨l, er, R⟩ := twa_ex c L y i k
  by_cases e : er = 0
  case neg => exact counts_er c L y i k er l w tb wk wf.1 dl d6 d3 d4 R e
  subst e
  obtain ⟨⟨a, b, n, W⟩, _⟩ := twa_weeks k6 R
  have bd := W.bd k6
  have cn := W.count k6
  have l5 := W.unit.2.1.2
  have A1 := addw_bd (y := y) W.unit.1 k6 (by omega) (by omega)
  have A2 := addw_bd (y := y + k) W.unit.1 k6 (by omega) (by omega)
  refine counts_ok c L y i k a b (addw c y) (addw c (y + k)) l w tb wf.1 dl d6 d3 d4 R (.inl ⟨W.unit, l5, by omega, W.w.1, W.w.2, rfl, rfl, rfl⟩) (added_is W.unit.1 k6 (by omega) (by omega)) (added_is W.unit.1 k6 (by omega) (by omega)) (by omega) (by omega) (by omega) (by omega) W.a0 W.ab (by omega) (twa_list R).l1 (by omega) (by omega) (by omega) (by omega) ?_
  simp only [beq_iff_eq, beq_eq_false_iff_ne, decide_eq_true_eq, decide_eq_false_iff_not]
  omega

end Go.Proofs.YtoeifpeiogeenaaGreatDoor.Bl
