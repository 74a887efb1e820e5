/- TwinOwn's walk. -/
import Derived.Test.YtoeifpeiogeenaaGreatDoorJR
import Derived.Test.YtoeifpeiogeenaaGreatDoorJB
namespace Go.Proofs.YtoeifpeiogeenaaGreatDoor.Bl
set_option linter.unusedSimpArgs false
set_option linter.unusedVariables false
open Go.RowKit Go.Proofs.YtoeifpeiogeenaaGreatDoor.Bn Go.Proofs.YtoeifpeiogeenaaGreatDoor.Bx Go.Proofs.YtoeifpeiogeenaaGreatDoor.Cp Go.Proofs.YtoeifpeiogeenaaGreatDoor.Am Go.Proofs.YtoeifpeiogeenaaGreatDoor.Fp Go.Proofs.YtoeifpeiogeenaaGreatDoor.Ap Go.Proofs.YtoeifpeiogeenaaGreatDoor.Cm Go.Proofs.YtoeifpeiogeenaaGreatDoor.Em Go.Proofs.YtoeifpeiogeenaaGreatDoor.Ep Go.Proofs.YtoeifpeiogeenaaGreatDoor.Rk Go.Proofs.YtoeifpeiogeenaaGreatDoor.Hp Go.Proofs.YtoeifpeiogeenaaGreatDoor.Ip Go.Proofs.YtoeifpeiogeenaaGreatDoor.Jp Go.Proofs.YtoeifpeiogeenaaGreatDoor.Dp Go.Proofs.YtoeifpeiogeenaaGreatDoor.Mp Go.Proofs.YtoeifpeiogeenaaGreatDoor.Bp

set_option maxHeartbeats 16000000

set_option maxRecDepth 100000 in
theorem own_out (c : CalZ) (L y i k : Int) (w : World) (tb : FTab w) (h : 100 < c.nm.size ∨ k < -400 ∨ 400 < k) :
    Calls Tryz.prog 5 #[.agg #[.string c.nm, .int .i64 c.k, .int .i64 c.d, .int .i64 c.m, .int .i64 c.s, .int .i64 c.sh, .int .i64 c.p0, .int .i64 c.p1, .int .i64 c.p2, .int .i64 c.cy, .int .i64 c.ex, .int .i64 c.fi, .int .i64 c.la, .int .i64 c.po], .agg #[.int .i64 L, .int .i64 y, .int .i64 i], .int .i64 k] w fun e w' => e = .returned (.bool true) ∧ Below w.heap.size w w' := by
  have T := tb
  have C := CalIn.new w c 24
  have B := balloc (Below.refl _ w) (.cells #[.string c.nm, .int .i64 c.k, .int .i64 c.d, .int .i64 c.m, .int .i64 c.s, .int .i64 c.sh, .int .i64 c.p0, .int .i64 c.p1, .int .i64 c.p2, .int .i64 c.cy, .int .i64 c.ex, .int .i64 c.fi, .int .i64 c.la, .int .i64 c.po] 24)
  replace T := T.alloc (.cells #[.string c.nm, .int .i64 c.k, .int .i64 c.d, .int .i64 c.m, .int .i64 c.s, .int .i64 c.sh, .int .i64 c.p0, .int .i64 c.p1, .int .i64 c.p2, .int .i64 c.cy, .int .i64 c.ex, .int .i64 c.fi, .int .i64 c.la, .int .i64 c.po] 24)
  have U := Go.Proofs.YtoeifpeiogeenaaGreatDoor.Bx.Tri.new (w.alloc (.cells #[.string c.nm, .int .i64 c.k, .int .i64 c.d, .int .i64 c.m, .int .i64 c.s, .int .i64 c.sh, .int .i64 c.p0, .int .i64 c.p1, .int .i64 c.p2, .int .i64 c.cy, .int .i64 c.ex, .int .i64 c.fi, .int .i64 c.la, .int .i64 c.po] 24)) (.int .i64 L) (.int .i64 y) (.int .i64 i) 26
  rw [World.size_alloc] at U
  replace C := C.alloc (.cells #[.int .i64 L, .int .i64 y, .int .i64 i] 26)
  replace B := balloc B (.cells #[.int .i64 L, .int .i64 y, .int .i64 i] 26)
  replace T := T.alloc (.cells #[.int .i64 L, .int .i64 y, .int .i64 i] 26)
  have O : decide ((100 : Int) < (c.nm.size : Int)) = true ∨ (decide ((100 : Int) < (c.nm.size : Int)) = false ∧ decide (k < -400) = true) ∨ (decide ((100 : Int) < (c.nm.size : Int)) = false ∧ decide (k < -400) = false ∧ decide (400 < k) = true) := by
    by_cases h1 : 100 < c.nm.size
    · exact .inl (decide_eq_true (by omega))
    · refine .inr ?_
      by_cases h3 : k < -400
      · exact .inl ⟨decide_eq_false (by omega), decide_eq_true h3⟩
      · exact .inr ⟨decide_eq_false (by omega), decide_eq_false h3, decide_eq_true (by omega)⟩
  clear h
  rcases O with dl | ⟨dl, d3⟩ | ⟨dl, d3, d4⟩
  all_goals
    go_enter Tryz.func5, Tryz.ntmps5
    go_upto_region 1 with fail
    generalize (w.alloc (.cells #[.string c.nm, .int .i64 c.k, .int .i64 c.d, .int .i64 c.m, .int .i64 c.s, .int .i64 c.sh, .int .i64 c.p0, .int .i64 c.p1, .int .i64 c.p2, .int .i64 c.cy, .int .i64 c.ex, .int .i64 c.fi, .int .i64 c.la, .int .i64 c.po] 24)).alloc (.cells #[.int .i64 L, .int .i64 y, .int .i64 i] 26) = W0 at *
    obtain ⟨_, c0, c1, c2, c3, c4, c5, c6, c7, c8, c9, c10, c11, c12, c13⟩ := id C
    obtain ⟨_, u0, u1, u2, fu0, fu1, fu2⟩ := id U
    go_wp2_with fail
    refine (blive_ok _ T).mono ?_
    rintro e w1 ⟨rfl, hb⟩
    replace C := C.kept hb
    replace B := bthen B hb
    replace T := T.kept hb
    replace U := U.kept hb
    clear hb c0 c1 c2 c3 c4 c5 c6 c7 c8 c9 c10 c11 c12 c13 u0 u1 u2 fu0 fu1 fu2
    obtain ⟨_, c0, c1, c2, c3, c4, c5, c6, c7, c8, c9, c10, c11, c12, c13⟩ := id C
    obtain ⟨_, u0, u1, u2, fu0, fu1, fu2⟩ := id U
    go_wp2
    go_ret
    exact ⟨by simp <;> omega, B⟩

set_option maxRecDepth 100000 in
theorem own_er (c : CalZ) (L y i k er : Int) (l : List U3) (w : World) (tb : FTab w) (hm : c.nm.size ≤ maxLen) (dl : decide ((100 : Int) < (c.nm.size : Int)) = false) (d3 : decide (k < -400) = false) (d4 : decide (400 < k) = false) (R : TwA c L y i 0 l er) (S : SpanA c L y i 0 0 er) (ne : er ≠ 0) :
    Calls Tryz.prog 5 #[.agg #[.string c.nm, .int .i64 c.k, .int .i64 c.d, .int .i64 c.m, .int .i64 c.s, .int .i64 c.sh, .int .i64 c.p0, .int .i64 c.p1, .int .i64 c.p2, .int .i64 c.cy, .int .i64 c.ex, .int .i64 c.fi, .int .i64 c.la, .int .i64 c.po], .agg #[.int .i64 L, .int .i64 y, .int .i64 i], .int .i64 k] w fun e w' => e = .returned (.bool true) ∧ Below w.heap.size w w' := by
  have T := tb
  have C := CalIn.new w c 24
  have B := balloc (Below.refl _ w) (.cells #[.string c.nm, .int .i64 c.k, .int .i64 c.d, .int .i64 c.m, .int .i64 c.s, .int .i64 c.sh, .int .i64 c.p0, .int .i64 c.p1, .int .i64 c.p2, .int .i64 c.cy, .int .i64 c.ex, .int .i64 c.fi, .int .i64 c.la, .int .i64 c.po] 24)
  replace T := T.alloc (.cells #[.string c.nm, .int .i64 c.k, .int .i64 c.d, .int .i64 c.m, .int .i64 c.s, .int .i64 c.sh, .int .i64 c.p0, .int .i64 c.p1, .int .i64 c.p2, .int .i64 c.cy, .int .i64 c.ex, .int .i64 c.fi, .int .i64 c.la, .int .i64 c.po] 24)
  have U := Go.Proofs.YtoeifpeiogeenaaGreatDoor.Bx.Tri.new (w.alloc (.cells #[.string c.nm, .int .i64 c.k, .int .i64 c.d, .int .i64 c.m, .int .i64 c.s, .int .i64 c.sh, .int .i64 c.p0, .int .i64 c.p1, .int .i64 c.p2, .int .i64 c.cy, .int .i64 c.ex, .int .i64 c.fi, .int .i64 c.la, .int .i64 c.po] 24)) (.int .i64 L) (.int .i64 y) (.int .i64 i) 26
  rw [World.size_alloc] at U
  replace C := C.alloc (.cells #[.int .i64 L, .int .i64 y, .int .i64 i] 26)
  replace B := balloc B (.cells #[.int .i64 L, .int .i64 y, .int .i64 i] 26)
  replace T := T.alloc (.cells #[.int .i64 L, .int .i64 y, .int .i64 i] 26)
  have cr := fun w T => Runs_er c L y i 0 er l w R ne (by decide) hm T
  have cs := fun w T => Span_any c L y i 0 0 er w S hm T
  have n1 : (er != 0) = true := bne_iff_ne.2 ne
  have n2 : (er == er) = true := beq_self_eq_true er
  clear R S ne
  go_enter Tryz.func5, Tryz.ntmps5
  go_upto_region 1 with fail
  generalize (w.alloc (.cells #[.string c.nm, .int .i64 c.k, .int .i64 c.d, .int .i64 c.m, .int .i64 c.s, .int .i64 c.sh, .int .i64 c.p0, .int .i64 c.p1, .int .i64 c.p2, .int .i64 c.cy, .int .i64 c.ex, .int .i64 c.fi, .int .i64 c.la, .int .i64 c.po] 24)).alloc (.cells #[.int .i64 L, .int .i64 y, .int .i64 i] 26) = W0 at *
  obtain ⟨_, c0, c1, c2, c3, c4, c5, c6, c7, c8, c9, c10, c11, c12, c13⟩ := id C
  obtain ⟨_, u0, u1, u2, fu0, fu1, fu2⟩ := id U
  go_wp2_with fail
  refine (blive_ok _ T).mono ?_
  rintro e w1 ⟨rfl, hb⟩
  replace C := C.kept hb
  replace B := bthen B hb
  replace T := T.kept hb
  replace U := U.kept hb
  clear hb c0 c1 c2 c3 c4 c5 c6 c7 c8 c9 c10 c11 c12 c13 u0 u1 u2 fu0 fu1 fu2
  obtain ⟨_, c0, c1, c2, c3, c4, c5, c6, c7, c8, c9, c10, c11, c12, c13⟩ := id C
  obtain ⟨_, u0, u1, u2, fu0, fu1, fu2⟩ := id U
  go_wp2_with fail
  refine (cs _ T).mono ?_
  rintro e w2 ⟨rfl, hb⟩
  replace C := C.kept hb
  replace B := bthen B hb
  replace T := T.kept hb
  replace U := U.kept hb
  clear hb c0 c1 c2 c3 c4 c5 c6 c7 c8 c9 c10 c11 c12 c13 u0 u1 u2 fu0 fu1 fu2
  obtain ⟨_, c0, c1, c2, c3, c4, c5, c6, c7, c8, c9, c10, c11, c12, c13⟩ := id C
  obtain ⟨_, u0, u1, u2, fu0, fu1, fu2⟩ := id U
  have K := Go.Proofs.YtoeifpeiogeenaaGreatDoor.Pr.Two.new w2 (.int .i64 0) (.int .i64 0) 43
  replace C := C.alloc (.cells #[.int .i64 0, .int .i64 0] 43)
  replace T := T.alloc (.cells #[.int .i64 0, .int .i64 0] 43)
  replace U := U.alloc (.cells #[.int .i64 0, .int .i64 0] 43)
  replace B := balloc B (.cells #[.int .i64 0, .int .i64 0] 43)
  clear c0 c1 c2 c3 c4 c5 c6 c7 c8 c9 c10 c11 c12 c13 u0 u1 u2 fu0 fu1 fu2
  obtain ⟨_, c0, c1, c2, c3, c4, c5, c6, c7, c8, c9, c10, c11, c12, c13⟩ := id C
  obtain ⟨_, u0, u1, u2, fu0, fu1, fu2⟩ := id U
  obtain ⟨_, k0, k1, fk0, fk1⟩ := id K
  go_wp2_with fail
  refine (cr _ T).mono ?_
  rintro e w3 ⟨rfl, hb⟩
  replace C := C.kept hb
  replace B := bthen B hb
  replace T := T.kept hb
  replace U := U.kept hb
  replace K := K.kept hb
  clear hb c0 c1 c2 c3 c4 c5 c6 c7 c8 c9 c10 c11 c12 c13 u0 u1 u2 fu0 fu1 fu2 k0 k1 fk0 fk1
  obtain ⟨_, c0, c1, c2, c3, c4, c5, c6, c7, c8, c9, c10, c11, c12, c13⟩ := id C
  obtain ⟨_, u0, u1, u2, fu0, fu1, fu2⟩ := id U
  obtain ⟨_, k0, k1, fk0, fk1⟩ := id K
  go_wp2
  go_ret
  exact ⟨by simp <;> omega, B⟩

set_option maxRecDepth 100000 in
theorem own_one (c : CalZ) (L y i k p q : Int) (l : List U3) (w : World) (tb : FTab w) (hm : c.nm.size ≤ maxLen) (dl : decide ((100 : Int) < (c.nm.size : Int)) = false) (d3 : decide (k < -400) = false) (d4 : decide (400 < k) = false) (R : TwA c L y i 0 l 0) (X : TwList c l [(p, q)]) (S : SpanA c L y i p q 0) (O : (L != 1) = true ∨ ((L != 1) = false ∧ (c.po != 3) = true)) :
    Calls Tryz.prog 5 #[.agg #[.string c.nm, .int .i64 c.k, .int .i64 c.d, .int .i64 c.m, .int .i64 c.s, .int .i64 c.sh, .int .i64 c.p0, .int .i64 c.p1, .int .i64 c.p2, .int .i64 c.cy, .int .i64 c.ex, .int .i64 c.fi, .int .i64 c.la, .int .i64 c.po], .agg #[.int .i64 L, .int .i64 y, .int .i64 i], .int .i64 k] w fun e w' => e = .returned (.bool true) ∧ Below w.heap.size w w' := by
  have T := tb
  have C := CalIn.new w c 24
  have B := balloc (Below.refl _ w) (.cells #[.string c.nm, .int .i64 c.k, .int .i64 c.d, .int .i64 c.m, .int .i64 c.s, .int .i64 c.sh, .int .i64 c.p0, .int .i64 c.p1, .int .i64 c.p2, .int .i64 c.cy, .int .i64 c.ex, .int .i64 c.fi, .int .i64 c.la, .int .i64 c.po] 24)
  replace T := T.alloc (.cells #[.string c.nm, .int .i64 c.k, .int .i64 c.d, .int .i64 c.m, .int .i64 c.s, .int .i64 c.sh, .int .i64 c.p0, .int .i64 c.p1, .int .i64 c.p2, .int .i64 c.cy, .int .i64 c.ex, .int .i64 c.fi, .int .i64 c.la, .int .i64 c.po] 24)
  have U := Go.Proofs.YtoeifpeiogeenaaGreatDoor.Bx.Tri.new (w.alloc (.cells #[.string c.nm, .int .i64 c.k, .int .i64 c.d, .int .i64 c.m, .int .i64 c.s, .int .i64 c.sh, .int .i64 c.p0, .int .i64 c.p1, .int .i64 c.p2, .int .i64 c.cy, .int .i64 c.ex, .int .i64 c.fi, .int .i64 c.la, .int .i64 c.po] 24)) (.int .i64 L) (.int .i64 y) (.int .i64 i) 26
  rw [World.size_alloc] at U
  replace C := C.alloc (.cells #[.int .i64 L, .int .i64 y, .int .i64 i] 26)
  replace B := balloc B (.cells #[.int .i64 L, .int .i64 y, .int .i64 i] 26)
  replace T := T.alloc (.cells #[.int .i64 L, .int .i64 y, .int .i64 i] 26)
  have cr := fun w T => Runs_ok c L y i 0 l _ w R X hm T
  have cs := fun w T => Span_any c L y i p q 0 w S hm T
  clear R X S
  rcases O with o1 | ⟨o1, o2⟩
  all_goals
    go_enter Tryz.func5, Tryz.ntmps5
    go_upto_region 1 with fail
    generalize (w.alloc (.cells #[.string c.nm, .int .i64 c.k, .int .i64 c.d, .int .i64 c.m, .int .i64 c.s, .int .i64 c.sh, .int .i64 c.p0, .int .i64 c.p1, .int .i64 c.p2, .int .i64 c.cy, .int .i64 c.ex, .int .i64 c.fi, .int .i64 c.la, .int .i64 c.po] 24)).alloc (.cells #[.int .i64 L, .int .i64 y, .int .i64 i] 26) = W0 at *
    obtain ⟨_, c0, c1, c2, c3, c4, c5, c6, c7, c8, c9, c10, c11, c12, c13⟩ := id C
    obtain ⟨_, u0, u1, u2, fu0, fu1, fu2⟩ := id U
    go_wp2_with fail
    refine (blive_ok _ T).mono ?_
    rintro e w1 ⟨rfl, hb⟩
    replace C := C.kept hb
    replace B := bthen B hb
    replace T := T.kept hb
    replace U := U.kept hb
    clear hb c0 c1 c2 c3 c4 c5 c6 c7 c8 c9 c10 c11 c12 c13 u0 u1 u2 fu0 fu1 fu2
    obtain ⟨_, c0, c1, c2, c3, c4, c5, c6, c7, c8, c9, c10, c11, c12, c13⟩ := id C
    obtain ⟨_, u0, u1, u2, fu0, fu1, fu2⟩ := id U
    go_wp2_with fail
    refine (cs _ T).mono ?_
    rintro e w2 ⟨rfl, hb⟩
    replace C := C.kept hb
    replace B := bthen B hb
    replace T := T.kept hb
    replace U := U.kept hb
    clear hb c0 c1 c2 c3 c4 c5 c6 c7 c8 c9 c10 c11 c12 c13 u0 u1 u2 fu0 fu1 fu2
    obtain ⟨_, c0, c1, c2, c3, c4, c5, c6, c7, c8, c9, c10, c11, c12, c13⟩ := id C
    obtain ⟨_, u0, u1, u2, fu0, fu1, fu2⟩ := id U
    have K := Go.Proofs.YtoeifpeiogeenaaGreatDoor.Pr.Two.new w2 (.int .i64 p) (.int .i64 q) 43
    replace C := C.alloc (.cells #[.int .i64 p, .int .i64 q] 43)
    replace T := T.alloc (.cells #[.int .i64 p, .int .i64 q] 43)
    replace U := U.alloc (.cells #[.int .i64 p, .int .i64 q] 43)
    replace B := balloc B (.cells #[.int .i64 p, .int .i64 q] 43)
    clear c0 c1 c2 c3 c4 c5 c6 c7 c8 c9 c10 c11 c12 c13 u0 u1 u2 fu0 fu1 fu2
    obtain ⟨_, c0, c1, c2, c3, c4, c5, c6, c7, c8, c9, c10, c11, c12, c13⟩ := id C
    obtain ⟨_, u0, u1, u2, fu0, fu1, fu2⟩ := id U
    obtain ⟨_, k0, k1, fk0, fk1⟩ := id K
    go_wp2_with fail
    refine (cr _ T).mono ?_
    rintro e w3 ⟨g, cap, rfl, Rw, hg, hb, hcap⟩
    replace C := C.kept hb
    replace B := bthen B hb
    replace T := T.kept hb
    replace U := U.kept hb
    replace K := K.kept hb
    clear hb c0 c1 c2 c3 c4 c5 c6 c7 c8 c9 c10 c11 c12 c13 u0 u1 u2 fu0 fu1 fu2 k0 k1 fk0 fk1
    obtain ⟨_, c0, c1, c2, c3, c4, c5, c6, c7, c8, c9, c10, c11, c12, c13⟩ := id C
    obtain ⟨_, u0, u1, u2, fu0, fu1, fu2⟩ := id U
    obtain ⟨_, k0, k1, fk0, fk1⟩ := id K
    clear hg hcap cr cs
    have o := Rw.c 0 (p, q) rfl
    simp only [Nat.zero_mul, Nat.zero_add] at o
    obtain ⟨o0, o1⟩ := o
    go_upto_region 9 with fail
    go_quiet (fail)
    go_wp2
    go_ret
    exact ⟨by simp <;> omega, bdrewN B _⟩

set_option maxRecDepth 100000 in
theorem own_far (c : CalZ) (y i k p q : Int) (l l2 : List U3) (w : World) (tb : FTab w) (wk : (Lit.int .i64 k).wf = true) (hm : c.nm.size ≤ maxLen) (dl : decide ((100 : Int) < (c.nm.size : Int)) = false) (d3 : decide (k < -400) = false) (d4 : decide (400 < k) = false) (R : TwA c 1 y i 0 l 0) (X : TwList c l [(p, q)]) (S : SpanA c 1 y i p q 0) (p3 : (c.po != 3) = false) (R2 : TwA c 1 y i k l2 11) :
    Calls Tryz.prog 5 #[.agg #[.string c.nm, .int .i64 c.k, .int .i64 c.d, .int .i64 c.m, .int .i64 c.s, .int .i64 c.sh, .int .i64 c.p0, .int .i64 c.p1, .int .i64 c.p2, .int .i64 c.cy, .int .i64 c.ex, .int .i64 c.fi, .int .i64 c.la, .int .i64 c.po], .agg #[.int .i64 1, .int .i64 y, .int .i64 i], .int .i64 k] w fun e w' => e = .returned (.bool true) ∧ Below w.heap.size w w' := by
  have T := tb
  have C := CalIn.new w c 24
  have B := balloc (Below.refl _ w) (.cells #[.string c.nm, .int .i64 c.k, .int .i64 c.d, .int .i64 c.m, .int .i64 c.s, .int .i64 c.sh, .int .i64 c.p0, .int .i64 c.p1, .int .i64 c.p2, .int .i64 c.cy, .int .i64 c.ex, .int .i64 c.fi, .int .i64 c.la, .int .i64 c.po] 24)
  replace T := T.alloc (.cells #[.string c.nm, .int .i64 c.k, .int .i64 c.d, .int .i64 c.m, .int .i64 c.s, .int .i64 c.sh, .int .i64 c.p0, .int .i64 c.p1, .int .i64 c.p2, .int .i64 c.cy, .int .i64 c.ex, .int .i64 c.fi, .int .i64 c.la, .int .i64 c.po] 24)
  have U := Go.Proofs.YtoeifpeiogeenaaGreatDoor.Bx.Tri.new (w.alloc (.cells #[.string c.nm, .int .i64 c.k, .int .i64 c.d, .int .i64 c.m, .int .i64 c.s, .int .i64 c.sh, .int .i64 c.p0, .int .i64 c.p1, .int .i64 c.p2, .int .i64 c.cy, .int .i64 c.ex, .int .i64 c.fi, .int .i64 c.la, .int .i64 c.po] 24)) (.int .i64 1) (.int .i64 y) (.int .i64 i) 26
  rw [World.size_alloc] at U
  replace C := C.alloc (.cells #[.int .i64 1, .int .i64 y, .int .i64 i] 26)
  replace B := balloc B (.cells #[.int .i64 1, .int .i64 y, .int .i64 i] 26)
  replace T := T.alloc (.cells #[.int .i64 1, .int .i64 y, .int .i64 i] 26)
  have cr := fun w T => Runs_ok c 1 y i 0 l _ w R X hm T
  have cs := fun w T => Span_any c 1 y i p q 0 w S hm T
  have cr2 := fun w T => Runs_er c 1 y i k 11 l2 w R2 (by decide) wk hm T
  clear R X S R2
  go_enter Tryz.func5, Tryz.ntmps5
  go_upto_region 1 with fail
  generalize (w.alloc (.cells #[.string c.nm, .int .i64 c.k, .int .i64 c.d, .int .i64 c.m, .int .i64 c.s, .int .i64 c.sh, .int .i64 c.p0, .int .i64 c.p1, .int .i64 c.p2, .int .i64 c.cy, .int .i64 c.ex, .int .i64 c.fi, .int .i64 c.la, .int .i64 c.po] 24)).alloc (.cells #[.int .i64 1, .int .i64 y, .int .i64 i] 26) = W0 at *
  obtain ⟨_, c0, c1, c2, c3, c4, c5, c6, c7, c8, c9, c10, c11, c12, c13⟩ := id C
  obtain ⟨_, u0, u1, u2, fu0, fu1, fu2⟩ := id U
  go_wp2_with fail
  refine (blive_ok _ T).mono ?_
  rintro e w1 ⟨rfl, hb⟩
  replace C := C.kept hb
  replace B := bthen B hb
  replace T := T.kept hb
  replace U := U.kept hb
  clear hb c0 c1 c2 c3 c4 c5 c6 c7 c8 c9 c10 c11 c12 c13 u0 u1 u2 fu0 fu1 fu2
  obtain ⟨_, c0, c1, c2, c3, c4, c5, c6, c7, c8, c9, c10, c11, c12, c13⟩ := id C
  obtain ⟨_, u0, u1, u2, fu0, fu1, fu2⟩ := id U
  go_wp2_with fail
  refine (cs _ T).mono ?_
  rintro e w2 ⟨rfl, hb⟩
  replace C := C.kept hb
  replace B := bthen B hb
  replace T := T.kept hb
  replace U := U.kept hb
  clear hb c0 c1 c2 c3 c4 c5 c6 c7 c8 c9 c10 c11 c12 c13 u0 u1 u2 fu0 fu1 fu2
  obtain ⟨_, c0, c1, c2, c3, c4, c5, c6, c7, c8, c9, c10, c11, c12, c13⟩ := id C
  obtain ⟨_, u0, u1, u2, fu0, fu1, fu2⟩ := id U
  have K := Go.Proofs.YtoeifpeiogeenaaGreatDoor.Pr.Two.new w2 (.int .i64 p) (.int .i64 q) 43
  replace C := C.alloc (.cells #[.int .i64 p, .int .i64 q] 43)
  replace T := T.alloc (.cells #[.int .i64 p, .int .i64 q] 43)
  replace U := U.alloc (.cells #[.int .i64 p, .int .i64 q] 43)
  replace B := balloc B (.cells #[.int .i64 p, .int .i64 q] 43)
  clear c0 c1 c2 c3 c4 c5 c6 c7 c8 c9 c10 c11 c12 c13 u0 u1 u2 fu0 fu1 fu2
  obtain ⟨_, c0, c1, c2, c3, c4, c5, c6, c7, c8, c9, c10, c11, c12, c13⟩ := id C
  obtain ⟨_, u0, u1, u2, fu0, fu1, fu2⟩ := id U
  obtain ⟨_, k0, k1, fk0, fk1⟩ := id K
  go_wp2_with fail
  refine (cr _ T).mono ?_
  rintro e w3 ⟨g, cap, rfl, Rw, hg, hb, hcap⟩
  replace C := C.kept hb
  replace B := bthen B hb
  replace T := T.kept hb
  replace U := U.kept hb
  replace K := K.kept hb
  clear hb c0 c1 c2 c3 c4 c5 c6 c7 c8 c9 c10 c11 c12 c13 u0 u1 u2 fu0 fu1 fu2 k0 k1 fk0 fk1
  obtain ⟨_, c0, c1, c2, c3, c4, c5, c6, c7, c8, c9, c10, c11, c12, c13⟩ := id C
  obtain ⟨_, u0, u1, u2, fu0, fu1, fu2⟩ := id U
  obtain ⟨_, k0, k1, fk0, fk1⟩ := id K
  clear hg hcap cr cs
  have o := Rw.c 0 (p, q) rfl
  simp only [Nat.zero_mul, Nat.zero_add] at o
  obtain ⟨o0, o1⟩ := o
  go_upto_region 9 with fail
  go_quiet (fail)
  go_upto_region 13 with fail
  have Q := Below.refl w3.heap.size w3
  obtain ⟨WD, hWD⟩ : ∃ WD, w3.drewN nq = WD := ⟨_, rfl⟩
  have bD : Below w3.heap.size w3 WD := by rw [← hWD]; exact bdrewN (Below.refl _ _) _
  rw [hWD]
  clear hWD Q o0 o1 Rw u0 u1 u2 fu0 fu1 fu2 k0 k1 fk0 fk1
  clear c0 c1 c2 c3 c4 c5 c6 c7 c8 c9 c10 c11 c12 c13 
  replace C := C.kept bD
  replace T := T.kept bD
  replace U := U.kept bD
  replace B := bthen B bD
  clear bD
  obtain ⟨_, c0, c1, c2, c3, c4, c5, c6, c7, c8, c9, c10, c11, c12, c13⟩ := id C
  obtain ⟨_, u0, u1, u2, fu0, fu1, fu2⟩ := id U
  go_wp2_with fail
  refine (cr2 _ T).mono ?_
  rintro e w4 ⟨rfl, hb⟩
  replace C := C.kept hb
  replace B := bthen B hb
  replace T := T.kept hb
  replace U := U.kept hb
  clear hb c0 c1 c2 c3 c4 c5 c6 c7 c8 c9 c10 c11 c12 c13 u0 u1 u2 fu0 fu1 fu2
  obtain ⟨_, c0, c1, c2, c3, c4, c5, c6, c7, c8, c9, c10, c11, c12, c13⟩ := id C
  obtain ⟨_, u0, u1, u2, fu0, fu1, fu2⟩ := id U
  go_wp2
  go_ret
  exact ⟨by simp <;> omega, B⟩

set_option maxRecDepth 100000 in
theorem own_both (c : CalZ) (y i k p q a b : Int) (l l2 : List U3) (r2 : List (Int × Int)) (w : World) (tb : FTab w) (hm : c.nm.size ≤ maxLen) (dl : decide ((100 : Int) < (c.nm.size : Int)) = false) (d3 : decide (k < -400) = false) (d4 : decide (400 < k) = false) (R : TwA c 1 y i 0 l 0) (X : TwList c l [(p, q)]) (S : SpanA c 1 y i p q 0) (p3 : (c.po != 3) = false) (R2 : TwA c 1 y i k l2 0) (X2 : TwList c l2 r2)
    (DA : DaysA c y a 0) (DB : DaysA c (y + k) b 0) (sm : lens r2 = min a b) (y0 : 1601 ≤ y) (y1 : y ≤ 9997) (t0 : 1601 ≤ y + k) (t1 : y + k ≤ 9997) :
    Calls Tryz.prog 5 #[.agg #[.string c.nm, .int .i64 c.k, .int .i64 c.d, .int .i64 c.m, .int .i64 c.s, .int .i64 c.sh, .int .i64 c.p0, .int .i64 c.p1, .int .i64 c.p2, .int .i64 c.cy, .int .i64 c.ex, .int .i64 c.fi, .int .i64 c.la, .int .i64 c.po], .agg #[.int .i64 1, .int .i64 y, .int .i64 i], .int .i64 k] w fun e w' => e = .returned (.bool true) ∧ Below w.heap.size w w' := by
  have T := tb
  have C := CalIn.new w c 24
  have B := balloc (Below.refl _ w) (.cells #[.string c.nm, .int .i64 c.k, .int .i64 c.d, .int .i64 c.m, .int .i64 c.s, .int .i64 c.sh, .int .i64 c.p0, .int .i64 c.p1, .int .i64 c.p2, .int .i64 c.cy, .int .i64 c.ex, .int .i64 c.fi, .int .i64 c.la, .int .i64 c.po] 24)
  replace T := T.alloc (.cells #[.string c.nm, .int .i64 c.k, .int .i64 c.d, .int .i64 c.m, .int .i64 c.s, .int .i64 c.sh, .int .i64 c.p0, .int .i64 c.p1, .int .i64 c.p2, .int .i64 c.cy, .int .i64 c.ex, .int .i64 c.fi, .int .i64 c.la, .int .i64 c.po] 24)
  have U := Go.Proofs.YtoeifpeiogeenaaGreatDoor.Bx.Tri.new (w.alloc (.cells #[.string c.nm, .int .i64 c.k, .int .i64 c.d, .int .i64 c.m, .int .i64 c.s, .int .i64 c.sh, .int .i64 c.p0, .int .i64 c.p1, .int .i64 c.p2, .int .i64 c.cy, .int .i64 c.ex, .int .i64 c.fi, .int .i64 c.la, .int .i64 c.po] 24)) (.int .i64 1) (.int .i64 y) (.int .i64 i) 26
  rw [World.size_alloc] at U
  replace C := C.alloc (.cells #[.int .i64 1, .int .i64 y, .int .i64 i] 26)
  replace B := balloc B (.cells #[.int .i64 1, .int .i64 y, .int .i64 i] 26)
  replace T := T.alloc (.cells #[.int .i64 1, .int .i64 y, .int .i64 i] 26)
  have cr := fun w T => Runs_ok c 1 y i 0 l _ w R X hm T
  have cs := fun w T => Span_any c 1 y i p q 0 w S hm T
  have cr2 := fun w T => Runs_ok c 1 y i k l2 _ w R2 X2 hm T
  have ca := fun w T => Days_any c y a 0 w DA hm T
  have cb := fun w T => Days_any c (y + k) b 0 w DB hm T
  have HM : Hid (∀ j : Nat, j < r2.length → ∃ f t : Int, r2[j]? = some (f, t) ∧ 0 ≤ f ∧ f ≤ t ∧ t ≤ 3068036 ∧ ∀ s p, TwJ r2 j s p → p + 1 < f ∧ TwJ r2 (j + 1) (s - (t - f + 1)) t) := Lib.hid (fun j hj => twj_next X2 hj)
  have J0 := twj_start X2
  have r22 := twj_len X2
  obtain ⟨m, hm2⟩ : ∃ m, r2.length = m := ⟨_, rfl⟩
  have HJ : Hid (∀ s p, TwJ r2 m s p → s = 0) := Lib.hid (fun s p h => twj_end (r := r2) (s := s) (p := p) (by rw [hm2]; exact h))
  rw [hm2] at HM r22
  obtain ⟨z, hz⟩ : ∃ z, lens r2 = z := ⟨_, rfl⟩
  rw [hz] at J0 sm
  have SM : (if b < a then b else a) = z := by
    rw [sm]
    by_cases q : b < a
    · rw [if_pos q]; omega
    · rw [if_neg q]; omega
  have zb : 0 ≤ z ∧ z ≤ 6136074 := ⟨J0.2.1, J0.2.2.1⟩
  clear R X S R2 X2 DA DB sm hz
  go_enter Tryz.func5, Tryz.ntmps5
  go_upto_region 1 with fail
  generalize (w.alloc (.cells #[.string c.nm, .int .i64 c.k, .int .i64 c.d, .int .i64 c.m, .int .i64 c.s, .int .i64 c.sh, .int .i64 c.p0, .int .i64 c.p1, .int .i64 c.p2, .int .i64 c.cy, .int .i64 c.ex, .int .i64 c.fi, .int .i64 c.la, .int .i64 c.po] 24)).alloc (.cells #[.int .i64 1, .int .i64 y, .int .i64 i] 26) = W0 at *
  obtain ⟨_, c0, c1, c2, c3, c4, c5, c6, c7, c8, c9, c10, c11, c12, c13⟩ := id C
  obtain ⟨_, u0, u1, u2, fu0, fu1, fu2⟩ := id U
  go_wp2_with fail
  refine (blive_ok _ T).mono ?_
  rintro e w1 ⟨rfl, hb⟩
  replace C := C.kept hb
  replace B := bthen B hb
  replace T := T.kept hb
  replace U := U.kept hb
  clear hb c0 c1 c2 c3 c4 c5 c6 c7 c8 c9 c10 c11 c12 c13 u0 u1 u2 fu0 fu1 fu2
  obtain ⟨_, c0, c1, c2, c3, c4, c5, c6, c7, c8, c9, c10, c11, c12, c13⟩ := id C
  obtain ⟨_, u0, u1, u2, fu0, fu1, fu2⟩ := id U
  go_wp2_with fail
  refine (cs _ T).mono ?_
  rintro e w2 ⟨rfl, hb⟩
  replace C := C.kept hb
  replace B := bthen B hb
  replace T := T.kept hb
  replace U := U.kept hb
  clear hb c0 c1 c2 c3 c4 c5 c6 c7 c8 c9 c10 c11 c12 c13 u0 u1 u2 fu0 fu1 fu2
  obtain ⟨_, c0, c1, c2, c3, c4, c5, c6, c7, c8, c9, c10, c11, c12, c13⟩ := id C
  obtain ⟨_, u0, u1, u2, fu0, fu1, fu2⟩ := id U
  have K := Go.Proofs.YtoeifpeiogeenaaGreatDoor.Pr.Two.new w2 (.int .i64 p) (.int .i64 q) 43
  replace C := C.alloc (.cells #[.int .i64 p, .int .i64 q] 43)
  replace T := T.alloc (.cells #[.int .i64 p, .int .i64 q] 43)
  replace U := U.alloc (.cells #[.int .i64 p, .int .i64 q] 43)
  replace B := balloc B (.cells #[.int .i64 p, .int .i64 q] 43)
  clear c0 c1 c2 c3 c4 c5 c6 c7 c8 c9 c10 c11 c12 c13 u0 u1 u2 fu0 fu1 fu2
  obtain ⟨_, c0, c1, c2, c3, c4, c5, c6, c7, c8, c9, c10, c11, c12, c13⟩ := id C
  obtain ⟨_, u0, u1, u2, fu0, fu1, fu2⟩ := id U
  obtain ⟨_, k0, k1, fk0, fk1⟩ := id K
  go_wp2_with fail
  refine (cr _ T).mono ?_
  rintro e w3 ⟨g, cap, rfl, Rw, hg, hb, hcap⟩
  replace C := C.kept hb
  replace B := bthen B hb
  replace T := T.kept hb
  replace U := U.kept hb
  replace K := K.kept hb
  clear hb c0 c1 c2 c3 c4 c5 c6 c7 c8 c9 c10 c11 c12 c13 u0 u1 u2 fu0 fu1 fu2 k0 k1 fk0 fk1
  obtain ⟨_, c0, c1, c2, c3, c4, c5, c6, c7, c8, c9, c10, c11, c12, c13⟩ := id C
  obtain ⟨_, u0, u1, u2, fu0, fu1, fu2⟩ := id U
  obtain ⟨_, k0, k1, fk0, fk1⟩ := id K
  clear hg hcap cr cs
  have o := Rw.c 0 (p, q) rfl
  simp only [Nat.zero_mul, Nat.zero_add] at o
  obtain ⟨o0, o1⟩ := o
  go_upto_region 9 with fail
  go_quiet (fail)
  go_upto_region 13 with fail
  obtain ⟨WD, hWD⟩ : ∃ WD, w3.drewN nq = WD := ⟨_, rfl⟩
  have bD : Below w3.heap.size w3 WD := by rw [← hWD]; exact bdrewN (Below.refl _ _) _
  rw [hWD]
  clear hWD o0 o1 Rw u0 u1 u2 fu0 fu1 fu2 k0 k1 fk0 fk1
  clear c0 c1 c2 c3 c4 c5 c6 c7 c8 c9 c10 c11 c12 c13 
  replace C := C.kept bD
  replace T := T.kept bD
  replace U := U.kept bD
  replace B := bthen B bD
  clear bD K
  obtain ⟨_, c0, c1, c2, c3, c4, c5, c6, c7, c8, c9, c10, c11, c12, c13⟩ := id C
  obtain ⟨_, u0, u1, u2, fu0, fu1, fu2⟩ := id U
  go_wp2_with fail
  refine (cr2 _ T).mono ?_
  rintro e w4 ⟨g2, cap2, rfl, Sw, hg2, hb, hcap2⟩
  replace C := C.kept hb
  replace B := bthen B hb
  replace T := T.kept hb
  replace U := U.kept hb
  clear hb c0 c1 c2 c3 c4 c5 c6 c7 c8 c9 c10 c11 c12 c13 u0 u1 u2 fu0 fu1 fu2
  obtain ⟨_, c0, c1, c2, c3, c4, c5, c6, c7, c8, c9, c10, c11, c12, c13⟩ := id C
  obtain ⟨_, u0, u1, u2, fu0, fu1, fu2⟩ := id U
  rw [hm2]
  clear hg2 hcap2 cr2
  obtain ⟨_, _⟩ := id Sw
  go_wp2_with fail
  refine (ca _ T).mono ?_
  rintro e w5 ⟨rfl, hb⟩
  replace C := C.kept hb
  replace B := bthen B hb
  replace T := T.kept hb
  replace U := U.kept hb
  replace Sw := Sw.kept hb
  clear hb c0 c1 c2 c3 c4 c5 c6 c7 c8 c9 c10 c11 c12 c13 u0 u1 u2 fu0 fu1 fu2
  obtain ⟨_, c0, c1, c2, c3, c4, c5, c6, c7, c8, c9, c10, c11, c12, c13⟩ := id C
  obtain ⟨_, u0, u1, u2, fu0, fu1, fu2⟩ := id U
  obtain ⟨_, _⟩ := id Sw
  go_wp2_with fail
  refine (cb _ T).mono ?_
  rintro e w6 ⟨rfl, hb⟩
  replace C := C.kept hb
  replace B := bthen B hb
  replace T := T.kept hb
  replace U := U.kept hb
  replace Sw := Sw.kept hb
  clear hb c0 c1 c2 c3 c4 c5 c6 c7 c8 c9 c10 c11 c12 c13 u0 u1 u2 fu0 fu1 fu2
  obtain ⟨_, c0, c1, c2, c3, c4, c5, c6, c7, c8, c9, c10, c11, c12, c13⟩ := id C
  obtain ⟨_, u0, u1, u2, fu0, fu1, fu2⟩ := id U
  obtain ⟨_, _⟩ := id Sw
  clear u0 u1 u2 fu0 fu1 fu2 U ca cb
  clear c0 c1 c2 c3 c4 c5 c6 c7 c8 c9 c10 c11 c12 c13 
  go_wp2
  go_loopw [15, 110] (fun A J wr => ∃ j : Nat, j ≤ m ∧ J = .int .i64 (j : Int) ∧ (∃ s p, A = .int .i64 (z - s) ∧ TwJ r2 j s p) ∧ Below w6.heap.size w6 wr) (fun _ J _ => m - (intOf J).toNat)
  case atStart => exact ⟨0, by omega, rfl, ⟨z, -2, by rw [Int.sub_self], J0⟩, Below.refl _ _⟩
  case round =>
    obtain ⟨j, jm, rfl, ⟨s, p, rfl, I⟩, B4⟩ := hrel
    have Sw3 := Sw.kept B4
    replace B := bthen B B4
    have ib : 0 ≤ s ∧ s ≤ 6136074 ∧ -2 ≤ p ∧ p ≤ 3068036 := ⟨I.2.1, I.2.2.1, I.2.2.2.1, I.2.2.2.2.1⟩
    by_cases hlt : j < m
    · obtain ⟨f, t, hu, f0, ft, t1, stp⟩ := HM.out j hlt
      obtain ⟨pf, I2⟩ := stp s p I
      have I3 := Lib.hid I2
      clear I I2 stp
      obtain ⟨sc0, sc1⟩ := Sw3.c j _ hu
      simp only at sc0 sc1
      have kk : (j : Int) < (m : Int) := by omega
      go_upto_region 22 with fail
      have K := Go.Proofs.YtoeifpeiogeenaaGreatDoor.Pr.Two.new wr (.int .i64 f) (.int .i64 t) 43
      have B5 := balloc B4 (.cells #[.int .i64 f, .int .i64 t] 43)
      clear sc0 sc1
      generalize wr.alloc (.cells #[.int .i64 f, .int .i64 t] 43) = W10 at *
      obtain ⟨_, k0, k1, fk0, fk1⟩ := id K
      go_wp2
      go_roundw
      case rel => exact ⟨j + 1, by omega, by go_num, ⟨s - (t - f + 1), t, by go_num, I3.out⟩, B5⟩
      case measure => simp [intOf]; omega
    · obtain rfl : j = m := by omega
      obtain rfl := HJ.out s p I
      rw [Int.sub_zero]
      have kk : decide ((j : Int) < (j : Int)) = false := decide_eq_false (by omega)
      go_wp2
      go_ret
      exact ⟨by simp <;> omega, B⟩

theorem own_walk (c : CalZ) (L y i k : Int) (w : World) (wf : CalWf c) (wL : (Lit.int .i64 L).wf = true) (wy : (Lit.int .i64 y).wf = true) (wi : (Lit.int .i64 i).wf = true) (wk : (Lit.int .i64 k).wf = true) (tb : FTab w) :
    Calls Tryz.prog 5 #[.agg #[.string c.nm, .int .i64 c.k, .int .i64 c.d, .int .i64 c.m, .int .i64 c.s, .int .i64 c.sh, .int .i64 c.p0, .int .i64 c.p1, .int .i64 c.p2, .int .i64 c.cy, .int .i64 c.ex, .int .i64 c.fi, .int .i64 c.la, .int .i64 c.po], .agg #[.int .i64 L, .int .i64 y, .int .i64 i], .int .i64 k] w fun e w' => e = .returned (.bool true) ∧ Below w.heap.size w w' := by
  by_cases h : 100 < c.nm.size ∨ k < -400 ∨ 400 < k
  · exact own_out c L y i k w tb h
  have dl : decide ((100 : Int) < (c.nm.size : Int)) = false := decide_eq_false (by omega)
  have d3 : decide (k < -400) = false := decide_eq_false (by omega)
  have d4 : decide (400 < k) = false := decide_eq_false (by omega)
  obtain ⟨l, er, R⟩ := twa_ex c L y i 0
  by_cases u : UnitOk c L y i
  case neg =>
    have R0 := R
    rcases R with ⟨h, _⟩ | ⟨h, _⟩ | ⟨_, ck, _⟩
    · exact absurd h u
    · exact absurd h u
    · have ne : er ≠ 0 := fun e => by subst e; exact u ((uchka_ok ck).1 rfl)
      exact own_er c L y i k er l w tb wf.1 dl d3 d4 R0 (.inr ⟨u, ck, rfl, rfl⟩) ne
  obtain ⟨rfl, X⟩ := twa_own R u
  have S : SpanA c L y i (uend c y L (i - 1) + 1) (uend c y L i) 0 := .inl ⟨u, rfl, rfl, rfl⟩
  by_cases h1 : L = 1
  case neg => exact own_one c L y i k _ _ l w tb wf.1 dl d3 d4 R X S (.inl (bne_iff_ne.2 h1))
  by_cases h3 : c.po = 3
  case neg => exact own_one c L y i k _ _ l w tb wf.1 dl d3 d4 R X S (.inr ⟨by rw [h1]; rfl, bne_iff_ne.2 h3⟩)
  subst h1
  have p3 : (c.po != 3) = false := by rw [h3]; rfl
  have k6 : c.k ≠ 6 := fun e => by
    have := (u.1.2.2.2.2.2).2 e
    omega
  obtain ⟨l2, er2, R2⟩ := twa_ex c 1 y i k
  rcases twa_gone k6 u R2 with rfl | rfl
  · have bd := (twa_weeks k6 R2).1
    obtain ⟨a, b, n, W⟩ := bd
    have bd := W.bd k6
    exact own_both c y i k _ _ _ _ l l2 _ w tb wf.1 dl d3 d4 R X S p3 R2 (twa_list R2) (.inl ⟨u.1, by omega, by omega, rfl, rfl⟩) (.inl ⟨u.1, by omega, by omega, rfl, rfl⟩) (twa_sum k6 h3 R2) (by omega) (by omega) (by omega) (by omega)
  · exact own_far c y i k _ _ l l2 w tb wk wf.1 dl d3 d4 R X S p3 R2

end Go.Proofs.YtoeifpeiogeenaaGreatDoor.Bl
