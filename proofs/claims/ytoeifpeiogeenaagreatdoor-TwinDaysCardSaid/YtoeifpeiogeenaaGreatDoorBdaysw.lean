/- TwinDays' walk. -/
import Derived.Test.YtoeifpeiogeenaaGreatDoorJR
import Derived.Test.YtoeifpeiogeenaaGreatDoorBdays
import Derived.Test.YtoeifpeiogeenaaGreatDoorJM
namespace Go.Proofs.YtoeifpeiogeenaaGreatDoor.Bl
set_option linter.unusedSimpArgs false
set_option linter.unusedVariables false
open Go.RowKit Go.Proofs.YtoeifpeiogeenaaGreatDoor.Bn Go.Proofs.YtoeifpeiogeenaaGreatDoor.Bx Go.Proofs.YtoeifpeiogeenaaGreatDoor.Cp Go.Proofs.YtoeifpeiogeenaaGreatDoor.Am Go.Proofs.YtoeifpeiogeenaaGreatDoor.Fp Go.Proofs.YtoeifpeiogeenaaGreatDoor.Ap Go.Proofs.YtoeifpeiogeenaaGreatDoor.Cm Go.Proofs.YtoeifpeiogeenaaGreatDoor.Em Go.Proofs.YtoeifpeiogeenaaGreatDoor.Ep Go.Proofs.YtoeifpeiogeenaaGreatDoor.Rk Go.Proofs.YtoeifpeiogeenaaGreatDoor.Hp Go.Proofs.YtoeifpeiogeenaaGreatDoor.Ip Go.Proofs.YtoeifpeiogeenaaGreatDoor.Jp Go.Proofs.YtoeifpeiogeenaaGreatDoor.Dp Go.Proofs.YtoeifpeiogeenaaGreatDoor.Mp Go.Proofs.YtoeifpeiogeenaaGreatDoor.Bp

set_option maxHeartbeats 16000000

/-- the span that is told, and the next day, as values -/
def TwV (r : List (Int × Int)) (q : Nat) (A N : Value) : Prop := ∃ (at' : Nat) (nx : Int), A = .int .i64 (at' : Int) ∧ N = .int .i64 nx ∧ TwD r q at' nx

set_option maxRecDepth 100000 in
theorem tdays_out (c : CalZ) (L y i k : Int) (w : World) (tb : FTab w) (h : 100 < c.nm.size ∨ c.k = 6) :
    Calls Tryz.prog 8 #[.agg #[.string c.nm, .int .i64 c.k, .int .i64 c.d, .int .i64 c.m, .int .i64 c.s, .int .i64 c.sh, .int .i64 c.p0, .int .i64 c.p1, .int .i64 c.p2, .int .i64 c.cy, .int .i64 c.ex, .int .i64 c.fi, .int .i64 c.la, .int .i64 c.po], .agg #[.int .i64 L, .int .i64 y, .int .i64 i], .int .i64 k] w fun e w' => e = .returned (.bool true) ∧ Below w.heap.size w w' := by
  have T := tb
  have C := CalIn.new w c 24
  have B := balloc (Below.refl _ w) (.cells #[.string c.nm, .int .i64 c.k, .int .i64 c.d, .int .i64 c.m, .int .i64 c.s, .int .i64 c.sh, .int .i64 c.p0, .int .i64 c.p1, .int .i64 c.p2, .int .i64 c.cy, .int .i64 c.ex, .int .i64 c.fi, .int .i64 c.la, .int .i64 c.po] 24)
  replace T := T.alloc (.cells #[.string c.nm, .int .i64 c.k, .int .i64 c.d, .int .i64 c.m, .int .i64 c.s, .int .i64 c.sh, .int .i64 c.p0, .int .i64 c.p1, .int .i64 c.p2, .int .i64 c.cy, .int .i64 c.ex, .int .i64 c.fi, .int .i64 c.la, .int .i64 c.po] 24)
  have U := Go.Proofs.YtoeifpeiogeenaaGreatDoor.Bx.Tri.new (w.alloc (.cells #[.string c.nm, .int .i64 c.k, .int .i64 c.d, .int .i64 c.m, .int .i64 c.s, .int .i64 c.sh, .int .i64 c.p0, .int .i64 c.p1, .int .i64 c.p2, .int .i64 c.cy, .int .i64 c.ex, .int .i64 c.fi, .int .i64 c.la, .int .i64 c.po] 24)) (.int .i64 L) (.int .i64 y) (.int .i64 i) 26
  rw [World.size_alloc] at U
  replace C := C.alloc (.cells #[.int .i64 L, .int .i64 y, .int .i64 i] 26)
  replace B := balloc B (.cells #[.int .i64 L, .int .i64 y, .int .i64 i] 26)
  replace T := T.alloc (.cells #[.int .i64 L, .int .i64 y, .int .i64 i] 26)
  have O : decide ((100 : Int) < (c.nm.size : Int)) = true ∨ (decide ((100 : Int) < (c.nm.size : Int)) = false ∧ (c.k == 6) = true) := by
    by_cases h1 : 100 < c.nm.size
    · exact .inl (decide_eq_true (by omega))
    · exact .inr ⟨decide_eq_false (by omega), beq_iff_eq.2 (by omega)⟩
  clear h
  rcases O with dl | ⟨dl, d6⟩
  all_goals
    go_enter Tryz.func8, Tryz.ntmps8
    go_upto_region 1 with fail
    generalize (w.alloc (.cells #[.string c.nm, .int .i64 c.k, .int .i64 c.d, .int .i64 c.m, .int .i64 c.s, .int .i64 c.sh, .int .i64 c.p0, .int .i64 c.p1, .int .i64 c.p2, .int .i64 c.cy, .int .i64 c.ex, .int .i64 c.fi, .int .i64 c.la, .int .i64 c.po] 24)).alloc (.cells #[.int .i64 L, .int .i64 y, .int .i64 i] 26) = W0 at *
    obtain ⟨_, c0, c1, c2, c3, c4, c5, c6, c7, c8, c9, c10, c11, c12, c13⟩ := id C
    obtain ⟨_, u0, u1, u2, fu0, fu1, fu2⟩ := id U
    go_wp2_with fail
    refine (blive_ok _ T).mono ?_
    rintro e w1 ⟨rfl, hb⟩
    replace C := C.kept hb
    replace B := bthen B hb
    replace T := T.kept hb
    replace U := U.kept hb
    clear hb c0 c1 c2 c3 c4 c5 c6 c7 c8 c9 c10 c11 c12 c13 u0 u1 u2 fu0 fu1 fu2
    obtain ⟨_, c0, c1, c2, c3, c4, c5, c6, c7, c8, c9, c10, c11, c12, c13⟩ := id C
    obtain ⟨_, u0, u1, u2, fu0, fu1, fu2⟩ := id U
    go_wp2
    go_ret
    exact ⟨by simp <;> omega, B⟩

set_option maxRecDepth 100000 in
theorem tdays_er (c : CalZ) (L y i k er : Int) (l : List U3) (w : World) (tb : FTab w) (wk : (Lit.int .i64 k).wf = true) (hm : c.nm.size ≤ maxLen) (dl : decide ((100 : Int) < (c.nm.size : Int)) = false) (d6 : (c.k == 6) = false) (R : TwA c L y i k l er) (S : SpanA c L y i 0 0 er) (ne : er ≠ 0) :
    Calls Tryz.prog 8 #[.agg #[.string c.nm, .int .i64 c.k, .int .i64 c.d, .int .i64 c.m, .int .i64 c.s, .int .i64 c.sh, .int .i64 c.p0, .int .i64 c.p1, .int .i64 c.p2, .int .i64 c.cy, .int .i64 c.ex, .int .i64 c.fi, .int .i64 c.la, .int .i64 c.po], .agg #[.int .i64 L, .int .i64 y, .int .i64 i], .int .i64 k] w fun e w' => e = .returned (.bool true) ∧ Below w.heap.size w w' := by
  have T := tb
  have C := CalIn.new w c 24
  have B := balloc (Below.refl _ w) (.cells #[.string c.nm, .int .i64 c.k, .int .i64 c.d, .int .i64 c.m, .int .i64 c.s, .int .i64 c.sh, .int .i64 c.p0, .int .i64 c.p1, .int .i64 c.p2, .int .i64 c.cy, .int .i64 c.ex, .int .i64 c.fi, .int .i64 c.la, .int .i64 c.po] 24)
  replace T := T.alloc (.cells #[.string c.nm, .int .i64 c.k, .int .i64 c.d, .int .i64 c.m, .int .i64 c.s, .int .i64 c.sh, .int .i64 c.p0, .int .i64 c.p1, .int .i64 c.p2, .int .i64 c.cy, .int .i64 c.ex, .int .i64 c.fi, .int .i64 c.la, .int .i64 c.po] 24)
  have U := Go.Proofs.YtoeifpeiogeenaaGreatDoor.Bx.Tri.new (w.alloc (.cells #[.string c.nm, .int .i64 c.k, .int .i64 c.d, .int .i64 c.m, .int .i64 c.s, .int .i64 c.sh, .int .i64 c.p0, .int .i64 c.p1, .int .i64 c.p2, .int .i64 c.cy, .int .i64 c.ex, .int .i64 c.fi, .int .i64 c.la, .int .i64 c.po] 24)) (.int .i64 L) (.int .i64 y) (.int .i64 i) 26
  rw [World.size_alloc] at U
  replace C := C.alloc (.cells #[.int .i64 L, .int .i64 y, .int .i64 i] 26)
  replace B := balloc B (.cells #[.int .i64 L, .int .i64 y, .int .i64 i] 26)
  replace T := T.alloc (.cells #[.int .i64 L, .int .i64 y, .int .i64 i] 26)
  have cr := fun w T => Runs_er c L y i k er l w R ne wk hm T
  have cs := fun w T => Span_any c L y i 0 0 er w S hm T
  have n1 : (er != 0) = true := bne_iff_ne.2 ne
  have n2 : (er == er) = true := beq_self_eq_true er
  clear R S ne
  go_enter Tryz.func8, Tryz.ntmps8
  go_upto_region 1 with fail
  generalize (w.alloc (.cells #[.string c.nm, .int .i64 c.k, .int .i64 c.d, .int .i64 c.m, .int .i64 c.s, .int .i64 c.sh, .int .i64 c.p0, .int .i64 c.p1, .int .i64 c.p2, .int .i64 c.cy, .int .i64 c.ex, .int .i64 c.fi, .int .i64 c.la, .int .i64 c.po] 24)).alloc (.cells #[.int .i64 L, .int .i64 y, .int .i64 i] 26) = W0 at *
  obtain ⟨_, c0, c1, c2, c3, c4, c5, c6, c7, c8, c9, c10, c11, c12, c13⟩ := id C
  obtain ⟨_, u0, u1, u2, fu0, fu1, fu2⟩ := id U
  go_wp2_with fail
  refine (blive_ok _ T).mono ?_
  rintro e w1 ⟨rfl, hb⟩
  replace C := C.kept hb
  replace B := bthen B hb
  replace T := T.kept hb
  replace U := U.kept hb
  clear hb c0 c1 c2 c3 c4 c5 c6 c7 c8 c9 c10 c11 c12 c13 u0 u1 u2 fu0 fu1 fu2
  obtain ⟨_, c0, c1, c2, c3, c4, c5, c6, c7, c8, c9, c10, c11, c12, c13⟩ := id C
  obtain ⟨_, u0, u1, u2, fu0, fu1, fu2⟩ := id U
  go_wp2_with fail
  refine (cr _ T).mono ?_
  rintro e w2 ⟨rfl, hb⟩
  replace C := C.kept hb
  replace B := bthen B hb
  replace T := T.kept hb
  replace U := U.kept hb
  clear hb c0 c1 c2 c3 c4 c5 c6 c7 c8 c9 c10 c11 c12 c13 u0 u1 u2 fu0 fu1 fu2
  obtain ⟨_, c0, c1, c2, c3, c4, c5, c6, c7, c8, c9, c10, c11, c12, c13⟩ := id C
  obtain ⟨_, u0, u1, u2, fu0, fu1, fu2⟩ := id U
  go_wp2_with fail
  refine (cs _ T).mono ?_
  rintro e w3 ⟨rfl, hb⟩
  replace C := C.kept hb
  replace B := bthen B hb
  replace T := T.kept hb
  replace U := U.kept hb
  clear hb c0 c1 c2 c3 c4 c5 c6 c7 c8 c9 c10 c11 c12 c13 u0 u1 u2 fu0 fu1 fu2
  obtain ⟨_, c0, c1, c2, c3, c4, c5, c6, c7, c8, c9, c10, c11, c12, c13⟩ := id C
  obtain ⟨_, u0, u1, u2, fu0, fu1, fu2⟩ := id U
  have K := Go.Proofs.YtoeifpeiogeenaaGreatDoor.Pr.Two.new w3 (.int .i64 0) (.int .i64 0) 43
  replace C := C.alloc (.cells #[.int .i64 0, .int .i64 0] 43)
  replace T := T.alloc (.cells #[.int .i64 0, .int .i64 0] 43)
  replace U := U.alloc (.cells #[.int .i64 0, .int .i64 0] 43)
  replace B := balloc B (.cells #[.int .i64 0, .int .i64 0] 43)
  clear c0 c1 c2 c3 c4 c5 c6 c7 c8 c9 c10 c11 c12 c13 u0 u1 u2 fu0 fu1 fu2
  obtain ⟨_, c0, c1, c2, c3, c4, c5, c6, c7, c8, c9, c10, c11, c12, c13⟩ := id C
  obtain ⟨_, u0, u1, u2, fu0, fu1, fu2⟩ := id U
  go_wp2
  go_ret
  exact ⟨by simp <;> omega, B⟩

set_option maxRecDepth 100000 in
theorem tdays_far (c : CalZ) (L y i k s0 : Int) (K7 : Nat) (l : List U3) (w : World) (tb : FTab w) (wk : (Lit.int .i64 k).wf = true) (hm : c.nm.size ≤ maxLen) (dl : decide ((100 : Int) < (c.nm.size : Int)) = false) (d6 : (c.k == 6) = false) (R : TwA c L y i k l 11) (S : SpanA c L y i s0 (s0 + (K7 : Int) - 1) 0) (D : CDayA c s0 k 0 11) (s00 : 0 ≤ s0) (s01 : s0 ≤ 3068036) (K1 : 1 ≤ K7) (K2 : K7 ≤ 371) :
    Calls Tryz.prog 8 #[.agg #[.string c.nm, .int .i64 c.k, .int .i64 c.d, .int .i64 c.m, .int .i64 c.s, .int .i64 c.sh, .int .i64 c.p0, .int .i64 c.p1, .int .i64 c.p2, .int .i64 c.cy, .int .i64 c.ex, .int .i64 c.fi, .int .i64 c.la, .int .i64 c.po], .agg #[.int .i64 L, .int .i64 y, .int .i64 i], .int .i64 k] w fun e w' => e = .returned (.bool true) ∧ Below w.heap.size w w' := by
  have T := tb
  have C := CalIn.new w c 24
  have B := balloc (Below.refl _ w) (.cells #[.string c.nm, .int .i64 c.k, .int .i64 c.d, .int .i64 c.m, .int .i64 c.s, .int .i64 c.sh, .int .i64 c.p0, .int .i64 c.p1, .int .i64 c.p2, .int .i64 c.cy, .int .i64 c.ex, .int .i64 c.fi, .int .i64 c.la, .int .i64 c.po] 24)
  replace T := T.alloc (.cells #[.string c.nm, .int .i64 c.k, .int .i64 c.d, .int .i64 c.m, .int .i64 c.s, .int .i64 c.sh, .int .i64 c.p0, .int .i64 c.p1, .int .i64 c.p2, .int .i64 c.cy, .int .i64 c.ex, .int .i64 c.fi, .int .i64 c.la, .int .i64 c.po] 24)
  have U := Go.Proofs.YtoeifpeiogeenaaGreatDoor.Bx.Tri.new (w.alloc (.cells #[.string c.nm, .int .i64 c.k, .int .i64 c.d, .int .i64 c.m, .int .i64 c.s, .int .i64 c.sh, .int .i64 c.p0, .int .i64 c.p1, .int .i64 c.p2, .int .i64 c.cy, .int .i64 c.ex, .int .i64 c.fi, .int .i64 c.la, .int .i64 c.po] 24)) (.int .i64 L) (.int .i64 y) (.int .i64 i) 26
  rw [World.size_alloc] at U
  replace C := C.alloc (.cells #[.int .i64 L, .int .i64 y, .int .i64 i] 26)
  replace B := balloc B (.cells #[.int .i64 L, .int .i64 y, .int .i64 i] 26)
  replace T := T.alloc (.cells #[.int .i64 L, .int .i64 y, .int .i64 i] 26)
  have cr := fun w T => Runs_er c L y i k 11 l w R (by decide) wk hm T
  have cs := fun w T => Span_any c L y i s0 (s0 + (K7 : Int) - 1) 0 w S hm T
  have cd := fun w T => CDay_any c s0 k 0 11 w D wk hm T
  have q1 : (1 : Int) ≤ (K7 : Int) := by omega
  have q2 : (K7 : Int) ≤ 371 := by omega
  clear R S D
  go_enter Tryz.func8, Tryz.ntmps8
  go_upto_region 1 with fail
  generalize (w.alloc (.cells #[.string c.nm, .int .i64 c.k, .int .i64 c.d, .int .i64 c.m, .int .i64 c.s, .int .i64 c.sh, .int .i64 c.p0, .int .i64 c.p1, .int .i64 c.p2, .int .i64 c.cy, .int .i64 c.ex, .int .i64 c.fi, .int .i64 c.la, .int .i64 c.po] 24)).alloc (.cells #[.int .i64 L, .int .i64 y, .int .i64 i] 26) = W0 at *
  obtain ⟨_, c0, c1, c2, c3, c4, c5, c6, c7, c8, c9, c10, c11, c12, c13⟩ := id C
  obtain ⟨_, u0, u1, u2, fu0, fu1, fu2⟩ := id U
  go_wp2_with fail
  refine (blive_ok _ T).mono ?_
  rintro e w1 ⟨rfl, hb⟩
  replace C := C.kept hb
  replace B := bthen B hb
  replace T := T.kept hb
  replace U := U.kept hb
  clear hb c0 c1 c2 c3 c4 c5 c6 c7 c8 c9 c10 c11 c12 c13 u0 u1 u2 fu0 fu1 fu2
  obtain ⟨_, c0, c1, c2, c3, c4, c5, c6, c7, c8, c9, c10, c11, c12, c13⟩ := id C
  obtain ⟨_, u0, u1, u2, fu0, fu1, fu2⟩ := id U
  go_wp2_with fail
  refine (cr _ T).mono ?_
  rintro e w2 ⟨rfl, hb⟩
  replace C := C.kept hb
  replace B := bthen B hb
  replace T := T.kept hb
  replace U := U.kept hb
  clear hb c0 c1 c2 c3 c4 c5 c6 c7 c8 c9 c10 c11 c12 c13 u0 u1 u2 fu0 fu1 fu2
  obtain ⟨_, c0, c1, c2, c3, c4, c5, c6, c7, c8, c9, c10, c11, c12, c13⟩ := id C
  obtain ⟨_, u0, u1, u2, fu0, fu1, fu2⟩ := id U
  go_wp2_with fail
  refine (cs _ T).mono ?_
  rintro e w3 ⟨rfl, hb⟩
  replace C := C.kept hb
  replace B := bthen B hb
  replace T := T.kept hb
  replace U := U.kept hb
  clear hb c0 c1 c2 c3 c4 c5 c6 c7 c8 c9 c10 c11 c12 c13 u0 u1 u2 fu0 fu1 fu2
  obtain ⟨_, c0, c1, c2, c3, c4, c5, c6, c7, c8, c9, c10, c11, c12, c13⟩ := id C
  obtain ⟨_, u0, u1, u2, fu0, fu1, fu2⟩ := id U
  have K := Go.Proofs.YtoeifpeiogeenaaGreatDoor.Pr.Two.new w3 (.int .i64 s0) (.int .i64 (s0 + (K7 : Int) - 1)) 43
  replace C := C.alloc (.cells #[.int .i64 s0, .int .i64 (s0 + (K7 : Int) - 1)] 43)
  replace T := T.alloc (.cells #[.int .i64 s0, .int .i64 (s0 + (K7 : Int) - 1)] 43)
  replace U := U.alloc (.cells #[.int .i64 s0, .int .i64 (s0 + (K7 : Int) - 1)] 43)
  replace B := balloc B (.cells #[.int .i64 s0, .int .i64 (s0 + (K7 : Int) - 1)] 43)
  clear c0 c1 c2 c3 c4 c5 c6 c7 c8 c9 c10 c11 c12 c13 u0 u1 u2 fu0 fu1 fu2
  obtain ⟨_, c0, c1, c2, c3, c4, c5, c6, c7, c8, c9, c10, c11, c12, c13⟩ := id C
  obtain ⟨_, u0, u1, u2, fu0, fu1, fu2⟩ := id U
  obtain ⟨_, k0, k1, fk0, fk1⟩ := id K
  go_wp2
  refine wp_loop_rounds 1 ?_
  rw [rounds_succ]
  go_wp2_with fail
  refine (cd _ T).mono ?_
  rintro e w9 ⟨rfl, hb⟩
  go_wp2
  go_ret
  exact ⟨by simp <;> omega, bthen B hb⟩

set_option maxRecDepth 100000 in
theorem tdays_none12 (c : CalZ) (L y i k s0 : Int) (K7 : Nat) (Q : Nat → Nat) (l : List U3) (w : World) (tb : FTab w) (wk : (Lit.int .i64 k).wf = true) (hm : c.nm.size ≤ maxLen) (dl : decide ((100 : Int) < (c.nm.size : Int)) = false) (d6 : (c.k == 6) = false) (R : TwA c L y i k l 12) (S : SpanA c L y i s0 (s0 + (K7 : Int) - 1) 0)
    (HD : ∀ j : Nat, j < K7 → ∃ v g, CDayA c (s0 + (j : Int)) k v g ∧ ((g = 12 ∧ Q (j + 1) = Q j) ∨ (g = 0 ∧ Q (j + 1) = Q j + 1))) (Q0 : Q 0 = 0) (Qle : ∀ j, Q j ≤ j) (E : Q K7 = 0) (s00 : 0 ≤ s0) (s01 : s0 ≤ 3068036) (K1 : 1 ≤ K7) (K2 : K7 ≤ 371) :
    Calls Tryz.prog 8 #[.agg #[.string c.nm, .int .i64 c.k, .int .i64 c.d, .int .i64 c.m, .int .i64 c.s, .int .i64 c.sh, .int .i64 c.p0, .int .i64 c.p1, .int .i64 c.p2, .int .i64 c.cy, .int .i64 c.ex, .int .i64 c.fi, .int .i64 c.la, .int .i64 c.po], .agg #[.int .i64 L, .int .i64 y, .int .i64 i], .int .i64 k] w fun e w' => e = .returned (.bool true) ∧ Below w.heap.size w w' := by
  have T := tb
  have C := CalIn.new w c 24
  have B := balloc (Below.refl _ w) (.cells #[.string c.nm, .int .i64 c.k, .int .i64 c.d, .int .i64 c.m, .int .i64 c.s, .int .i64 c.sh, .int .i64 c.p0, .int .i64 c.p1, .int .i64 c.p2, .int .i64 c.cy, .int .i64 c.ex, .int .i64 c.fi, .int .i64 c.la, .int .i64 c.po] 24)
  replace T := T.alloc (.cells #[.string c.nm, .int .i64 c.k, .int .i64 c.d, .int .i64 c.m, .int .i64 c.s, .int .i64 c.sh, .int .i64 c.p0, .int .i64 c.p1, .int .i64 c.p2, .int .i64 c.cy, .int .i64 c.ex, .int .i64 c.fi, .int .i64 c.la, .int .i64 c.po] 24)
  have U := Go.Proofs.YtoeifpeiogeenaaGreatDoor.Bx.Tri.new (w.alloc (.cells #[.string c.nm, .int .i64 c.k, .int .i64 c.d, .int .i64 c.m, .int .i64 c.s, .int .i64 c.sh, .int .i64 c.p0, .int .i64 c.p1, .int .i64 c.p2, .int .i64 c.cy, .int .i64 c.ex, .int .i64 c.fi, .int .i64 c.la, .int .i64 c.po] 24)) (.int .i64 L) (.int .i64 y) (.int .i64 i) 26
  rw [World.size_alloc] at U
  replace C := C.alloc (.cells #[.int .i64 L, .int .i64 y, .int .i64 i] 26)
  replace B := balloc B (.cells #[.int .i64 L, .int .i64 y, .int .i64 i] 26)
  replace T := T.alloc (.cells #[.int .i64 L, .int .i64 y, .int .i64 i] 26)
  have cs := fun w T => Span_any c L y i s0 (s0 + (K7 : Int) - 1) 0 w S hm T
  have HQ : Hid (∀ j : Nat, j < K7 → ∃ v g : Int, ((g = 12 ∧ Q (j + 1) = Q j) ∨ (g = 0 ∧ Q (j + 1) = Q j + 1)) ∧ ∀ w, FTab w → Calls Tryz.prog 24 #[.agg #[.string c.nm, .int .i64 c.k, .int .i64 c.d, .int .i64 c.m, .int .i64 c.s, .int .i64 c.sh, .int .i64 c.p0, .int .i64 c.p1, .int .i64 c.p2, .int .i64 c.cy, .int .i64 c.ex, .int .i64 c.fi, .int .i64 c.la, .int .i64 c.po], .int .i64 (s0 + (j : Int)), .int .i64 k] w fun e w' => e = .returned (.tuple #[.int .i64 v, .int .i64 g]) ∧ Below w.heap.size w w') := Lib.hid (fun j hj => by
    obtain ⟨v, g, h1, h2⟩ := HD j hj
    exact ⟨v, g, h2, fun w T => CDay_any c _ k v g w h1 wk hm T⟩)
  have q1 : (1 : Int) ≤ (K7 : Int) := by omega
  have q2 : (K7 : Int) ≤ 371 := by omega
  have HL := Lib.hid Qle
  have H0 := Lib.hid Q0
  have HE := Lib.hid E
  have cr := fun w T => Runs_er c L y i k 12 l w R (by decide) wk hm T
  clear HD S Qle Q0 R E
  go_enter Tryz.func8, Tryz.ntmps8
  go_upto_region 1 with fail
  generalize (w.alloc (.cells #[.string c.nm, .int .i64 c.k, .int .i64 c.d, .int .i64 c.m, .int .i64 c.s, .int .i64 c.sh, .int .i64 c.p0, .int .i64 c.p1, .int .i64 c.p2, .int .i64 c.cy, .int .i64 c.ex, .int .i64 c.fi, .int .i64 c.la, .int .i64 c.po] 24)).alloc (.cells #[.int .i64 L, .int .i64 y, .int .i64 i] 26) = W0 at *
  obtain ⟨_, c0, c1, c2, c3, c4, c5, c6, c7, c8, c9, c10, c11, c12, c13⟩ := id C
  obtain ⟨_, u0, u1, u2, fu0, fu1, fu2⟩ := id U
  go_wp2_with fail
  refine (blive_ok _ T).mono ?_
  rintro e w1 ⟨rfl, hb⟩
  replace C := C.kept hb
  replace B := bthen B hb
  replace T := T.kept hb
  replace U := U.kept hb
  clear hb c0 c1 c2 c3 c4 c5 c6 c7 c8 c9 c10 c11 c12 c13 u0 u1 u2 fu0 fu1 fu2
  obtain ⟨_, c0, c1, c2, c3, c4, c5, c6, c7, c8, c9, c10, c11, c12, c13⟩ := id C
  obtain ⟨_, u0, u1, u2, fu0, fu1, fu2⟩ := id U
  go_wp2_with fail
  refine (cr _ T).mono ?_
  rintro e w2 ⟨rfl, hb⟩
  replace C := C.kept hb
  replace B := bthen B hb
  replace T := T.kept hb
  replace U := U.kept hb
  clear hb c0 c1 c2 c3 c4 c5 c6 c7 c8 c9 c10 c11 c12 c13 u0 u1 u2 fu0 fu1 fu2
  obtain ⟨_, c0, c1, c2, c3, c4, c5, c6, c7, c8, c9, c10, c11, c12, c13⟩ := id C
  obtain ⟨_, u0, u1, u2, fu0, fu1, fu2⟩ := id U
  go_wp2_with fail
  refine (cs _ T).mono ?_
  rintro e w3 ⟨rfl, hb⟩
  replace C := C.kept hb
  replace B := bthen B hb
  replace T := T.kept hb
  replace U := U.kept hb
  clear hb c0 c1 c2 c3 c4 c5 c6 c7 c8 c9 c10 c11 c12 c13 u0 u1 u2 fu0 fu1 fu2
  obtain ⟨_, c0, c1, c2, c3, c4, c5, c6, c7, c8, c9, c10, c11, c12, c13⟩ := id C
  obtain ⟨_, u0, u1, u2, fu0, fu1, fu2⟩ := id U
  have K := Go.Proofs.YtoeifpeiogeenaaGreatDoor.Pr.Two.new w3 (.int .i64 s0) (.int .i64 (s0 + (K7 : Int) - 1)) 43
  replace C := C.alloc (.cells #[.int .i64 s0, .int .i64 (s0 + (K7 : Int) - 1)] 43)
  replace T := T.alloc (.cells #[.int .i64 s0, .int .i64 (s0 + (K7 : Int) - 1)] 43)
  replace U := U.alloc (.cells #[.int .i64 s0, .int .i64 (s0 + (K7 : Int) - 1)] 43)
  replace B := balloc B (.cells #[.int .i64 s0, .int .i64 (s0 + (K7 : Int) - 1)] 43)
  clear c0 c1 c2 c3 c4 c5 c6 c7 c8 c9 c10 c11 c12 c13 u0 u1 u2 fu0 fu1 fu2
  obtain ⟨_, c0, c1, c2, c3, c4, c5, c6, c7, c8, c9, c10, c11, c12, c13⟩ := id C
  obtain ⟨_, u0, u1, u2, fu0, fu1, fu2⟩ := id U
  obtain ⟨_, k0, k1, fk0, fk1⟩ := id K
  clear cs cr u0 u1 u2 fu0 fu1 fu2 U
  go_upto_region 7 with fail
  generalize hWK : w3.alloc (.cells #[.int .i64 s0, .int .i64 (s0 + (K7 : Int) - 1)] 43) = WK at *
  obtain ⟨KB, hKB⟩ : ∃ KB, w3.heap.size = KB := ⟨_, rfl⟩
  rw [hKB] at K ⊢
  clear hWK hKB k0 k1 fk0 fk1
  clear c0 c1 c2 c3 c4 c5 c6 c7 c8 c9 c10 c11 c12 c13 
  obtain ⟨_, k0, k1, fk0, fk1⟩ := id K
  go_wp2
  clear k0 k1 fk0 fk1
  go_loopw [11, 12, 13, 14] (fun A M N D wr => ∃ j : Nat, j ≤ K7 ∧ D = .int .i64 (s0 + (j : Int)) ∧ A = .int .i64 0 ∧ N = .int .i64 0 ∧ M = .int .i64 (Q j : Int) ∧ Below WK.heap.size WK wr) (fun _ _ _ D _ => (s0 + (K7 : Int) - intOf D).toNat)
  case atStart => exact ⟨0, by omega, by simp, rfl, rfl, by rw [H0.out]; rfl, Below.refl _ _⟩
  case round =>
    obtain ⟨j, jK, rfl, rfl, rfl, rfl, B2⟩ := hrel
    have C2 := C.kept B2
    have T2 := T.kept B2
    have K2' := K.kept B2
    obtain ⟨_, k0, k1, fk0, fk1⟩ := id K2'
    obtain ⟨_, c0, c1, c2, c3, c4, c5, c6, c7, c8, c9, c10, c11, c12, c13⟩ := id C2
    by_cases hlt : j < K7
    · obtain ⟨v, g, OO, cd⟩ := HQ.out j hlt
      have ql := HL.out j
      obtain ⟨q, hq⟩ : ∃ q, Q j = q := ⟨_, rfl⟩
      rw [hq] at OO ql
      rw [hq]
      have HOO := Lib.hid OO
      have kk : s0 + (j : Int) ≤ s0 + (K7 : Int) - 1 := by omega
      clear OO hq
      go_wp2_with fail
      refine (cd _ T2).mono ?_
      rintro e w9 ⟨rfl, hb⟩
      have B9 := bthen B2 hb
      clear k0 k1 fk0 fk1 c0 c1 c2 c3 c4 c5 c6 c7 c8 c9 c10 c11 c12 c13 C2 T2 K2' cd
      have O := HOO.out
      clear HOO
      rcases O with ⟨rfl, e1⟩ | ⟨rfl, e1⟩
      · have HE1 := Lib.hid e1
        clear e1
        go_wp2
        go_roundw
        case rel => exact ⟨j + 1, by omega, by go_num, rfl, rfl, by rw [HE1.out], B9⟩
        case measure => simp [intOf]; omega
      · have HE1 := Lib.hid e1
        clear e1
        go_wp2
        go_roundw
        case rel => exact ⟨j + 1, by omega, by go_num, rfl, rfl, by rw [HE1.out]; go_num, B9⟩
        case measure => simp [intOf]; omega
    · obtain rfl : j = K7 := by omega
      have kk : ¬ s0 + (j : Int) ≤ s0 + (j : Int) - 1 := by omega
      have kk2 : decide (s0 + (j : Int) ≤ s0 + (j : Int) - 1) = false := decide_eq_false (by omega)
      clear C2 T2 K2' HQ
      rw [HE.out]
      go_wp2
      go_ret
      exact ⟨by simp <;> omega, bthen B B2⟩

set_option maxRecDepth 100000 in
theorem tdays_none11 (c : CalZ) (L y i k s0 : Int) (K7 : Nat) (Q : Nat → Nat) (l : List U3) (w : World) (tb : FTab w) (wk : (Lit.int .i64 k).wf = true) (hm : c.nm.size ≤ maxLen) (dl : decide ((100 : Int) < (c.nm.size : Int)) = false) (d6 : (c.k == 6) = false) (R : TwA c L y i k l 11) (S : SpanA c L y i s0 (s0 + (K7 : Int) - 1) 0)
    (HD : ∀ j : Nat, j < K7 → ∃ v g, CDayA c (s0 + (j : Int)) k v g ∧ ((g = 12 ∧ Q (j + 1) = Q j) ∨ (g = 0 ∧ Q (j + 1) = Q j + 1))) (Q0 : Q 0 = 0) (Qle : ∀ j, Q j ≤ j) (E : 0 < Q K7) (s00 : 0 ≤ s0) (s01 : s0 ≤ 3068036) (K1 : 1 ≤ K7) (K2 : K7 ≤ 371) :
    Calls Tryz.prog 8 #[.agg #[.string c.nm, .int .i64 c.k, .int .i64 c.d, .int .i64 c.m, .int .i64 c.s, .int .i64 c.sh, .int .i64 c.p0, .int .i64 c.p1, .int .i64 c.p2, .int .i64 c.cy, .int .i64 c.ex, .int .i64 c.fi, .int .i64 c.la, .int .i64 c.po], .agg #[.int .i64 L, .int .i64 y, .int .i64 i], .int .i64 k] w fun e w' => e = .returned (.bool true) ∧ Below w.heap.size w w' := by
  have T := tb
  have C := CalIn.new w c 24
  have B := balloc (Below.refl _ w) (.cells #[.string c.nm, .int .i64 c.k, .int .i64 c.d, .int .i64 c.m, .int .i64 c.s, .int .i64 c.sh, .int .i64 c.p0, .int .i64 c.p1, .int .i64 c.p2, .int .i64 c.cy, .int .i64 c.ex, .int .i64 c.fi, .int .i64 c.la, .int .i64 c.po] 24)
  replace T := T.alloc (.cells #[.string c.nm, .int .i64 c.k, .int .i64 c.d, .int .i64 c.m, .int .i64 c.s, .int .i64 c.sh, .int .i64 c.p0, .int .i64 c.p1, .int .i64 c.p2, .int .i64 c.cy, .int .i64 c.ex, .int .i64 c.fi, .int .i64 c.la, .int .i64 c.po] 24)
  have U := Go.Proofs.YtoeifpeiogeenaaGreatDoor.Bx.Tri.new (w.alloc (.cells #[.string c.nm, .int .i64 c.k, .int .i64 c.d, .int .i64 c.m, .int .i64 c.s, .int .i64 c.sh, .int .i64 c.p0, .int .i64 c.p1, .int .i64 c.p2, .int .i64 c.cy, .int .i64 c.ex, .int .i64 c.fi, .int .i64 c.la, .int .i64 c.po] 24)) (.int .i64 L) (.int .i64 y) (.int .i64 i) 26
  rw [World.size_alloc] at U
  replace C := C.alloc (.cells #[.int .i64 L, .int .i64 y, .int .i64 i] 26)
  replace B := balloc B (.cells #[.int .i64 L, .int .i64 y, .int .i64 i] 26)
  replace T := T.alloc (.cells #[.int .i64 L, .int .i64 y, .int .i64 i] 26)
  have cs := fun w T => Span_any c L y i s0 (s0 + (K7 : Int) - 1) 0 w S hm T
  have HQ : Hid (∀ j : Nat, j < K7 → ∃ v g : Int, ((g = 12 ∧ Q (j + 1) = Q j) ∨ (g = 0 ∧ Q (j + 1) = Q j + 1)) ∧ ∀ w, FTab w → Calls Tryz.prog 24 #[.agg #[.string c.nm, .int .i64 c.k, .int .i64 c.d, .int .i64 c.m, .int .i64 c.s, .int .i64 c.sh, .int .i64 c.p0, .int .i64 c.p1, .int .i64 c.p2, .int .i64 c.cy, .int .i64 c.ex, .int .i64 c.fi, .int .i64 c.la, .int .i64 c.po], .int .i64 (s0 + (j : Int)), .int .i64 k] w fun e w' => e = .returned (.tuple #[.int .i64 v, .int .i64 g]) ∧ Below w.heap.size w w') := Lib.hid (fun j hj => by
    obtain ⟨v, g, h1, h2⟩ := HD j hj
    exact ⟨v, g, h2, fun w T => CDay_any c _ k v g w h1 wk hm T⟩)
  have q1 : (1 : Int) ≤ (K7 : Int) := by omega
  have q2 : (K7 : Int) ≤ 371 := by omega
  have HL := Lib.hid Qle
  have H0 := Lib.hid Q0
  have HE := Lib.hid E
  have cr := fun w T => Runs_er c L y i k 11 l w R (by decide) wk hm T
  clear HD S Qle Q0 R E
  go_enter Tryz.func8, Tryz.ntmps8
  go_upto_region 1 with fail
  generalize (w.alloc (.cells #[.string c.nm, .int .i64 c.k, .int .i64 c.d, .int .i64 c.m, .int .i64 c.s, .int .i64 c.sh, .int .i64 c.p0, .int .i64 c.p1, .int .i64 c.p2, .int .i64 c.cy, .int .i64 c.ex, .int .i64 c.fi, .int .i64 c.la, .int .i64 c.po] 24)).alloc (.cells #[.int .i64 L, .int .i64 y, .int .i64 i] 26) = W0 at *
  obtain ⟨_, c0, c1, c2, c3, c4, c5, c6, c7, c8, c9, c10, c11, c12, c13⟩ := id C
  obtain ⟨_, u0, u1, u2, fu0, fu1, fu2⟩ := id U
  go_wp2_with fail
  refine (blive_ok _ T).mono ?_
  rintro e w1 ⟨rfl, hb⟩
  replace C := C.kept hb
  replace B := bthen B hb
  replace T := T.kept hb
  replace U := U.kept hb
  clear hb c0 c1 c2 c3 c4 c5 c6 c7 c8 c9 c10 c11 c12 c13 u0 u1 u2 fu0 fu1 fu2
  obtain ⟨_, c0, c1, c2, c3, c4, c5, c6, c7, c8, c9, c10, c11, c12, c13⟩ := id C
  obtain ⟨_, u0, u1, u2, fu0, fu1, fu2⟩ := id U
  go_wp2_with fail
  refine (cr _ T).mono ?_
  rintro e w2 ⟨rfl, hb⟩
  replace C := C.kept hb
  replace B := bthen B hb
  replace T := T.kept hb
  replace U := U.kept hb
  clear hb c0 c1 c2 c3 c4 c5 c6 c7 c8 c9 c10 c11 c12 c13 u0 u1 u2 fu0 fu1 fu2
  obtain ⟨_, c0, c1, c2, c3, c4, c5, c6, c7, c8, c9, c10, c11, c12, c13⟩ := id C
  obtain ⟨_, u0, u1, u2, fu0, fu1, fu2⟩ := id U
  go_wp2_with fail
  refine (cs _ T).mono ?_
  rintro e w3 ⟨rfl, hb⟩
  replace C := C.kept hb
  replace B := bthen B hb
  replace T := T.kept hb
  replace U := U.kept hb
  clear hb c0 c1 c2 c3 c4 c5 c6 c7 c8 c9 c10 c11 c12 c13 u0 u1 u2 fu0 fu1 fu2
  obtain ⟨_, c0, c1, c2, c3, c4, c5, c6, c7, c8, c9, c10, c11, c12, c13⟩ := id C
  obtain ⟨_, u0, u1, u2, fu0, fu1, fu2⟩ := id U
  have K := Go.Proofs.YtoeifpeiogeenaaGreatDoor.Pr.Two.new w3 (.int .i64 s0) (.int .i64 (s0 + (K7 : Int) - 1)) 43
  replace C := C.alloc (.cells #[.int .i64 s0, .int .i64 (s0 + (K7 : Int) - 1)] 43)
  replace T := T.alloc (.cells #[.int .i64 s0, .int .i64 (s0 + (K7 : Int) - 1)] 43)
  replace U := U.alloc (.cells #[.int .i64 s0, .int .i64 (s0 + (K7 : Int) - 1)] 43)
  replace B := balloc B (.cells #[.int .i64 s0, .int .i64 (s0 + (K7 : Int) - 1)] 43)
  clear c0 c1 c2 c3 c4 c5 c6 c7 c8 c9 c10 c11 c12 c13 u0 u1 u2 fu0 fu1 fu2
  obtain ⟨_, c0, c1, c2, c3, c4, c5, c6, c7, c8, c9, c10, c11, c12, c13⟩ := id C
  obtain ⟨_, u0, u1, u2, fu0, fu1, fu2⟩ := id U
  obtain ⟨_, k0, k1, fk0, fk1⟩ := id K
  clear cs cr u0 u1 u2 fu0 fu1 fu2 U
  go_upto_region 7 with fail
  generalize hWK : w3.alloc (.cells #[.int .i64 s0, .int .i64 (s0 + (K7 : Int) - 1)] 43) = WK at *
  obtain ⟨KB, hKB⟩ : ∃ KB, w3.heap.size = KB := ⟨_, rfl⟩
  rw [hKB] at K ⊢
  clear hWK hKB k0 k1 fk0 fk1
  clear c0 c1 c2 c3 c4 c5 c6 c7 c8 c9 c10 c11 c12 c13 
  obtain ⟨_, k0, k1, fk0, fk1⟩ := id K
  go_wp2
  clear k0 k1 fk0 fk1
  go_loopw [11, 12, 13, 14] (fun A M N D wr => ∃ j : Nat, j ≤ K7 ∧ D = .int .i64 (s0 + (j : Int)) ∧ A = .int .i64 0 ∧ N = .int .i64 0 ∧ M = .int .i64 (Q j : Int) ∧ Below WK.heap.size WK wr) (fun _ _ _ D _ => (s0 + (K7 : Int) - intOf D).toNat)
  case atStart => exact ⟨0, by omega, by simp, rfl, rfl, by rw [H0.out]; rfl, Below.refl _ _⟩
  case round =>
    obtain ⟨j, jK, rfl, rfl, rfl, rfl, B2⟩ := hrel
    have C2 := C.kept B2
    have T2 := T.kept B2
    have K2' := K.kept B2
    obtain ⟨_, k0, k1, fk0, fk1⟩ := id K2'
    obtain ⟨_, c0, c1, c2, c3, c4, c5, c6, c7, c8, c9, c10, c11, c12, c13⟩ := id C2
    by_cases hlt : j < K7
    · obtain ⟨v, g, OO, cd⟩ := HQ.out j hlt
      have ql := HL.out j
      obtain ⟨q, hq⟩ : ∃ q, Q j = q := ⟨_, rfl⟩
      rw [hq] at OO ql
      rw [hq]
      have HOO := Lib.hid OO
      have kk : s0 + (j : Int) ≤ s0 + (K7 : Int) - 1 := by omega
      clear OO hq
      go_wp2_with fail
      refine (cd _ T2).mono ?_
      rintro e w9 ⟨rfl, hb⟩
      have B9 := bthen B2 hb
      clear k0 k1 fk0 fk1 c0 c1 c2 c3 c4 c5 c6 c7 c8 c9 c10 c11 c12 c13 C2 T2 K2' cd
      have O := HOO.out
      clear HOO
      rcases O with ⟨rfl, e1⟩ | ⟨rfl, e1⟩
      · have HE1 := Lib.hid e1
        clear e1
        go_wp2
        go_roundw
        case rel => exact ⟨j + 1, by omega, by go_num, rfl, rfl, by rw [HE1.out], B9⟩
        case measure => simp [intOf]; omega
      · have HE1 := Lib.hid e1
        clear e1
        go_wp2
        go_roundw
        case rel => exact ⟨j + 1, by omega, by go_num, rfl, rfl, by rw [HE1.out]; go_num, B9⟩
        case measure => simp [intOf]; omega
    · obtain rfl : j = K7 := by omega
      have kk : ¬ s0 + (j : Int) ≤ s0 + (j : Int) - 1 := by omega
      have kk2 : decide (s0 + (j : Int) ≤ s0 + (j : Int) - 1) = false := decide_eq_false (by omega)
      clear C2 T2 K2' HQ
      have qe := HE.out
      generalize Q j = q at *
      have qe2 : decide ((0 : Int) < (q : Int)) = true := decide_eq_true (by omega)
      have qe3 : (0 : Int) < (q : Int) := by omega
      have qe4 : decide (0 < q) = true := decide_eq_true qe
      go_wp2
      go_ret
      exact ⟨by simp <;> omega, bthen B B2⟩

set_option maxRecDepth 100000 in
theorem tdays_ok (c : CalZ) (L y i k s0 : Int) (K7 : Nat) (Q : Nat → Nat) (l : List U3) (r : List (Int × Int)) (w : World) (tb : FTab w) (wk : (Lit.int .i64 k).wf = true) (hm : c.nm.size ≤ maxLen) (dl : decide ((100 : Int) < (c.nm.size : Int)) = false) (d6 : (c.k == 6) = false) (R : TwA c L y i k l 0) (X : TwList c l r) (S : SpanA c L y i s0 (s0 + (K7 : Int) - 1) 0)
    (HD : ∀ j : Nat, j < K7 → ∃ v g, CDayA c (s0 + (j : Int)) k v g ∧ ((g = 12 ∧ Q (j + 1) = Q j) ∨ (g = 0 ∧ Q (j + 1) = Q j + 1 ∧ v = dval r (Q j) ∧ (Q j : Int) < lens r))) (Q0 : Q 0 = 0) (Qle : ∀ j, Q j ≤ j) (E : (Q K7 : Int) = lens r) (s00 : 0 ≤ s0) (s01 : s0 ≤ 3068036) (K1 : 1 ≤ K7) (K2 : K7 ≤ 371) :
    Calls Tryz.prog 8 #[.agg #[.string c.nm, .int .i64 c.k, .int .i64 c.d, .int .i64 c.m, .int .i64 c.s, .int .i64 c.sh, .int .i64 c.p0, .int .i64 c.p1, .int .i64 c.p2, .int .i64 c.cy, .int .i64 c.ex, .int .i64 c.fi, .int .i64 c.la, .int .i64 c.po], .agg #[.int .i64 L, .int .i64 y, .int .i64 i], .int .i64 k] w fun e w' => e = .returned (.bool true) ∧ Below w.heap.size w w' := by
  have T := tb
  have C := CalIn.new w c 24
  have B := balloc (Below.refl _ w) (.cells #[.string c.nm, .int .i64 c.k, .int .i64 c.d, .int .i64 c.m, .int .i64 c.s, .int .i64 c.sh, .int .i64 c.p0, .int .i64 c.p1, .int .i64 c.p2, .int .i64 c.cy, .int .i64 c.ex, .int .i64 c.fi, .int .i64 c.la, .int .i64 c.po] 24)
  replace T := T.alloc (.cells #[.string c.nm, .int .i64 c.k, .int .i64 c.d, .int .i64 c.m, .int .i64 c.s, .int .i64 c.sh, .int .i64 c.p0, .int .i64 c.p1, .int .i64 c.p2, .int .i64 c.cy, .int .i64 c.ex, .int .i64 c.fi, .int .i64 c.la, .int .i64 c.po] 24)
  have U := Go.Proofs.YtoeifpeiogeenaaGreatDoor.Bx.Tri.new (w.alloc (.cells #[.string c.nm, .int .i64 c.k, .int .i64 c.d, .int .i64 c.m, .int .i64 c.s, .int .i64 c.sh, .int .i64 c.p0, .int .i64 c.p1, .int .i64 c.p2, .int .i64 c.cy, .int .i64 c.ex, .int .i64 c.fi, .int .i64 c.la, .int .i64 c.po] 24)) (.int .i64 L) (.int .i64 y) (.int .i64 i) 26
  rw [World.size_alloc] at U
  replace C := C.alloc (.cells #[.int .i64 L, .int .i64 y, .int .i64 i] 26)
  replace B := balloc B (.cells #[.int .i64 L, .int .i64 y, .int .i64 i] 26)
  replace T := T.alloc (.cells #[.int .i64 L, .int .i64 y, .int .i64 i] 26)
  have cs := fun w T => Span_any c L y i s0 (s0 + (K7 : Int) - 1) 0 w S hm T
  have HQ : Hid (∀ j : Nat, j < K7 → ∃ v g : Int, ((g = 12 ∧ Q (j + 1) = Q j) ∨ (g = 0 ∧ Q (j + 1) = Q j + 1 ∧ v = dval r (Q j) ∧ (Q j : Int) < lens r)) ∧ ∀ w, FTab w → Calls Tryz.prog 24 #[.agg #[.string c.nm, .int .i64 c.k, .int .i64 c.d, .int .i64 c.m, .int .i64 c.s, .int .i64 c.sh, .int .i64 c.p0, .int .i64 c.p1, .int .i64 c.p2, .int .i64 c.cy, .int .i64 c.ex, .int .i64 c.fi, .int .i64 c.la, .int .i64 c.po], .int .i64 (s0 + (j : Int)), .int .i64 k] w fun e w' => e = .returned (.tuple #[.int .i64 v, .int .i64 g]) ∧ Below w.heap.size w w') := Lib.hid (fun j hj => by
    obtain ⟨v, g, h1, h2⟩ := HD j hj
    exact ⟨v, g, h2, fun w T => CDay_any c _ k v g w h1 wk hm T⟩)
  have q1 : (1 : Int) ≤ (K7 : Int) := by omega
  have q2 : (K7 : Int) ≤ 371 := by omega
  have HL := Lib.hid Qle
  have H0 := Lib.hid Q0
  have HE := Lib.hid E
  have HX := Lib.hid X
  have r2 := twj_len X
  obtain ⟨f0, t0, hr0, st, f00, f01⟩ := twd_start X
  have HST := Lib.hid st
  have cr := fun w T => Runs_ok c L y i k l r w R X hm T
  obtain ⟨m, hm2⟩ : ∃ m, r.length = m := ⟨_, rfl⟩
  rw [hm2] at r2
  have HM := Lib.hid hm2
  have m1 : (0 : Int) < (m : Int) := by omega
  have m2 : (m : Int) ≤ 2 := by omega
  have m3 : 0 < m := by omega
  have m4 : decide (0 < m) = true := decide_eq_true m3
  have m5 : ¬ 60 < m := by omega
  have m6 : decide (60 < m) = false := decide_eq_false m5
  clear HD S Qle Q0 R E X st
  go_enter Tryz.func8, Tryz.ntmps8
  go_upto_region 1 with fail
  generalize (w.alloc (.cells #[.string c.nm, .int .i64 c.k, .int .i64 c.d, .int .i64 c.m, .int .i64 c.s, .int .i64 c.sh, .int .i64 c.p0, .int .i64 c.p1, .int .i64 c.p2, .int .i64 c.cy, .int .i64 c.ex, .int .i64 c.fi, .int .i64 c.la, .int .i64 c.po] 24)).alloc (.cells #[.int .i64 L, .int .i64 y, .int .i64 i] 26) = W0 at *
  obtain ⟨_, c0, c1, c2, c3, c4, c5, c6, c7, c8, c9, c10, c11, c12, c13⟩ := id C
  obtain ⟨_, u0, u1, u2, fu0, fu1, fu2⟩ := id U
  go_wp2_with fail
  refine (blive_ok _ T).mono ?_
  rintro e w1 ⟨rfl, hb⟩
  replace C := C.kept hb
  replace B := bthen B hb
  replace T := T.kept hb
  replace U := U.kept hb
  clear hb c0 c1 c2 c3 c4 c5 c6 c7 c8 c9 c10 c11 c12 c13 u0 u1 u2 fu0 fu1 fu2
  obtain ⟨_, c0, c1, c2, c3, c4, c5, c6, c7, c8, c9, c10, c11, c12, c13⟩ := id C
  obtain ⟨_, u0, u1, u2, fu0, fu1, fu2⟩ := id U
  go_wp2_with fail
  refine (cr _ T).mono ?_
  rintro e w2 ⟨g2, cap2, rfl, Sw, hg2, hb, hcap2⟩
  replace C := C.kept hb
  replace B := bthen B hb
  replace T := T.kept hb
  replace U := U.kept hb
  clear hb c0 c1 c2 c3 c4 c5 c6 c7 c8 c9 c10 c11 c12 c13 u0 u1 u2 fu0 fu1 fu2
  obtain ⟨_, c0, c1, c2, c3, c4, c5, c6, c7, c8, c9, c10, c11, c12, c13⟩ := id C
  obtain ⟨_, u0, u1, u2, fu0, fu1, fu2⟩ := id U
  rw [hm2]
  clear hg2 hcap2 hm2
  obtain ⟨_, _⟩ := id Sw
  go_wp2_with fail
  refine (cs _ T).mono ?_
  rintro e w3 ⟨rfl, hb⟩
  replace C := C.kept hb
  replace B := bthen B hb
  replace T := T.kept hb
  replace U := U.kept hb
  replace Sw := Sw.kept hb
  clear hb c0 c1 c2 c3 c4 c5 c6 c7 c8 c9 c10 c11 c12 c13 u0 u1 u2 fu0 fu1 fu2
  obtain ⟨_, c0, c1, c2, c3, c4, c5, c6, c7, c8, c9, c10, c11, c12, c13⟩ := id C
  obtain ⟨_, u0, u1, u2, fu0, fu1, fu2⟩ := id U
  obtain ⟨_, _⟩ := id Sw
  have K := Go.Proofs.YtoeifpeiogeenaaGreatDoor.Pr.Two.new w3 (.int .i64 s0) (.int .i64 (s0 + (K7 : Int) - 1)) 43
  replace C := C.alloc (.cells #[.int .i64 s0, .int .i64 (s0 + (K7 : Int) - 1)] 43)
  replace T := T.alloc (.cells #[.int .i64 s0, .int .i64 (s0 + (K7 : Int) - 1)] 43)
  replace U := U.alloc (.cells #[.int .i64 s0, .int .i64 (s0 + (K7 : Int) - 1)] 43)
  replace Sw := Sw.alloc (.cells #[.int .i64 s0, .int .i64 (s0 + (K7 : Int) - 1)] 43)
  replace B := balloc B (.cells #[.int .i64 s0, .int .i64 (s0 + (K7 : Int) - 1)] 43)
  clear c0 c1 c2 c3 c4 c5 c6 c7 c8 c9 c10 c11 c12 c13 u0 u1 u2 fu0 fu1 fu2
  obtain ⟨_, c0, c1, c2, c3, c4, c5, c6, c7, c8, c9, c10, c11, c12, c13⟩ := id C
  obtain ⟨_, u0, u1, u2, fu0, fu1, fu2⟩ := id U
  obtain ⟨_, _⟩ := id Sw
  obtain ⟨_, k0, k1, fk0, fk1⟩ := id K
  clear cs cr u0 u1 u2 fu0 fu1 fu2 U
  go_upto_region 7 with fail
  generalize hWK : w3.alloc (.cells #[.int .i64 s0, .int .i64 (s0 + (K7 : Int) - 1)] 43) = WK at *
  obtain ⟨KB, hKB⟩ : ∃ KB, w3.heap.size = KB := ⟨_, rfl⟩
  rw [hKB] at K ⊢
  clear hWK hKB k0 k1 fk0 fk1
  clear c0 c1 c2 c3 c4 c5 c6 c7 c8 c9 c10 c11 c12 c13 
  obtain ⟨_, k0, k1, fk0, fk1⟩ := id K
  obtain ⟨a0, a1⟩ := Sw.c 0 _ hr0
  simp only [Nat.zero_mul, Nat.zero_add] at a0 a1
  go_wp2
  clear k0 k1 fk0 fk1 a0 a1
  go_loopw [11, 12, 13, 14] (fun A M N D wr => ∃ j : Nat, j ≤ K7 ∧ D = .int .i64 (s0 + (j : Int)) ∧ M = .int .i64 (Q j : Int) ∧ TwV r (Q j) A N ∧ Below WK.heap.size WK wr) (fun _ _ _ D _ => (s0 + (K7 : Int) - intOf D).toNat)
  case atStart => exact ⟨0, by omega, by simp, by rw [H0.out]; rfl, ⟨0, f0, rfl, rfl, by rw [H0.out]; exact HST.out⟩, Below.refl _ _⟩
  case round =>
    obtain ⟨j, jK, rfl, rfl, TV, B2⟩ := hrel
    obtain ⟨at', nx, rfl, rfl, D⟩ := TV
    have C2 := C.kept B2
    have T2 := T.kept B2
    have K2' := K.kept B2
    have Sw2 := Sw.kept B2
    obtain ⟨_, k0, k1, fk0, fk1⟩ := id K2'
    obtain ⟨_, c0, c1, c2, c3, c4, c5, c6, c7, c8, c9, c10, c11, c12, c13⟩ := id C2
    have bd := twd_bd HX.out D
    rw [HM.out] at bd
    by_cases hlt : j < K7
    · obtain ⟨v, g, OO, cd⟩ := HQ.out j hlt
      have ql := HL.out j
      obtain ⟨q, hq⟩ : ∃ q, Q j = q := ⟨_, rfl⟩
      rw [hq] at OO ql D
      rw [hq]
      have HOO := Lib.hid OO
      have HDD := Lib.hid D
      have kk : s0 + (j : Int) ≤ s0 + (K7 : Int) - 1 := by omega
      clear OO hq D
      go_wp2_with fail
      refine (cd _ T2).mono ?_
      rintro e w9 ⟨rfl, hb⟩
      have B9 := bthen B2 hb
      replace Sw2 := Sw2.kept hb
      clear k0 k1 fk0 fk1 c0 c1 c2 c3 c4 c5 c6 c7 c8 c9 c10 c11 c12 c13 C2 T2 K2' cd
      have O := HOO.out
      clear HOO
      rcases O with ⟨rfl, e1⟩ | ⟨rfl, e1, rfl, e3⟩
      · have HE1 := Lib.hid e1
        clear e1
        go_wp2
        go_roundw
        case rel => exact ⟨j + 1, by omega, by go_num, by rw [HE1.out], ⟨at', nx, rfl, rfl, by rw [HE1.out]; exact HDD.out⟩, B9⟩
        case measure => simp [intOf]; omega
      · have HE1 := Lib.hid e1
        obtain ⟨s1, s2, s3, f, t, hu, OO⟩ := twd_step HX.out HDD.out e3
        rw [HM.out] at s1
        have am : (at' : Int) < (m : Int) := by omega
        obtain ⟨b0, b1⟩ := Sw2.c at' _ hu
        simp only at b0 b1
        rcases OO with ⟨o1, o2, o3⟩ | ⟨o1, o2, o3, f2, t2, hu2, o4, o5, o6, o7, o8⟩
        · rw [o2]
          have d1 : decide (t < nx) = false := decide_eq_false o1
          have d2 : ((at' : Int) == (m : Int)) = false := beq_eq_false_iff_ne.2 (by omega)
          have d3 : (at' == m) = false := beq_eq_false_iff_ne.2 (by omega)
          have d4 : (nx != nx) = false := by simp
          have H3 := Lib.hid o3
          clear e1 e3 o2 o3 HDD
          go_wp2
          refine wp_loop_rounds 1 ?_
          rw [rounds_succ]
          go_wp2
          go_roundw
          case rel => exact ⟨j + 1, by omega, by go_num, by rw [HE1.out]; go_num, ⟨at', nx + 1, rfl, rfl, by rw [HE1.out]; exact H3.out⟩, B9⟩
          case measure => simp [intOf]; omega
        · rw [o4]
          subst o2
          have m22 : m = 2 := by rw [← HM.out]; exact o3
          have n1 : (1 : Int) < (m : Int) := by omega
          have n2 : 1 < m := by omega
          have n3 : ((1 : Int) == (m : Int)) = false := beq_eq_false_iff_ne.2 (by omega)
          have n4 : (1 == m) = false := beq_eq_false_iff_ne.2 (by omega)
          have H22 := Lib.hid m22
          clear m22
          obtain ⟨g0, g1⟩ := Sw2.c 1 _ hu2
          simp only [Nat.zero_mul, Nat.zero_add, Nat.one_mul] at b0 b1 g0 g1
          have d1 : decide (t < nx) = true := decide_eq_true o1
          have d5 : decide (t2 < f2) = false := decide_eq_false o5
          have d4 : (f2 != f2) = false := by simp
          have H3 := Lib.hid o8
          clear e1 e3 o3 o4 o8 HDD
          go_wp2
          refine wp_loop_rounds 2 ?_
          rw [rounds_succ]
          go_wp2
          rw [rounds_succ]
          go_wp2
          go_roundw
          case rel => exact ⟨j + 1, by omega, by go_num, by rw [HE1.out]; go_num, ⟨1, f2 + 1, rfl, rfl, by rw [HE1.out]; exact H3.out⟩, B9⟩
          case measure => simp [intOf]; omega
    · obtain rfl : j = K7 := by omega
      have kk : ¬ s0 + (j : Int) ≤ s0 + (j : Int) - 1 := by omega
      have kk2 : decide (s0 + (j : Int) ≤ s0 + (j : Int) - 1) = false := decide_eq_false (by omega)
      obtain ⟨e1, f, t, hu, rfl, t00, t01⟩ := twd_end HX.out D HE.out
      rw [HM.out] at e1
      obtain ⟨b0, b1⟩ := Sw2.c at' _ hu
      simp only at b0 b1
      have am : (at' : Int) < (m : Int) := by omega
      have am2 : ((at' : Int) == (m : Int) - 1) = true := beq_iff_eq.2 (by omega)
      have H1 := Lib.hid e1
      clear C2 T2 K2' HQ D e1
      go_wp2
      go_ret
      have := H1.out
      exact ⟨by simp <;> omega, bthen B B2⟩

theorem tdays_walk (c : CalZ) (L y i k : Int) (w : World) (wf : CalWf c) (wL : (Lit.int .i64 L).wf = true) (wy : (Lit.int .i64 y).wf = true) (wi : (Lit.int .i64 i).wf = true) (wk : (Lit.int .i64 k).wf = true) (tb : FTab w) :
    Calls Tryz.prog 8 #[.agg #[.string c.nm, .int .i64 c.k, .int .i64 c.d, .int .i64 c.m, .int .i64 c.s, .int .i64 c.sh, .int .i64 c.p0, .int .i64 c.p1, .int .i64 c.p2, .int .i64 c.cy, .int .i64 c.ex, .int .i64 c.fi, .int .i64 c.la, .int .i64 c.po], .agg #[.int .i64 L, .int .i64 y, .int .i64 i], .int .i64 k] w fun e w' => e = .returned (.bool true) ∧ Below w.heap.size w w' := by
  by_cases h : 100 < c.nm.size ∨ c.k = 6
  · exact tdays_out c L y i k w tb h
  have dl : decide ((100 : Int) < (c.nm.size : Int)) = false := decide_eq_false (by omega)
  have d6 : (c.k == 6) = false := beq_eq_false_iff_ne.2 (by omega)
  have k6 : c.k ≠ 6 := by omega
  obtain ⟨l, er, R⟩ := twa_ex c L y i k
  by_cases u : UnitOk c L y i
  case neg =>
    have R0 := R
    rcases R with ⟨h, _⟩ | ⟨h, _⟩ | ⟨_, ck, _⟩
    · exact absurd h u
    · exact absurd h u
    · have ne : er ≠ 0 := fun e => by subst e; exact u ((uchka_ok ck).1 rfl)
      exact tdays_er c L y i k er l w tb wk wf.1 dl d6 R0 (.inr ⟨u, ck, rfl, rfl⟩) ne
  obtain ⟨a, b, W, _, _, a0, ab, _⟩ := wkof_ex u
  obtain ⟨n, hn⟩ : ∃ n : Nat, (n : Int) = b - a + 1 := ⟨(b - a + 1).toNat, by omega⟩
  have wd := wk_days u k6 W hn
  have S : SpanA c L y i (uend c y L (i - 1) + 1) (uend c y L (i - 1) + 1 + ((7 * n : Nat) : Int) - 1) 0 := .inl ⟨u, rfl, by omega, rfl⟩
  have R0 := R
  by_cases s : Served c (y + k)
  case neg =>
    have e11 : er = 11 := by
      rcases R with ⟨_, h, _⟩ | ⟨_, _, _, h⟩ | ⟨no, _⟩
      · exact absurd h s
      · exact h
      · exact absurd u no
    subst e11
    exact tdays_far c L y i k _ (7 * n) l w tb wk wf.1 dl d6 R S (day_far u k6 s W hn) (by omega) (by omega) (by omega) (by omega)
  have D := fun (j : Nat) (hj : j < 7 * n) => day_of u k6 s W hn j hj
  have step : ∀ j, cq c y (y + k) a (j + 1) = cq c y (y + k) a j + (if polF c y (y + k) (a + ((j / 7 : Nat) : Int)) = none then 0 else 1) := fun j => rfl
  have D2 : ∀ j : Nat, j < 7 * n → ∃ v g, CDayA c (uend c y L (i - 1) + 1 + (j : Int)) k v g ∧ ((g = 12 ∧ cq c y (y + k) a (j + 1) = cq c y (y + k) a j) ∨ (g = 0 ∧ cq c y (y + k) a (j + 1) = cq c y (y + k) a j + 1)) := fun j hj => by
    obtain ⟨v, g, h1, h2⟩ := D j hj
    refine ⟨v, g, h1, ?_⟩
    rcases h2 with ⟨h2, h3⟩ | ⟨x, h2, h3, _⟩
    · exact .inl ⟨h3, by rw [step, if_pos h2]; rfl⟩
    · exact .inr ⟨h3, by rw [step, if_neg (by rw [h2]; exact fun h => by cases h)]⟩
  by_cases e0 : er = 0
  case neg =>
    have hw : ((cmpW c y (y + k) a n = none) ∧ er = 11) ∨ (cmpW c y (y + k) a n = some [] ∧ er = 12) := by
      rcases R with ⟨_, _, o, wf2, O⟩ | ⟨_, h, _⟩ | ⟨no, _⟩
      · rcases wf2 with ⟨_, a', b', W', e⟩ | ⟨q, _⟩ | ⟨q, _⟩
        · have ty := served_told u.1 u.2.2.1
          have l5 : LevOk 5 := ⟨by omega, by omega⟩
          obtain rfl := inu_uniq u.1.1 (by omega) (by omega) l5 W.1 W'.1
          obtain rfl := inu_uniq u.1.1 (by omega) (by omega) l5 W.2 W'.2
          rw [show (b - a + 1).toNat = n by omega] at e
          rcases O with ⟨h, _, h2⟩ | ⟨h, _, h2⟩ | ⟨_, _, h⟩
          · exact .inl ⟨by rw [← e]; exact h, h2⟩
          · exact .inr ⟨by rw [← e]; exact h, h2⟩
          · exact absurd h e0
        · exact absurd q k6
        · exact absurd q k6
      · exact absurd s h
      · exact absurd u no
    rcases hw with ⟨h, rfl⟩ | ⟨h, rfl⟩
    · refine tdays_none11 c L y i k _ (7 * n) (cq c y (y + k) a) l w tb wk wf.1 dl d6 R0 S D2 rfl (fun j => cq_le j) ?_ (by omega) (by omega) (by omega) (by omega)
      rw [cq_week]
      have := none_some h
      omega
    · refine tdays_none12 c L y i k _ (7 * n) (cq c y (y + k) a) l w tb wk wf.1 dl d6 R0 S D2 rfl (fun j => cq_le j) ?_ (by omega) (by omega) (by omega) (by omega)
      rw [cq_week]
      have e7 : (vsW c y (y + k) a n).length = 0 := (cmpW_some h).1.symm
      rw [e7]
  subst e0
  obtain ⟨⟨a', b', n', Wt⟩, ne⟩ := twa_weeks k6 R
  have ty := served_told u.1 u.2.2.1
  have l5 : LevOk 5 := ⟨by omega, by omega⟩
  obtain rfl := inu_uniq u.1.1 (by omega) (by omega) l5 W.1 Wt.w.1
  obtain rfl := inu_uniq u.1.1 (by omega) (by omega) l5 W.2 Wt.w.2
  obtain rfl : n = n' := by have := Wt.n_; omega
  obtain ⟨td, te⟩ := tww_days Wt k6 ne
  refine tdays_ok c L y i k _ (7 * n) (cq c y (y + k) a) l _ w tb wk wf.1 dl d6 R0 (twa_list R0) S (fun j hj => ?_) rfl (fun j => cq_le j) te (by omega) (by omega) (by omega) (by omega)
  obtain ⟨v, g, h1, h2⟩ := D j hj
  refine ⟨v, g, h1, ?_⟩
  rcases h2 with ⟨h2, h3⟩ | ⟨x, h2, h3, h4⟩
  · exact .inl ⟨h3, by rw [step, if_pos h2]; rfl⟩
  · have t2 := td j x hj h2
    exact .inr ⟨h3, by rw [step, if_neg (by rw [h2]; exact fun h => by cases h)], by rw [h4]; exact t2.1, t2.2⟩

end Go.Proofs.YtoeifpeiogeenaaGreatDoor.Bl
