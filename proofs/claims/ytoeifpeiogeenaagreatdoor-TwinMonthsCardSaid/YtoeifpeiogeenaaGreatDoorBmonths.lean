/- TwinMonths' walk. -/
import Derived.Test.YtoeifpeiogeenaaGreatDoorJR
namespace Go.Proofs.YtoeifpeiogeenaaGreatDoor.Bl
set_option linter.unusedSimpArgs false
set_option linter.unusedVariables false
open Go.RowKit Go.Proofs.YtoeifpeiogeenaaGreatDoor.Bn Go.Proofs.YtoeifpeiogeenaaGreatDoor.Bx Go.Proofs.YtoeifpeiogeenaaGreatDoor.Cp Go.Proofs.YtoeifpeiogeenaaGreatDoor.Am Go.Proofs.YtoeifpeiogeenaaGreatDoor.Fp Go.Proofs.YtoeifpeiogeenaaGreatDoor.Ap Go.Proofs.YtoeifpeiogeenaaGreatDoor.Cm Go.Proofs.YtoeifpeiogeenaaGreatDoor.Em Go.Proofs.YtoeifpeiogeenaaGreatDoor.Ep Go.Proofs.YtoeifpeiogeenaaGreatDoor.Rk Go.Proofs.YtoeifpeiogeenaaGreatDoor.Hp Go.Proofs.YtoeifpeiogeenaaGreatDoor.Ip Go.Proofs.YtoeifpeiogeenaaGreatDoor.Jp Go.Proofs.YtoeifpeiogeenaaGreatDoor.Dp Go.Proofs.YtoeifpeiogeenaaGreatDoor.Mp Go.Proofs.YtoeifpeiogeenaaGreatDoor.Bp

set_option maxHeartbeats 16000000

/-- what holds of blocks as old as w -/
structure Bel (w W : World) : Prop where
  b : Below w.heap.size w W
theorem Bel.new (w : World) : Bel w w := ⟨Below.refl _ _⟩
theorem Bel.kept {w W W' : World} (p : Bel w W) (hb : Below W.heap.size W W') : Bel w W' := ⟨bthen p.b hb⟩
theorem Bel.alloc {w W : World} (p : Bel w W) (o : Obj) : Bel w (W.alloc o) := ⟨balloc p.b o⟩
/-- by months only a week can have none that it is compared with -/
theorem months_gone {c : CalZ} {L y i k : Int} {l : List U3} {er : Int} (k6 : c.k = 6) (h : TwA c L y i k l er) (e : er = 12) : L = 5 := by
  rcases h with ⟨u, s, o, wf, O⟩ | ⟨_, _, _, h⟩ | ⟨no, ⟨v, e1, ct, ck⟩, _⟩
  · rcases wf with ⟨h, _⟩ | ⟨_, hL, a, b, wk, rfl⟩ | ⟨_, hL, _⟩
    · exact absurd k6 h
    · exfalso
      have u2 := month_unit k6 u hL s
      obtain ⟨_, _, _, ab, _⟩ := wkof_is u2 wk
      rcases O with ⟨h, _⟩ | ⟨h, _⟩ | ⟨_, _, h⟩
      · cases h
      · have h2 := congrArg List.length (Option.some.inj h)
        rw [wkL_len] at h2
        simp at h2
        omega
      · omega
    · exact hL
  · omega
  · exfalso
    unfold CountA at ct
    omega

set_option maxRecDepth 100000 in
theorem months_out (c : CalZ) (L y i k : Int) (w : World) (tb : FTab w) (h : 100 < c.nm.size ∨ c.k ≠ 6 ∨ k < -400 ∨ 400 < k) :
    Calls Tryz.prog 4 #[.agg #[.string c.nm, .int .i64 c.k, .int .i64 c.d, .int .i64 c.m, .int .i64 c.s, .int .i64 c.sh, .int .i64 c.p0, .int .i64 c.p1, .int .i64 c.p2, .int .i64 c.cy, .int .i64 c.ex, .int .i64 c.fi, .int .i64 c.la, .int .i64 c.po], .agg #[.int .i64 L, .int .i64 y, .int .i64 i], .int .i64 k] w fun e w' => e = .returned (.bool true) ∧ Below w.heap.size w w' := by
  have T := tb
  have C := CalIn.new w c 24
  have B := balloc (Below.refl _ w) (.cells #[.string c.nm, .int .i64 c.k, .int .i64 c.d, .int .i64 c.m, .int .i64 c.s, .int .i64 c.sh, .int .i64 c.p0, .int .i64 c.p1, .int .i64 c.p2, .int .i64 c.cy, .int .i64 c.ex, .int .i64 c.fi, .int .i64 c.la, .int .i64 c.po] 24)
  replace T := T.alloc (.cells #[.string c.nm, .int .i64 c.k, .int .i64 c.d, .int .i64 c.m, .int .i64 c.s, .int .i64 c.sh, .int .i64 c.p0, .int .i64 c.p1, .int .i64 c.p2, .int .i64 c.cy, .int .i64 c.ex, .int .i64 c.fi, .int .i64 c.la, .int .i64 c.po] 24)
  have U := Go.Proofs.YtoeifpeiogeenaaGreatDoor.Bx.Tri.new (w.alloc (.cells #[.string c.nm, .int .i64 c.k, .int .i64 c.d, .int .i64 c.m, .int .i64 c.s, .int .i64 c.sh, .int .i64 c.p0, .int .i64 c.p1, .int .i64 c.p2, .int .i64 c.cy, .int .i64 c.ex, .int .i64 c.fi, .int .i64 c.la, .int .i64 c.po] 24)) (.int .i64 L) (.int .i64 y) (.int .i64 i) 26
  rw [World.size_alloc] at U
  replace C := C.alloc (.cells #[.int .i64 L, .int .i64 y, .int .i64 i] 26)
  replace B := balloc B (.cells #[.int .i64 L, .int .i64 y, .int .i64 i] 26)
  replace T := T.alloc (.cells #[.int .i64 L, .int .i64 y, .int .i64 i] 26)
  have O : decide ((100 : Int) < (c.nm.size : Int)) = true ∨ (decide ((100 : Int) < (c.nm.size : Int)) = false ∧ (c.k != 6) = true) ∨ (decide ((100 : Int) < (c.nm.size : Int)) = false ∧ (c.k != 6) = false ∧ decide (k < -400) = true) ∨ (decide ((100 : Int) < (c.nm.size : Int)) = false ∧ (c.k != 6) = false ∧ decide (k < -400) = false ∧ decide (400 < k) = true) := by
    by_cases h1 : 100 < c.nm.size
    · exact .inl (decide_eq_true (by omega))
    · refine .inr ?_
      by_cases h2 : c.k = 6
      · refine .inr ?_
        by_cases h3 : k < -400
        · exact .inl ⟨decide_eq_false (by omega), by rw [h2]; rfl, decide_eq_true h3⟩
        · exact .inr ⟨decide_eq_false (by omega), by rw [h2]; rfl, decide_eq_false h3, decide_eq_true (by omega)⟩
      · exact .inl ⟨decide_eq_false (by omega), bne_iff_ne.2 h2⟩
  clear h
  rcases O with dl | ⟨dl, d6⟩ | ⟨dl, d6, d3⟩ | ⟨dl, d6, d3, d4⟩
  all_goals
    go_enter Tryz.func4, Tryz.ntmps4
    go_upto_region 1 with fail
    generalize (w.alloc (.cells #[.string c.nm, .int .i64 c.k, .int .i64 c.d, .int .i64 c.m, .int .i64 c.s, .int .i64 c.sh, .int .i64 c.p0, .int .i64 c.p1, .int .i64 c.p2, .int .i64 c.cy, .int .i64 c.ex, .int .i64 c.fi, .int .i64 c.la, .int .i64 c.po] 24)).alloc (.cells #[.int .i64 L, .int .i64 y, .int .i64 i] 26) = W0 at *
    obtain ⟨_, c0, c1, c2, c3, c4, c5, c6, c7, c8, c9, c10, c11, c12, c13⟩ := id C
    obtain ⟨_, u0, u1, u2, fu0, fu1, fu2⟩ := id U
    go_wp2_with fail
    refine (blive_ok _ T).mono ?_
    rintro e w1 ⟨rfl, hb⟩
    replace C := C.kept hb
    replace B := bthen B hb
    replace T := T.kept hb
    replace U := U.kept hb
    clear hb c0 c1 c2 c3 c4 c5 c6 c7 c8 c9 c10 c11 c12 c13 u0 u1 u2 fu0 fu1 fu2
    obtain ⟨_, c0, c1, c2, c3, c4, c5, c6, c7, c8, c9, c10, c11, c12, c13⟩ := id C
    obtain ⟨_, u0, u1, u2, fu0, fu1, fu2⟩ := id U
    go_wp2
    go_ret
    exact ⟨by simp <;> omega, B⟩

set_option maxRecDepth 100000 in
theorem months_er (c : CalZ) (L y i k er : Int) (l : List U3) (w : World) (tb : FTab w) (wk : (Lit.int .i64 k).wf = true) (hm : c.nm.size ≤ maxLen) (dl : decide ((100 : Int) < (c.nm.size : Int)) = false) (d6 : (c.k != 6) = false) (d3 : decide (k < -400) = false) (d4 : decide (400 < k) = false) (R : TwA c L y i k l er) (ne : er ≠ 0) (O : (er != 12) = true ∨ ((er != 12) = false ∧ (L == 5) = true)) :
    Calls Tryz.prog 4 #[.agg #[.string c.nm, .int .i64 c.k, .int .i64 c.d, .int .i64 c.m, .int .i64 c.s, .int .i64 c.sh, .int .i64 c.p0, .int .i64 c.p1, .int .i64 c.p2, .int .i64 c.cy, .int .i64 c.ex, .int .i64 c.fi, .int .i64 c.la, .int .i64 c.po], .agg #[.int .i64 L, .int .i64 y, .int .i64 i], .int .i64 k] w fun e w' => e = .returned (.bool true) ∧ Below w.heap.size w w' := by
  have T := tb
  have C := CalIn.new w c 24
  have B := balloc (Below.refl _ w) (.cells #[.string c.nm, .int .i64 c.k, .int .i64 c.d, .int .i64 c.m, .int .i64 c.s, .int .i64 c.sh, .int .i64 c.p0, .int .i64 c.p1, .int .i64 c.p2, .int .i64 c.cy, .int .i64 c.ex, .int .i64 c.fi, .int .i64 c.la, .int .i64 c.po] 24)
  replace T := T.alloc (.cells #[.string c.nm, .int .i64 c.k, .int .i64 c.d, .int .i64 c.m, .int .i64 c.s, .int .i64 c.sh, .int .i64 c.p0, .int .i64 c.p1, .int .i64 c.p2, .int .i64 c.cy, .int .i64 c.ex, .int .i64 c.fi, .int .i64 c.la, .int .i64 c.po] 24)
  have U := Go.Proofs.YtoeifpeiogeenaaGreatDoor.Bx.Tri.new (w.alloc (.cells #[.string c.nm, .int .i64 c.k, .int .i64 c.d, .int .i64 c.m, .int .i64 c.s, .int .i64 c.sh, .int .i64 c.p0, .int .i64 c.p1, .int .i64 c.p2, .int .i64 c.cy, .int .i64 c.ex, .int .i64 c.fi, .int .i64 c.la, .int .i64 c.po] 24)) (.int .i64 L) (.int .i64 y) (.int .i64 i) 26
  rw [World.size_alloc] at U
  replace C := C.alloc (.cells #[.int .i64 L, .int .i64 y, .int .i64 i] 26)
  replace B := balloc B (.cells #[.int .i64 L, .int .i64 y, .int .i64 i] 26)
  replace T := T.alloc (.cells #[.int .i64 L, .int .i64 y, .int .i64 i] 26)
  have cw := fun w T => Weeks_er c L y i k er l w R ne wk hm T
  have cr := fun w T => Runs_er c L y i k er l w R ne wk hm T
  have n1 : (er != 0) = true := bne_iff_ne.2 ne
  have n2 : (er == er) = true := beq_self_eq_true er
  clear R ne
  rcases O with o1 | ⟨o1, o2⟩
  all_goals
    go_enter Tryz.func4, Tryz.ntmps4
    go_upto_region 1 with fail
    generalize (w.alloc (.cells #[.string c.nm, .int .i64 c.k, .int .i64 c.d, .int .i64 c.m, .int .i64 c.s, .int .i64 c.sh, .int .i64 c.p0, .int .i64 c.p1, .int .i64 c.p2, .int .i64 c.cy, .int .i64 c.ex, .int .i64 c.fi, .int .i64 c.la, .int .i64 c.po] 24)).alloc (.cells #[.int .i64 L, .int .i64 y, .int .i64 i] 26) = W0 at *
    obtain ⟨_, c0, c1, c2, c3, c4, c5, c6, c7, c8, c9, c10, c11, c12, c13⟩ := id C
    obtain ⟨_, u0, u1, u2, fu0, fu1, fu2⟩ := id U
    go_wp2_with fail
    refine (blive_ok _ T).mono ?_
    rintro e w1 ⟨rfl, hb⟩
    replace C := C.kept hb
    replace B := bthen B hb
    replace T := T.kept hb
    replace U := U.kept hb
    clear hb c0 c1 c2 c3 c4 c5 c6 c7 c8 c9 c10 c11 c12 c13 u0 u1 u2 fu0 fu1 fu2
    obtain ⟨_, c0, c1, c2, c3, c4, c5, c6, c7, c8, c9, c10, c11, c12, c13⟩ := id C
    obtain ⟨_, u0, u1, u2, fu0, fu1, fu2⟩ := id U
    go_wp2_with fail
    refine (cr _ T).mono ?_
    rintro e w2 ⟨rfl, hb⟩
    replace C := C.kept hb
    replace B := bthen B hb
    replace T := T.kept hb
    replace U := U.kept hb
    clear hb c0 c1 c2 c3 c4 c5 c6 c7 c8 c9 c10 c11 c12 c13 u0 u1 u2 fu0 fu1 fu2
    obtain ⟨_, c0, c1, c2, c3, c4, c5, c6, c7, c8, c9, c10, c11, c12, c13⟩ := id C
    obtain ⟨_, u0, u1, u2, fu0, fu1, fu2⟩ := id U
    go_wp2_with fail
    refine (cw _ T).mono ?_
    rintro e w3 ⟨rfl, hb⟩
    replace C := C.kept hb
    replace B := bthen B hb
    replace T := T.kept hb
    replace U := U.kept hb
    clear hb c0 c1 c2 c3 c4 c5 c6 c7 c8 c9 c10 c11 c12 c13 u0 u1 u2 fu0 fu1 fu2
    obtain ⟨_, c0, c1, c2, c3, c4, c5, c6, c7, c8, c9, c10, c11, c12, c13⟩ := id C
    obtain ⟨_, u0, u1, u2, fu0, fu1, fu2⟩ := id U
    go_wp2
    go_ret
    exact ⟨by simp <;> omega, B⟩

set_option maxRecDepth 100000 in
theorem months_unit (c : CalZ) (L y i k p q : Int) (l : List U3) (w : World) (tb : FTab w) (hm : c.nm.size ≤ maxLen) (dl : decide ((100 : Int) < (c.nm.size : Int)) = false) (d6 : (c.k != 6) = false) (d3 : decide (k < -400) = false) (d4 : decide (400 < k) = false) (R : TwA c L y i k l 0) (X : TwList c l [(p, q)]) (S : SpanA c L (y + k) i p q 0) (L5 : (L == 5) = false) (y0 : 1601 ≤ y) (y1 : y ≤ 9997) (t0 : 1601 ≤ y + k) (t1 : y + k ≤ 9997) :
    Calls Tryz.prog 4 #[.agg #[.string c.nm, .int .i64 c.k, .int .i64 c.d, .int .i64 c.m, .int .i64 c.s, .int .i64 c.sh, .int .i64 c.p0, .int .i64 c.p1, .int .i64 c.p2, .int .i64 c.cy, .int .i64 c.ex, .int .i64 c.fi, .int .i64 c.la, .int .i64 c.po], .agg #[.int .i64 L, .int .i64 y, .int .i64 i], .int .i64 k] w fun e w' => e = .returned (.bool true) ∧ Below w.heap.size w w' := by
  have T := tb
  have C := CalIn.new w c 24
  have B := balloc (Below.refl _ w) (.cells #[.string c.nm, .int .i64 c.k, .int .i64 c.d, .int .i64 c.m, .int .i64 c.s, .int .i64 c.sh, .int .i64 c.p0, .int .i64 c.p1, .int .i64 c.p2, .int .i64 c.cy, .int .i64 c.ex, .int .i64 c.fi, .int .i64 c.la, .int .i64 c.po] 24)
  replace T := T.alloc (.cells #[.string c.nm, .int .i64 c.k, .int .i64 c.d, .int .i64 c.m, .int .i64 c.s, .int .i64 c.sh, .int .i64 c.p0, .int .i64 c.p1, .int .i64 c.p2, .int .i64 c.cy, .int .i64 c.ex, .int .i64 c.fi, .int .i64 c.la, .int .i64 c.po] 24)
  have U := Go.Proofs.YtoeifpeiogeenaaGreatDoor.Bx.Tri.new (w.alloc (.cells #[.string c.nm, .int .i64 c.k, .int .i64 c.d, .int .i64 c.m, .int .i64 c.s, .int .i64 c.sh, .int .i64 c.p0, .int .i64 c.p1, .int .i64 c.p2, .int .i64 c.cy, .int .i64 c.ex, .int .i64 c.fi, .int .i64 c.la, .int .i64 c.po] 24)) (.int .i64 L) (.int .i64 y) (.int .i64 i) 26
  rw [World.size_alloc] at U
  replace C := C.alloc (.cells #[.int .i64 L, .int .i64 y, .int .i64 i] 26)
  replace B := balloc B (.cells #[.int .i64 L, .int .i64 y, .int .i64 i] 26)
  replace T := T.alloc (.cells #[.int .i64 L, .int .i64 y, .int .i64 i] 26)
  have cr := fun w T => Runs_ok c L y i k l _ w R X hm T
  have cs := fun w T => Span_any c L (y + k) i p q 0 w S hm T
  clear R X S
  go_enter Tryz.func4, Tryz.ntmps4
  go_upto_region 1 with fail
  generalize (w.alloc (.cells #[.string c.nm, .int .i64 c.k, .int .i64 c.d, .int .i64 c.m, .int .i64 c.s, .int .i64 c.sh, .int .i64 c.p0, .int .i64 c.p1, .int .i64 c.p2, .int .i64 c.cy, .int .i64 c.ex, .int .i64 c.fi, .int .i64 c.la, .int .i64 c.po] 24)).alloc (.cells #[.int .i64 L, .int .i64 y, .int .i64 i] 26) = W0 at *
  obtain ⟨_, c0, c1, c2, c3, c4, c5, c6, c7, c8, c9, c10, c11, c12, c13⟩ := id C
  obtain ⟨_, u0, u1, u2, fu0, fu1, fu2⟩ := id U
  go_wp2_with fail
  refine (blive_ok _ T).mono ?_
  rintro e w1 ⟨rfl, hb⟩
  replace C := C.kept hb
  replace B := bthen B hb
  replace T := T.kept hb
  replace U := U.kept hb
  clear hb c0 c1 c2 c3 c4 c5 c6 c7 c8 c9 c10 c11 c12 c13 u0 u1 u2 fu0 fu1 fu2
  obtain ⟨_, c0, c1, c2, c3, c4, c5, c6, c7, c8, c9, c10, c11, c12, c13⟩ := id C
  obtain ⟨_, u0, u1, u2, fu0, fu1, fu2⟩ := id U
  go_wp2_with fail
  refine (cr _ T).mono ?_
  rintro e w2 ⟨g, cap, rfl, Rw, hg, hb, hcap⟩
  replace C := C.kept hb
  replace B := bthen B hb
  replace T := T.kept hb
  replace U := U.kept hb
  clear hb c0 c1 c2 c3 c4 c5 c6 c7 c8 c9 c10 c11 c12 c13 u0 u1 u2 fu0 fu1 fu2
  obtain ⟨_, c0, c1, c2, c3, c4, c5, c6, c7, c8, c9, c10, c11, c12, c13⟩ := id C
  obtain ⟨_, u0, u1, u2, fu0, fu1, fu2⟩ := id U
  clear hg hcap
  have o := Rw.c 0 (p, q) rfl
  clear cr
  go_upto_region 11 with fail
  have V := Go.Proofs.YtoeifpeiogeenaaGreatDoor.Bx.Tri.new w2 (.int .i64 L) (.int .i64 (y + k)) (.int .i64 i) 26
  replace Rw := Rw.alloc (.cells #[.int .i64 L, .int .i64 (y + k), .int .i64 i] 26)
  replace C := C.alloc (.cells #[.int .i64 L, .int .i64 (y + k), .int .i64 i] 26)
  replace T := T.alloc (.cells #[.int .i64 L, .int .i64 (y + k), .int .i64 i] 26)
  replace U := U.alloc (.cells #[.int .i64 L, .int .i64 (y + k), .int .i64 i] 26)
  replace B := balloc B (.cells #[.int .i64 L, .int .i64 (y + k), .int .i64 i] 26)
  clear c0 c1 c2 c3 c4 c5 c6 c7 c8 c9 c10 c11 c12 c13 u0 u1 u2 fu0 fu1 fu2
  obtain ⟨_, c0, c1, c2, c3, c4, c5, c6, c7, c8, c9, c10, c11, c12, c13⟩ := id C
  obtain ⟨_, u0, u1, u2, fu0, fu1, fu2⟩ := id U
  obtain ⟨_, v0, v1, v2, fv0, fv1, fv2⟩ := id V
  obtain ⟨_, _⟩ := id Rw
  go_wp2_with fail
  refine (cs _ T).mono ?_
  rintro e w3 ⟨rfl, hb⟩
  replace C := C.kept hb
  replace B := bthen B hb
  replace T := T.kept hb
  replace U := U.kept hb
  replace V := V.kept hb
  replace Rw := Rw.kept hb
  clear hb c0 c1 c2 c3 c4 c5 c6 c7 c8 c9 c10 c11 c12 c13 u0 u1 u2 fu0 fu1 fu2 v0 v1 v2 fv0 fv1 fv2
  obtain ⟨_, c0, c1, c2, c3, c4, c5, c6, c7, c8, c9, c10, c11, c12, c13⟩ := id C
  obtain ⟨_, u0, u1, u2, fu0, fu1, fu2⟩ := id U
  obtain ⟨_, v0, v1, v2, fv0, fv1, fv2⟩ := id V
  obtain ⟨_, _⟩ := id Rw
  have o := Rw.c 0 (p, q) rfl
  simp only [Nat.zero_mul, Nat.zero_add] at o
  obtain ⟨o0, o1⟩ := o
  have K := Go.Proofs.YtoeifpeiogeenaaGreatDoor.Pr.Two.new w3 (.int .i64 p) (.int .i64 q) 43
  go_upto_region 20 with fail
  replace Rw := Rw.alloc (.cells #[.int .i64 p, .int .i64 q] 43)
  replace B := balloc B (.cells #[.int .i64 p, .int .i64 q] 43)
  clear o0 o1
  have o := Rw.c 0 (p, q) rfl
  simp only [Nat.zero_mul, Nat.zero_add] at o
  obtain ⟨o0, o1⟩ := o
  obtain ⟨_, k0, k1, fk0, fk1⟩ := id K
  go_quiet (fail)
  go_wp2
  go_ret
  exact ⟨by simp <;> omega, bdrewN B _⟩

set_option maxRecDepth 100000 in
theorem months_week (c : CalZ) (y i k pp a b a' b' p q : Int) (l : List U3) (w : World) (tb : FTab w) (hm : c.nm.size ≤ maxLen) (dl : decide ((100 : Int) < (c.nm.size : Int)) = false) (d6 : (c.k != 6) = false) (d3 : decide (k < -400) = false) (d4 : decide (400 < k) = false) (R : TwA c 5 y i k l 0) (X : TwList c l [(p, q)]) (UP : UpA c 5 y i 4 4 y pp 0) (D1 : DownA c 4 y pp 5 5 y a b 0) (D2 : DownA c 4 (y + k) pp 5 5 (y + k) a' b' 0) (S : SpanA c 5 (y + k) (i - a + a') p q 0) (y0 : 1601 ≤ y) (y1 : y ≤ 9997) (t0 : 1601 ≤ y + k) (t1 : y + k ≤ 9997) (i0 : 1 ≤ i) (i1 : i ≤ 60) (a0 : 1 ≤ a) (a1 : a ≤ 60) (a2 : 1 ≤ a') (a3 : a' ≤ 60) :
    Calls Tryz.prog 4 #[.agg #[.string c.nm, .int .i64 c.k, .int .i64 c.d, .int .i64 c.m, .int .i64 c.s, .int .i64 c.sh, .int .i64 c.p0, .int .i64 c.p1, .int .i64 c.p2, .int .i64 c.cy, .int .i64 c.ex, .int .i64 c.fi, .int .i64 c.la, .int .i64 c.po], .agg #[.int .i64 5, .int .i64 y, .int .i64 i], .int .i64 k] w fun e w' => e = .returned (.bool true) ∧ Below w.heap.size w w' := by
  have T := tb
  have C := CalIn.new w c 24
  have B := balloc (Below.refl _ w) (.cells #[.string c.nm, .int .i64 c.k, .int .i64 c.d, .int .i64 c.m, .int .i64 c.s, .int .i64 c.sh, .int .i64 c.p0, .int .i64 c.p1, .int .i64 c.p2, .int .i64 c.cy, .int .i64 c.ex, .int .i64 c.fi, .int .i64 c.la, .int .i64 c.po] 24)
  replace T := T.alloc (.cells #[.string c.nm, .int .i64 c.k, .int .i64 c.d, .int .i64 c.m, .int .i64 c.s, .int .i64 c.sh, .int .i64 c.p0, .int .i64 c.p1, .int .i64 c.p2, .int .i64 c.cy, .int .i64 c.ex, .int .i64 c.fi, .int .i64 c.la, .int .i64 c.po] 24)
  have U := Go.Proofs.YtoeifpeiogeenaaGreatDoor.Bx.Tri.new (w.alloc (.cells #[.string c.nm, .int .i64 c.k, .int .i64 c.d, .int .i64 c.m, .int .i64 c.s, .int .i64 c.sh, .int .i64 c.p0, .int .i64 c.p1, .int .i64 c.p2, .int .i64 c.cy, .int .i64 c.ex, .int .i64 c.fi, .int .i64 c.la, .int .i64 c.po] 24)) (.int .i64 5) (.int .i64 y) (.int .i64 i) 26
  rw [World.size_alloc] at U
  replace C := C.alloc (.cells #[.int .i64 5, .int .i64 y, .int .i64 i] 26)
  replace B := balloc B (.cells #[.int .i64 5, .int .i64 y, .int .i64 i] 26)
  replace T := T.alloc (.cells #[.int .i64 5, .int .i64 y, .int .i64 i] 26)
  have cr := fun w T => Runs_ok c 5 y i k l _ w R X hm T
  have cs := fun w T => Span_any c 5 (y + k) (i - a + a') p q 0 w S hm T
  have cu := fun w T => Up_any c 5 y i 4 4 y pp 0 w UP hm T
  have c1' := fun w T => Down_any c 4 y pp 5 5 y a b 0 w D1 hm T
  have c2' := fun w T => Down_any c 4 (y + k) pp 5 5 (y + k) a' b' 0 w D2 hm T
  clear R X S UP D1 D2
  go_enter Tryz.func4, Tryz.ntmps4
  go_upto_region 1 with fail
  generalize (w.alloc (.cells #[.string c.nm, .int .i64 c.k, .int .i64 c.d, .int .i64 c.m, .int .i64 c.s, .int .i64 c.sh, .int .i64 c.p0, .int .i64 c.p1, .int .i64 c.p2, .int .i64 c.cy, .int .i64 c.ex, .int .i64 c.fi, .int .i64 c.la, .int .i64 c.po] 24)).alloc (.cells #[.int .i64 5, .int .i64 y, .int .i64 i] 26) = W0 at *
  obtain ⟨_, c0, c1, c2, c3, c4, c5, c6, c7, c8, c9, c10, c11, c12, c13⟩ := id C
  obtain ⟨_, u0, u1, u2, fu0, fu1, fu2⟩ := id U
  go_wp2_with fail
  refine (blive_ok _ T).mono ?_
  rintro e w1 ⟨rfl, hb⟩
  replace C := C.kept hb
  replace B := bthen B hb
  replace T := T.kept hb
  replace U := U.kept hb
  clear hb c0 c1 c2 c3 c4 c5 c6 c7 c8 c9 c10 c11 c12 c13 u0 u1 u2 fu0 fu1 fu2
  obtain ⟨_, c0, c1, c2, c3, c4, c5, c6, c7, c8, c9, c10, c11, c12, c13⟩ := id C
  obtain ⟨_, u0, u1, u2, fu0, fu1, fu2⟩ := id U
  go_wp2_with fail
  refine (cr _ T).mono ?_
  rintro e w2 ⟨g, cap, rfl, Rw, hg, hb, hcap⟩
  replace C := C.kept hb
  replace B := bthen B hb
  replace T := T.kept hb
  replace U := U.kept hb
  clear hb c0 c1 c2 c3 c4 c5 c6 c7 c8 c9 c10 c11 c12 c13 u0 u1 u2 fu0 fu1 fu2
  obtain ⟨_, c0, c1, c2, c3, c4, c5, c6, c7, c8, c9, c10, c11, c12, c13⟩ := id C
  obtain ⟨_, u0, u1, u2, fu0, fu1, fu2⟩ := id U
  clear hg hcap cr
  go_upto_region 11 with fail
  have Q := Bel.new w2
  have C2 := C
  have T2 := T
  have B2 := B
  have V := Go.Proofs.YtoeifpeiogeenaaGreatDoor.Bx.Tri.new w2 (.int .i64 5) (.int .i64 (y + k)) (.int .i64 i) 26
  obtain ⟨_⟩ := id Q
  replace C := C.alloc (.cells #[.int .i64 5, .int .i64 (y + k), .int .i64 i] 26)
  replace T := T.alloc (.cells #[.int .i64 5, .int .i64 (y + k), .int .i64 i] 26)
  replace U := U.alloc (.cells #[.int .i64 5, .int .i64 (y + k), .int .i64 i] 26)
  replace Q := Q.alloc (.cells #[.int .i64 5, .int .i64 (y + k), .int .i64 i] 26)
  replace B := balloc B (.cells #[.int .i64 5, .int .i64 (y + k), .int .i64 i] 26)
  clear c0 c1 c2 c3 c4 c5 c6 c7 c8 c9 c10 c11 c12 c13 u0 u1 u2 fu0 fu1 fu2
  obtain ⟨_, c0, c1, c2, c3, c4, c5, c6, c7, c8, c9, c10, c11, c12, c13⟩ := id C
  obtain ⟨_, u0, u1, u2, fu0, fu1, fu2⟩ := id U
  obtain ⟨_⟩ := id Q
  obtain ⟨_, v0, v1, v2, fv0, fv1, fv2⟩ := id V
  go_wp2_with fail
  refine (cu _ T).mono ?_
  rintro e w3 ⟨rfl, hb⟩
  replace C := C.kept hb
  replace B := bthen B hb
  replace T := T.kept hb
  replace U := U.kept hb
  replace Q := Q.kept hb
  replace V := V.kept hb
  clear hb c0 c1 c2 c3 c4 c5 c6 c7 c8 c9 c10 c11 c12 c13 u0 u1 u2 fu0 fu1 fu2 v0 v1 v2 fv0 fv1 fv2
  obtain ⟨_, c0, c1, c2, c3, c4, c5, c6, c7, c8, c9, c10, c11, c12, c13⟩ := id C
  obtain ⟨_, u0, u1, u2, fu0, fu1, fu2⟩ := id U
  obtain ⟨_⟩ := id Q
  obtain ⟨_, v0, v1, v2, fv0, fv1, fv2⟩ := id V
  have Q3 := Bel.new w3
  have C3 := C
  have T3 := T
  have B3 := B
  have V3 := V
  have Q23 := Q
  have U3' := U
  have P := Go.Proofs.YtoeifpeiogeenaaGreatDoor.Bx.Tri.new w3 (.int .i64 4) (.int .i64 y) (.int .i64 pp) 26
  obtain ⟨_⟩ := id Q3
  replace C := C.alloc (.cells #[.int .i64 4, .int .i64 y, .int .i64 pp] 26)
  replace T := T.alloc (.cells #[.int .i64 4, .int .i64 y, .int .i64 pp] 26)
  replace U := U.alloc (.cells #[.int .i64 4, .int .i64 y, .int .i64 pp] 26)
  replace Q := Q.alloc (.cells #[.int .i64 4, .int .i64 y, .int .i64 pp] 26)
  replace V := V.alloc (.cells #[.int .i64 4, .int .i64 y, .int .i64 pp] 26)
  replace Q3 := Q3.alloc (.cells #[.int .i64 4, .int .i64 y, .int .i64 pp] 26)
  replace B := balloc B (.cells #[.int .i64 4, .int .i64 y, .int .i64 pp] 26)
  clear c0 c1 c2 c3 c4 c5 c6 c7 c8 c9 c10 c11 c12 c13 u0 u1 u2 fu0 fu1 fu2 v0 v1 v2 fv0 fv1 fv2
  obtain ⟨_, c0, c1, c2, c3, c4, c5, c6, c7, c8, c9, c10, c11, c12, c13⟩ := id C
  obtain ⟨_, u0, u1, u2, fu0, fu1, fu2⟩ := id U
  obtain ⟨_⟩ := id Q
  obtain ⟨_, v0, v1, v2, fv0, fv1, fv2⟩ := id V
  obtain ⟨_⟩ := id Q3
  obtain ⟨_, p0, p1, p2, fp0, fp1, fp2⟩ := id P
  go_wp2_with fail
  refine (c1' _ T).mono ?_
  rintro e w4 ⟨rfl, hb⟩
  replace C := C.kept hb
  replace B := bthen B hb
  replace T := T.kept hb
  replace U := U.kept hb
  replace Q := Q.kept hb
  replace V := V.kept hb
  replace Q3 := Q3.kept hb
  replace P := P.kept hb
  clear hb c0 c1 c2 c3 c4 c5 c6 c7 c8 c9 c10 c11 c12 c13 u0 u1 u2 fu0 fu1 fu2 v0 v1 v2 fv0 fv1 fv2 p0 p1 p2 fp0 fp1 fp2
  obtain ⟨_, c0, c1, c2, c3, c4, c5, c6, c7, c8, c9, c10, c11, c12, c13⟩ := id C
  obtain ⟨_, u0, u1, u2, fu0, fu1, fu2⟩ := id U
  obtain ⟨_⟩ := id Q
  obtain ⟨_, v0, v1, v2, fv0, fv1, fv2⟩ := id V
  obtain ⟨_⟩ := id Q3
  obtain ⟨_, p0, p1, p2, fp0, fp1, fp2⟩ := id P
  go_upto_region 15 with fail
  have hS := bset Q3.b (Nat.le_refl _) 1 (.int .i64 (y + k))
  replace P := P.set1 (.int .i64 (y + k))
  clear u0 u1 u2 fu0 fu1 fu2 v0 v1 v2 fv0 fv1 fv2 p0 p1 p2 fp0 fp1 fp2 C T B V Q U
  clear c0 c1 c2 c3 c4 c5 c6 c7 c8 c9 c10 c11 c12 c13 
  obtain ⟨wS, hwS⟩ : ∃ wS, w4.setCell ⟨w3.heap.size, 1, none⟩ (.int .i64 (y + k)) = wS := ⟨_, rfl⟩
  rw [hwS] at hS P ⊢
  have C := C3.kept hS
  have T := T3.kept hS
  have B := bthen B3 hS
  have V := V3.kept hS
  have Q := Q23.kept hS
  have U := U3'.kept hS
  have zS : wS.heap.size = w4.heap.size := by rw [← hwS]; simp
  clear hwS hS Q3 C3 T3 B3 V3 Q23 U3'
  obtain ⟨_, c0, c1, c2, c3, c4, c5, c6, c7, c8, c9, c10, c11, c12, c13⟩ := id C
  obtain ⟨_, u0, u1, u2, fu0, fu1, fu2⟩ := id U
  obtain ⟨_, v0, v1, v2, fv0, fv1, fv2⟩ := id V
  obtain ⟨_, p0, p1, p2, fp0, fp1, fp2⟩ := id P
  obtain ⟨_⟩ := id Q
  have A := Go.Proofs.YtoeifpeiogeenaaGreatDoor.Bx.Tri.new wS (.int .i64 5) (.int .i64 y) (.int .i64 a) 26
  rw [zS] at A
  clear zS
  replace C := C.alloc (.cells #[.int .i64 5, .int .i64 y, .int .i64 a] 26)
  replace T := T.alloc (.cells #[.int .i64 5, .int .i64 y, .int .i64 a] 26)
  replace U := U.alloc (.cells #[.int .i64 5, .int .i64 y, .int .i64 a] 26)
  replace V := V.alloc (.cells #[.int .i64 5, .int .i64 y, .int .i64 a] 26)
  replace P := P.alloc (.cells #[.int .i64 5, .int .i64 y, .int .i64 a] 26)
  replace Q := Q.alloc (.cells #[.int .i64 5, .int .i64 y, .int .i64 a] 26)
  replace B := balloc B (.cells #[.int .i64 5, .int .i64 y, .int .i64 a] 26)
  clear c0 c1 c2 c3 c4 c5 c6 c7 c8 c9 c10 c11 c12 c13 u0 u1 u2 fu0 fu1 fu2 v0 v1 v2 fv0 fv1 fv2 p0 p1 p2 fp0 fp1 fp2
  obtain ⟨_, c0, c1, c2, c3, c4, c5, c6, c7, c8, c9, c10, c11, c12, c13⟩ := id C
  obtain ⟨_, u0, u1, u2, fu0, fu1, fu2⟩ := id U
  obtain ⟨_, v0, v1, v2, fv0, fv1, fv2⟩ := id V
  obtain ⟨_, p0, p1, p2, fp0, fp1, fp2⟩ := id P
  obtain ⟨_⟩ := id Q
  obtain ⟨_, a00, a01, a02, fa0, fa1, fa2⟩ := id A
  replace C := C.alloc (.cells #[.int .i64 5, .int .i64 y, .int .i64 b] 26)
  replace T := T.alloc (.cells #[.int .i64 5, .int .i64 y, .int .i64 b] 26)
  replace U := U.alloc (.cells #[.int .i64 5, .int .i64 y, .int .i64 b] 26)
  replace V := V.alloc (.cells #[.int .i64 5, .int .i64 y, .int .i64 b] 26)
  replace P := P.alloc (.cells #[.int .i64 5, .int .i64 y, .int .i64 b] 26)
  replace Q := Q.alloc (.cells #[.int .i64 5, .int .i64 y, .int .i64 b] 26)
  replace A := A.alloc (.cells #[.int .i64 5, .int .i64 y, .int .i64 b] 26)
  replace B := balloc B (.cells #[.int .i64 5, .int .i64 y, .int .i64 b] 26)
  clear c0 c1 c2 c3 c4 c5 c6 c7 c8 c9 c10 c11 c12 c13 u0 u1 u2 fu0 fu1 fu2 v0 v1 v2 fv0 fv1 fv2 p0 p1 p2 fp0 fp1 fp2 a00 a01 a02 fa0 fa1 fa2
  obtain ⟨_, c0, c1, c2, c3, c4, c5, c6, c7, c8, c9, c10, c11, c12, c13⟩ := id C
  obtain ⟨_, u0, u1, u2, fu0, fu1, fu2⟩ := id U
  obtain ⟨_, v0, v1, v2, fv0, fv1, fv2⟩ := id V
  obtain ⟨_, p0, p1, p2, fp0, fp1, fp2⟩ := id P
  obtain ⟨_⟩ := id Q
  obtain ⟨_, a00, a01, a02, fa0, fa1, fa2⟩ := id A
  go_wp2_with fail
  refine (c2' _ T).mono ?_
  rintro e w5 ⟨rfl, hb⟩
  replace C := C.kept hb
  replace B := bthen B hb
  replace T := T.kept hb
  replace U := U.kept hb
  replace V := V.kept hb
  replace P := P.kept hb
  replace Q := Q.kept hb
  replace A := A.kept hb
  clear hb c0 c1 c2 c3 c4 c5 c6 c7 c8 c9 c10 c11 c12 c13 u0 u1 u2 fu0 fu1 fu2 v0 v1 v2 fv0 fv1 fv2 p0 p1 p2 fp0 fp1 fp2 a00 a01 a02 fa0 fa1 fa2
  obtain ⟨_, c0, c1, c2, c3, c4, c5, c6, c7, c8, c9, c10, c11, c12, c13⟩ := id C
  obtain ⟨_, u0, u1, u2, fu0, fu1, fu2⟩ := id U
  obtain ⟨_, v0, v1, v2, fv0, fv1, fv2⟩ := id V
  obtain ⟨_, p0, p1, p2, fp0, fp1, fp2⟩ := id P
  obtain ⟨_⟩ := id Q
  obtain ⟨_, a00, a01, a02, fa0, fa1, fa2⟩ := id A
  have Q5 := Q
  have V5 := V
  have D := Go.Proofs.YtoeifpeiogeenaaGreatDoor.Bx.Tri.new w5 (.int .i64 5) (.int .i64 (y + k)) (.int .i64 a') 26
  replace C := C.alloc (.cells #[.int .i64 5, .int .i64 (y + k), .int .i64 a'] 26)
  replace T := T.alloc (.cells #[.int .i64 5, .int .i64 (y + k), .int .i64 a'] 26)
  replace U := U.alloc (.cells #[.int .i64 5, .int .i64 (y + k), .int .i64 a'] 26)
  replace V := V.alloc (.cells #[.int .i64 5, .int .i64 (y + k), .int .i64 a'] 26)
  replace P := P.alloc (.cells #[.int .i64 5, .int .i64 (y + k), .int .i64 a'] 26)
  replace Q := Q.alloc (.cells #[.int .i64 5, .int .i64 (y + k), .int .i64 a'] 26)
  replace A := A.alloc (.cells #[.int .i64 5, .int .i64 (y + k), .int .i64 a'] 26)
  replace B := balloc B (.cells #[.int .i64 5, .int .i64 (y + k), .int .i64 a'] 26)
  clear c0 c1 c2 c3 c4 c5 c6 c7 c8 c9 c10 c11 c12 c13 u0 u1 u2 fu0 fu1 fu2 v0 v1 v2 fv0 fv1 fv2 p0 p1 p2 fp0 fp1 fp2 a00 a01 a02 fa0 fa1 fa2
  obtain ⟨_, c0, c1, c2, c3, c4, c5, c6, c7, c8, c9, c10, c11, c12, c13⟩ := id C
  obtain ⟨_, u0, u1, u2, fu0, fu1, fu2⟩ := id U
  obtain ⟨_, v0, v1, v2, fv0, fv1, fv2⟩ := id V
  obtain ⟨_, p0, p1, p2, fp0, fp1, fp2⟩ := id P
  obtain ⟨_⟩ := id Q
  obtain ⟨_, a00, a01, a02, fa0, fa1, fa2⟩ := id A
  obtain ⟨_, d00, d01, d02, fd0, fd1, fd2⟩ := id D
  replace C := C.alloc (.cells #[.int .i64 5, .int .i64 (y + k), .int .i64 b'] 26)
  replace T := T.alloc (.cells #[.int .i64 5, .int .i64 (y + k), .int .i64 b'] 26)
  replace U := U.alloc (.cells #[.int .i64 5, .int .i64 (y + k), .int .i64 b'] 26)
  replace V := V.alloc (.cells #[.int .i64 5, .int .i64 (y + k), .int .i64 b'] 26)
  replace P := P.alloc (.cells #[.int .i64 5, .int .i64 (y + k), .int .i64 b'] 26)
  replace Q := Q.alloc (.cells #[.int .i64 5, .int .i64 (y + k), .int .i64 b'] 26)
  replace A := A.alloc (.cells #[.int .i64 5, .int .i64 (y + k), .int .i64 b'] 26)
  replace D := D.alloc (.cells #[.int .i64 5, .int .i64 (y + k), .int .i64 b'] 26)
  replace B := balloc B (.cells #[.int .i64 5, .int .i64 (y + k), .int .i64 b'] 26)
  clear c0 c1 c2 c3 c4 c5 c6 c7 c8 c9 c10 c11 c12 c13 u0 u1 u2 fu0 fu1 fu2 v0 v1 v2 fv0 fv1 fv2 p0 p1 p2 fp0 fp1 fp2 a00 a01 a02 fa0 fa1 fa2 d00 d01 d02 fd0 fd1 fd2
  obtain ⟨_, c0, c1, c2, c3, c4, c5, c6, c7, c8, c9, c10, c11, c12, c13⟩ := id C
  obtain ⟨_, u0, u1, u2, fu0, fu1, fu2⟩ := id U
  obtain ⟨_, v0, v1, v2, fv0, fv1, fv2⟩ := id V
  obtain ⟨_, p0, p1, p2, fp0, fp1, fp2⟩ := id P
  obtain ⟨_⟩ := id Q
  obtain ⟨_, a00, a01, a02, fa0, fa1, fa2⟩ := id A
  obtain ⟨_, d00, d01, d02, fd0, fd1, fd2⟩ := id D
  go_upto_region 19 with fail
  have hS := bset Q5.b (Nat.le_refl _) 2 (.int .i64 (i - a + a'))
  replace V5 := V5.set2 (.int .i64 (i - a + a'))
  clear u0 u1 u2 fu0 fu1 fu2 v0 v1 v2 fv0 fv1 fv2 p0 p1 p2 fp0 fp1 fp2 a00 a01 a02 fa0 fa1 fa2 d00 d01 d02 fd0 fd1 fd2 C T B V Q U P A D
  clear c0 c1 c2 c3 c4 c5 c6 c7 c8 c9 c10 c11 c12 c13 
  obtain ⟨wT, hwT⟩ : ∃ wT, w5.setCell ⟨w2.heap.size, 2, none⟩ (.int .i64 (i - a + a')) = wT := ⟨_, rfl⟩
  rw [hwT] at hS V5 ⊢
  have C := C2.kept hS
  have T := T2.kept hS
  have B := bthen B2 hS
  have V := V5
  replace Rw := Rw.kept hS
  clear hwT hS C2 T2 B2 V5 Q5
  obtain ⟨_, c0, c1, c2, c3, c4, c5, c6, c7, c8, c9, c10, c11, c12, c13⟩ := id C
  obtain ⟨_, v0, v1, v2, fv0, fv1, fv2⟩ := id V
  obtain ⟨_, _⟩ := id Rw
  replace C := C.alloc (.cells #[.int .i64 5, .int .i64 (y + k), .int .i64 a'] 26)
  replace T := T.alloc (.cells #[.int .i64 5, .int .i64 (y + k), .int .i64 a'] 26)
  replace V := V.alloc (.cells #[.int .i64 5, .int .i64 (y + k), .int .i64 a'] 26)
  replace Rw := Rw.alloc (.cells #[.int .i64 5, .int .i64 (y + k), .int .i64 a'] 26)
  replace B := balloc B (.cells #[.int .i64 5, .int .i64 (y + k), .int .i64 a'] 26)
  clear c0 c1 c2 c3 c4 c5 c6 c7 c8 c9 c10 c11 c12 c13 v0 v1 v2 fv0 fv1 fv2
  obtain ⟨_, c0, c1, c2, c3, c4, c5, c6, c7, c8, c9, c10, c11, c12, c13⟩ := id C
  obtain ⟨_, v0, v1, v2, fv0, fv1, fv2⟩ := id V
  obtain ⟨_, _⟩ := id Rw
  replace C := C.alloc (.cells #[.int .i64 5, .int .i64 (y + k), .int .i64 b'] 26)
  replace T := T.alloc (.cells #[.int .i64 5, .int .i64 (y + k), .int .i64 b'] 26)
  replace V := V.alloc (.cells #[.int .i64 5, .int .i64 (y + k), .int .i64 b'] 26)
  replace Rw := Rw.alloc (.cells #[.int .i64 5, .int .i64 (y + k), .int .i64 b'] 26)
  replace B := balloc B (.cells #[.int .i64 5, .int .i64 (y + k), .int .i64 b'] 26)
  clear c0 c1 c2 c3 c4 c5 c6 c7 c8 c9 c10 c11 c12 c13 v0 v1 v2 fv0 fv1 fv2
  obtain ⟨_, c0, c1, c2, c3, c4, c5, c6, c7, c8, c9, c10, c11, c12, c13⟩ := id C
  obtain ⟨_, v0, v1, v2, fv0, fv1, fv2⟩ := id V
  obtain ⟨_, _⟩ := id Rw
  go_wp2_with fail
  refine (cs _ T).mono ?_
  rintro e w6 ⟨rfl, hb⟩
  replace C := C.kept hb
  replace B := bthen B hb
  replace T := T.kept hb
  replace V := V.kept hb
  replace Rw := Rw.kept hb
  clear hb c0 c1 c2 c3 c4 c5 c6 c7 c8 c9 c10 c11 c12 c13 v0 v1 v2 fv0 fv1 fv2
  obtain ⟨_, c0, c1, c2, c3, c4, c5, c6, c7, c8, c9, c10, c11, c12, c13⟩ := id C
  obtain ⟨_, v0, v1, v2, fv0, fv1, fv2⟩ := id V
  obtain ⟨_, _⟩ := id Rw
  have K := Go.Proofs.YtoeifpeiogeenaaGreatDoor.Pr.Two.new w6 (.int .i64 p) (.int .i64 q) 43
  go_upto_region 20 with fail
  replace Rw := Rw.alloc (.cells #[.int .i64 p, .int .i64 q] 43)
  replace B := balloc B (.cells #[.int .i64 p, .int .i64 q] 43)
  have o := Rw.c 0 (p, q) rfl
  simp only [Nat.zero_mul, Nat.zero_add] at o
  obtain ⟨o0, o1⟩ := o
  obtain ⟨_, k0, k1, fk0, fk1⟩ := id K
  go_quiet (fail)
  go_wp2
  go_ret
  exact ⟨by simp <;> omega, bdrewN B _⟩

theorem months_walk (c : CalZ) (L y i k : Int) (w : World) (wf : CalWf c) (wL : (Lit.int .i64 L).wf = true) (wy : (Lit.int .i64 y).wf = true) (wi : (Lit.int .i64 i).wf = true) (wk : (Lit.int .i64 k).wf = true) (tb : FTab w) :
    Calls Tryz.prog 4 #[.agg #[.string c.nm, .int .i64 c.k, .int .i64 c.d, .int .i64 c.m, .int .i64 c.s, .int .i64 c.sh, .int .i64 c.p0, .int .i64 c.p1, .int .i64 c.p2, .int .i64 c.cy, .int .i64 c.ex, .int .i64 c.fi, .int .i64 c.la, .int .i64 c.po], .agg #[.int .i64 L, .int .i64 y, .int .i64 i], .int .i64 k] w fun e w' => e = .returned (.bool true) ∧ Below w.heap.size w w' := by
  by_cases h : 100 < c.nm.size ∨ c.k ≠ 6 ∨ k < -400 ∨ 400 < k
  · exact months_out c L y i k w tb h
  have k6 : c.k = 6 := by omega
  have dl : decide ((100 : Int) < (c.nm.size : Int)) = false := decide_eq_false (by omega)
  have d6 : (c.k != 6) = false := by rw [k6]; rfl
  have d3 : decide (k < -400) = false := decide_eq_false (by omega)
  have d4 : decide (400 < k) = false := decide_eq_false (by omega)
  obtain ⟨l, er, R⟩ := twa_ex c L y i k
  by_cases e : er = 0
  case neg =>
    refine months_er c L y i k er l w tb wk wf.1 dl d6 d3 d4 R e ?_
    by_cases e2 : er = 12
    · exact .inr ⟨by rw [e2]; rfl, by rw [months_gone k6 R e2]; rfl⟩
    · exact .inl (bne_iff_ne.2 e2)
  subst e
  obtain ⟨u, st, O⟩ := twa_months k6 R
  have ty := served_told u.1 u.2.2.1
  have tt := served_told u.1 st
  rcases O with ⟨hL, v, X, _⟩ | ⟨rfl, pp, a, b, a', b', I, w1, w2, v4, ai, a1, le, bu, rfl, X⟩
  · exact months_unit c L y i k _ _ l w tb wf.1 dl d6 d3 d4 R X (.inl ⟨v, rfl, rfl, rfl⟩) (beq_eq_false_iff_ne.2 hL) (by omega) (by omega) (by omega) (by omega)
  · have u4 := month_unit (t := y) k6 v4 (by omega) u.2.2.1
    have k1 := wkof_is u4 w1
    have ub := ucount_bd (L := 5) (y := y) u.1.1 (by omega) (by omega)
    have ub2 := ucount_bd (L := 5) (y := y + k) u.1.1 (by omega) (by omega)
    have ju := u.2.2.2.2
    have j0 := u.2.2.2.1
    have J : a' + (i - a) = i - a + a' := by omega
    rw [J] at X R
    have uj : UnitOk c 5 (y + k) (i - a + a') := ⟨u.1, u.2.1, st, by omega, by omega⟩
    exact months_week c y i k pp a b a' b' _ _ _ w tb wf.1 dl d6 d3 d4 R X (.inl ⟨u, by omega, by omega, I, rfl, rfl, rfl⟩) (.inl ⟨u4, by omega, by omega, w1.1, w1.2, rfl, rfl, rfl⟩) (.inl ⟨v4, by omega, by omega, w2.1, w2.2, rfl, rfl, rfl⟩) (.inl ⟨uj, rfl, rfl, rfl⟩) (by omega) (by omega) (by omega) (by omega) (by omega) (by omega) (by omega) (by omega) (by omega) (by omega)

end Go.Proofs.YtoeifpeiogeenaaGreatDoor.Bl
