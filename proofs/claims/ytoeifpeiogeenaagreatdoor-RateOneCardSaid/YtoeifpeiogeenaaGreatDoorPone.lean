/- RateOne's walk. -/
import Derived.Test.YtoeifpeiogeenaaGreatDoorPlive
import Derived.Test.YtoeifpeiogeenaaGreatDoorDcode
namespace Go.Proofs.YtoeifpeiogeenaaGreatDoor.Pl
set_option linter.unusedSimpArgs false
set_option linter.unusedVariables false
open Go.RowKit Go.Proofs.YtoeifpeiogeenaaGreatDoor.Bn Go.Proofs.YtoeifpeiogeenaaGreatDoor.Bx Go.Proofs.YtoeifpeiogeenaaGreatDoor.Cp Go.Proofs.YtoeifpeiogeenaaGreatDoor.Am Go.Proofs.YtoeifpeiogeenaaGreatDoor.Fp Go.Proofs.YtoeifpeiogeenaaGreatDoor.Ap Go.Proofs.YtoeifpeiogeenaaGreatDoor.Cm Go.Proofs.YtoeifpeiogeenaaGreatDoor.Em Go.Proofs.YtoeifpeiogeenaaGreatDoor.Ep Go.Proofs.YtoeifpeiogeenaaGreatDoor.Rk Go.Proofs.YtoeifpeiogeenaaGreatDoor.Hp Go.Proofs.YtoeifpeiogeenaaGreatDoor.Ip Go.Proofs.YtoeifpeiogeenaaGreatDoor.Jp Go.Proofs.YtoeifpeiogeenaaGreatDoor.Dp Go.Proofs.YtoeifpeiogeenaaGreatDoor.Pp
open Go.Proofs.YtoeifpeiogeenaaGreatDoor.Sm (IsSplit sm)
open Go.Proofs.YtoeifpeiogeenaaGreatDoor.Vm (Fit1)

set_option maxHeartbeats 8000000

/-- of one part all is its -/
theorem split_one {A : Int} {w o : Nat → Int} (h : IsSplit A w 1 o) (p : 0 < w 0) : o 0 = A := by
  have s := Go.Proofs.YtoeifpeiogeenaaGreatDoor.Sm.split_sum (a := A) (w := w) (n := 1) ⟨fun i hi => by have e : i = 0 := (by omega); rw [e]; omega, by simp [Go.Proofs.YtoeifpeiogeenaaGreatDoor.Sm.tot, sm]; exact p⟩ h
  simpa [sm] using s
/-- a span that lies in one unit -/
theorem one_cut {c : CalZ} {L q r a b : Int} (u : UnitOk c L q r) (h1 : uend c q L (r - 1) < a) (h2 : a ≤ b) (h3 : b ≤ uend c q L r) : Cut c L a b q r q r 0 := by
  have st := served_told u.1 u.2.2.1
  refine ⟨⟨u, u, Int.le_refl _, rfl, by omega, fun k hk => ?_, fun k hk => by omega⟩, daya_of u h1 (by omega), daya_of u (by omega) h3, h2⟩
  obtain rfl : k = 0 := by omega
  exact ⟨u, .inr ⟨rfl, Int.le_refl _⟩⟩

set_option maxRecDepth 100000 in
theorem rone_out (c : CalZ) (L A d n : Int) (w : World) (tb : FTab w) (h : 100 < c.nm.size ∨ n < 0 ∨ 400 < n) :
    Calls Tryz.prog 12 #[.agg #[.string c.nm, .int .i64 c.k, .int .i64 c.d, .int .i64 c.m, .int .i64 c.s, .int .i64 c.sh, .int .i64 c.p0, .int .i64 c.p1, .int .i64 c.p2, .int .i64 c.cy, .int .i64 c.ex, .int .i64 c.fi, .int .i64 c.la, .int .i64 c.po], .int .i64 L, .int .i64 A, .int .i64 d, .int .i64 n] w fun e w' => e = .returned (.bool true) ∧ Below w.heap.size w w' := by
  have T := tb
  have C := CalIn.new w c 24
  have B := balloc (Below.refl _ w) (.cells #[.string c.nm, .int .i64 c.k, .int .i64 c.d, .int .i64 c.m, .int .i64 c.s, .int .i64 c.sh, .int .i64 c.p0, .int .i64 c.p1, .int .i64 c.p2, .int .i64 c.cy, .int .i64 c.ex, .int .i64 c.fi, .int .i64 c.la, .int .i64 c.po] 24)
  replace T := T.alloc (.cells #[.string c.nm, .int .i64 c.k, .int .i64 c.d, .int .i64 c.m, .int .i64 c.s, .int .i64 c.sh, .int .i64 c.p0, .int .i64 c.p1, .int .i64 c.p2, .int .i64 c.cy, .int .i64 c.ex, .int .i64 c.fi, .int .i64 c.la, .int .i64 c.po] 24)
  have O : decide ((100 : Int) < (c.nm.size : Int)) = true ∨ (decide ((100 : Int) < (c.nm.size : Int)) = false ∧ decide (n < 0) = true) ∨ (decide ((100 : Int) < (c.nm.size : Int)) = false ∧ decide (n < 0) = false ∧ decide (400 < n) = true) := by
    by_cases h1 : 100 < c.nm.size
    · exact .inl (decide_eq_true (by omega))
    · by_cases h2 : n < 0
      · exact .inr (.inl ⟨decide_eq_false (by omega), decide_eq_true h2⟩)
      · exact .inr (.inr ⟨decide_eq_false (by omega), decide_eq_false h2, decide_eq_true (by omega)⟩)
  clear h
  rcases O with dl | ⟨dl, d1⟩ | ⟨dl, d1, d2⟩
  all_goals
    go_enter Tryz.func12, Tryz.ntmps12
    go_upto_region 1 with fail
    generalize w.alloc (.cells #[.string c.nm, .int .i64 c.k, .int .i64 c.d, .int .i64 c.m, .int .i64 c.s, .int .i64 c.sh, .int .i64 c.p0, .int .i64 c.p1, .int .i64 c.p2, .int .i64 c.cy, .int .i64 c.ex, .int .i64 c.fi, .int .i64 c.la, .int .i64 c.po] 24) = W0 at *
    obtain ⟨_, c0, c1, c2, c3, c4, c5, c6, c7, c8, c9, c10, c11, c12, c13⟩ := id C
    go_wp2_with fail
    refine (rlive_ok _ T).mono ?_
    rintro e w1 ⟨rfl, hb⟩
    replace C := C.kept hb
    replace B := bthen B hb
    replace T := T.kept hb
    clear hb c0 c1 c2 c3 c4 c5 c6 c7 c8 c9 c10 c11 c12 c13 
    obtain ⟨_, c0, c1, c2, c3, c4, c5, c6, c7, c8, c9, c10, c11, c12, c13⟩ := id C
    go_wp2
    go_ret
    exact ⟨by simp, B⟩

set_option maxRecDepth 100000 in
theorem rone_er (c : CalZ) (L A d n er : Int) (w : World) (tb : FTab w) (hm : c.nm.size ≤ maxLen) (dl : decide ((100 : Int) < (c.nm.size : Int)) = false) (d1 : decide (n < 0) = false) (d2 : decide (400 < n) = false) (D : DayA c d L 0 0 0 er) (R : MeetsA c L d d er) (ne : er ≠ 0) :
    Calls Tryz.prog 12 #[.agg #[.string c.nm, .int .i64 c.k, .int .i64 c.d, .int .i64 c.m, .int .i64 c.s, .int .i64 c.sh, .int .i64 c.p0, .int .i64 c.p1, .int .i64 c.p2, .int .i64 c.cy, .int .i64 c.ex, .int .i64 c.fi, .int .i64 c.la, .int .i64 c.po], .int .i64 L, .int .i64 A, .int .i64 d, .int .i64 n] w fun e w' => e = .returned (.bool true) ∧ Below w.heap.size w w' := by
  have T := tb
  have C := CalIn.new w c 24
  have B := balloc (Below.refl _ w) (.cells #[.string c.nm, .int .i64 c.k, .int .i64 c.d, .int .i64 c.m, .int .i64 c.s, .int .i64 c.sh, .int .i64 c.p0, .int .i64 c.p1, .int .i64 c.p2, .int .i64 c.cy, .int .i64 c.ex, .int .i64 c.fi, .int .i64 c.la, .int .i64 c.po] 24)
  replace T := T.alloc (.cells #[.string c.nm, .int .i64 c.k, .int .i64 c.d, .int .i64 c.m, .int .i64 c.s, .int .i64 c.sh, .int .i64 c.p0, .int .i64 c.p1, .int .i64 c.p2, .int .i64 c.cy, .int .i64 c.ex, .int .i64 c.fi, .int .i64 c.la, .int .i64 c.po] 24)
  have qd := fun w T => Day_any c d L 0 0 0 er w D hm T
  have qs := fun w T => Split_er c L A d d er w R ne hm T
  have n1 : (er != 0) = true := bne_iff_ne.2 ne
  have n2 : (er == er) = true := beq_self_eq_true er
  clear R ne D
  go_enter Tryz.func12, Tryz.ntmps12
  go_upto_region 1 with fail
  generalize w.alloc (.cells #[.string c.nm, .int .i64 c.k, .int .i64 c.d, .int .i64 c.m, .int .i64 c.s, .int .i64 c.sh, .int .i64 c.p0, .int .i64 c.p1, .int .i64 c.p2, .int .i64 c.cy, .int .i64 c.ex, .int .i64 c.fi, .int .i64 c.la, .int .i64 c.po] 24) = W0 at *
  obtain ⟨_, c0, c1, c2, c3, c4, c5, c6, c7, c8, c9, c10, c11, c12, c13⟩ := id C
  go_wp2_with fail
  refine (rlive_ok _ T).mono ?_
  rintro e w1 ⟨rfl, hb⟩
  replace C := C.kept hb
  replace B := bthen B hb
  replace T := T.kept hb
  clear hb c0 c1 c2 c3 c4 c5 c6 c7 c8 c9 c10 c11 c12 c13 
  obtain ⟨_, c0, c1, c2, c3, c4, c5, c6, c7, c8, c9, c10, c11, c12, c13⟩ := id C
  go_wp2_with fail
  refine (qd _ T).mono ?_
  rintro e w2 ⟨rfl, hb⟩
  replace C := C.kept hb
  replace B := bthen B hb
  replace T := T.kept hb
  clear hb c0 c1 c2 c3 c4 c5 c6 c7 c8 c9 c10 c11 c12 c13 
  obtain ⟨_, c0, c1, c2, c3, c4, c5, c6, c7, c8, c9, c10, c11, c12, c13⟩ := id C
  have U := Tri.new w2 (.int .i64 0) (.int .i64 0) (.int .i64 0) 26
  replace C := C.alloc (.cells #[.int .i64 0, .int .i64 0, .int .i64 0] 26)
  replace T := T.alloc (.cells #[.int .i64 0, .int .i64 0, .int .i64 0] 26)
  replace B := balloc B (.cells #[.int .i64 0, .int .i64 0, .int .i64 0] 26)
  clear c0 c1 c2 c3 c4 c5 c6 c7 c8 c9 c10 c11 c12 c13 
  obtain ⟨_, c0, c1, c2, c3, c4, c5, c6, c7, c8, c9, c10, c11, c12, c13⟩ := id C
  obtain ⟨_, u0, u1, u2, fu0, fu1, fu2⟩ := id U
  go_wp2_with fail
  refine (qs _ T).mono ?_
  rintro e w3 ⟨rfl, hb⟩
  replace C := C.kept hb
  replace B := bthen B hb
  replace T := T.kept hb
  replace U := U.kept hb
  clear hb c0 c1 c2 c3 c4 c5 c6 c7 c8 c9 c10 c11 c12 c13 u0 u1 u2 fu0 fu1 fu2
  obtain ⟨_, c0, c1, c2, c3, c4, c5, c6, c7, c8, c9, c10, c11, c12, c13⟩ := id C
  obtain ⟨_, u0, u1, u2, fu0, fu1, fu2⟩ := id U
  go_wp2
  go_ret
  exact ⟨by simp, B⟩

set_option maxRecDepth 100000 in
theorem rone_ok (c : CalZ) (L A d n q r f t e : Int) (w : World) (tb : FTab w) (hm : c.nm.size ≤ maxLen) (dl : decide ((100 : Int) < (c.nm.size : Int)) = false) (d1 : decide (n < 0) = false) (d2 : decide (400 < n) = false) (fa : Fit1 A) (D : DayA c d L L q r 0) (S : SpanA c L q r f t 0) (hf : 0 ≤ f) (fd : f ≤ d) (dt : d ≤ t) (t1 : t ≤ 3068036) (n0 : 0 ≤ n) (n1 : n ≤ 400) (he : (if t < d + n then t else d + n) = e) (h : Cut c L d e q r q r 0) :
    Calls Tryz.prog 12 #[.agg #[.string c.nm, .int .i64 c.k, .int .i64 c.d, .int .i64 c.m, .int .i64 c.s, .int .i64 c.sh, .int .i64 c.p0, .int .i64 c.p1, .int .i64 c.p2, .int .i64 c.cy, .int .i64 c.ex, .int .i64 c.fi, .int .i64 c.la, .int .i64 c.po], .int .i64 L, .int .i64 A, .int .i64 d, .int .i64 n] w fun e w' => e = .returned (.bool true) ∧ Below w.heap.size w w' := by
  have T := tb
  have C := CalIn.new w c 24
  have B := balloc (Below.refl _ w) (.cells #[.string c.nm, .int .i64 c.k, .int .i64 c.d, .int .i64 c.m, .int .i64 c.s, .int .i64 c.sh, .int .i64 c.p0, .int .i64 c.p1, .int .i64 c.p2, .int .i64 c.cy, .int .i64 c.ex, .int .i64 c.fi, .int .i64 c.la, .int .i64 c.po] 24)
  replace T := T.alloc (.cells #[.string c.nm, .int .i64 c.k, .int .i64 c.d, .int .i64 c.m, .int .i64 c.s, .int .i64 c.sh, .int .i64 c.p0, .int .i64 c.p1, .int .i64 c.p2, .int .i64 c.cy, .int .i64 c.ex, .int .i64 c.fi, .int .i64 c.la, .int .i64 c.po] 24)
  have qd := fun w T => Day_any c d L L q r 0 w D hm T
  have qp := fun w T => Span_any c L q r f t 0 w S hm T
  have qs := fun w T => Split_ok c L A d e q r q r 0 1 w h rfl (by omega) fa hm T
  have p0 : 0 < pday c L d e (q, r) 0 := by have := (h.day 0 (by omega)).1; omega
  clear D S h
  go_enter Tryz.func12, Tryz.ntmps12
  go_upto_region 1 with fail
  generalize w.alloc (.cells #[.string c.nm, .int .i64 c.k, .int .i64 c.d, .int .i64 c.m, .int .i64 c.s, .int .i64 c.sh, .int .i64 c.p0, .int .i64 c.p1, .int .i64 c.p2, .int .i64 c.cy, .int .i64 c.ex, .int .i64 c.fi, .int .i64 c.la, .int .i64 c.po] 24) = W0 at *
  obtain ⟨_, c0, c1, c2, c3, c4, c5, c6, c7, c8, c9, c10, c11, c12, c13⟩ := id C
  go_wp2_with fail
  refine (rlive_ok _ T).mono ?_
  rintro e w1 ⟨rfl, hb⟩
  replace C := C.kept hb
  replace B := bthen B hb
  replace T := T.kept hb
  clear hb c0 c1 c2 c3 c4 c5 c6 c7 c8 c9 c10 c11 c12 c13 
  obtain ⟨_, c0, c1, c2, c3, c4, c5, c6, c7, c8, c9, c10, c11, c12, c13⟩ := id C
  go_wp2_with fail
  refine (qd _ T).mono ?_
  rintro e w2 ⟨rfl, hb⟩
  replace C := C.kept hb
  replace B := bthen B hb
  replace T := T.kept hb
  clear hb c0 c1 c2 c3 c4 c5 c6 c7 c8 c9 c10 c11 c12 c13 
  obtain ⟨_, c0, c1, c2, c3, c4, c5, c6, c7, c8, c9, c10, c11, c12, c13⟩ := id C
  have U := Tri.new w2 (.int .i64 L) (.int .i64 q) (.int .i64 r) 26
  replace C := C.alloc (.cells #[.int .i64 L, .int .i64 q, .int .i64 r] 26)
  replace T := T.alloc (.cells #[.int .i64 L, .int .i64 q, .int .i64 r] 26)
  replace B := balloc B (.cells #[.int .i64 L, .int .i64 q, .int .i64 r] 26)
  clear c0 c1 c2 c3 c4 c5 c6 c7 c8 c9 c10 c11 c12 c13 
  obtain ⟨_, c0, c1, c2, c3, c4, c5, c6, c7, c8, c9, c10, c11, c12, c13⟩ := id C
  obtain ⟨_, u0, u1, u2, fu0, fu1, fu2⟩ := id U
  go_wp2_with fail
  refine (qp _ T).mono ?_
  rintro e w3 ⟨rfl, hb⟩
  replace C := C.kept hb
  replace B := bthen B hb
  replace T := T.kept hb
  replace U := U.kept hb
  clear hb c0 c1 c2 c3 c4 c5 c6 c7 c8 c9 c10 c11 c12 c13 u0 u1 u2 fu0 fu1 fu2
  obtain ⟨_, c0, c1, c2, c3, c4, c5, c6, c7, c8, c9, c10, c11, c12, c13⟩ := id C
  obtain ⟨_, u0, u1, u2, fu0, fu1, fu2⟩ := id U
  have K := Go.Proofs.YtoeifpeiogeenaaGreatDoor.Pr.Two.new w3 (.int .i64 f) (.int .i64 t) 43
  replace C := C.alloc (.cells #[.int .i64 f, .int .i64 t] 43)
  replace T := T.alloc (.cells #[.int .i64 f, .int .i64 t] 43)
  replace U := U.alloc (.cells #[.int .i64 f, .int .i64 t] 43)
  replace B := balloc B (.cells #[.int .i64 f, .int .i64 t] 43)
  clear c0 c1 c2 c3 c4 c5 c6 c7 c8 c9 c10 c11 c12 c13 u0 u1 u2 fu0 fu1 fu2
  obtain ⟨_, c0, c1, c2, c3, c4, c5, c6, c7, c8, c9, c10, c11, c12, c13⟩ := id C
  obtain ⟨_, u0, u1, u2, fu0, fu1, fu2⟩ := id U
  obtain ⟨_, k0, k1, fk0, fk1⟩ := id K
  go_wp2_with fail
  refine (qs _ T).mono ?_
  rintro e w4 ⟨g, o, rfl, O, ho, hg, hb⟩
  replace C := C.kept hb
  replace B := bthen B hb
  replace T := T.kept hb
  replace U := U.kept hb
  replace K := K.kept hb
  clear hb c0 c1 c2 c3 c4 c5 c6 c7 c8 c9 c10 c11 c12 c13 u0 u1 u2 fu0 fu1 fu2 k0 k1 fk0 fk1
  obtain ⟨_, c0, c1, c2, c3, c4, c5, c6, c7, c8, c9, c10, c11, c12, c13⟩ := id C
  obtain ⟨_, u0, u1, u2, fu0, fu1, fu2⟩ := id U
  obtain ⟨_, k0, k1, fk0, fk1⟩ := id K
  clear hg
  have oA := split_one ho p0
  have o0 := O.c 0 0 (by omega) (by omega)
  have o1 := O.c 0 1 (by omega) (by omega)
  have o2 := O.c 0 2 (by omega) (by omega)
  have o3 := O.c 0 3 (by omega) (by omega)
  have e0 : shareF c L (q, r) o 0 0 = L := rfl
  have e1 : shareF c L (q, r) o 0 1 = q := rfl
  have e2 : shareF c L (q, r) o 0 2 = r := rfl
  have e3 : shareF c L (q, r) o 0 3 = A := oA
  rw [e0] at o0
  rw [e1] at o1
  rw [e2] at o2
  rw [e3] at o3
  simp only [Nat.zero_mul, Nat.zero_add] at o0 o1 o2 o3
  clear e0 e1 e2 e3 oA ho p0 qd qp qs
  go_upto_region 11 with fail
  go_quiet (fail)
  go_wp2
  go_ret
  exact ⟨by simp, bdrewN B _⟩

theorem rone_walk (c : CalZ) (L A d n : Int) (w : World) (wf : CalWf c) (wL : (Lit.int .i64 L).wf = true) (wA : (Lit.int .i64 A).wf = true) (wd : (Lit.int .i64 d).wf = true) (wn : (Lit.int .i64 n).wf = true) (tb : FTab w) :
    Calls Tryz.prog 12 #[.agg #[.string c.nm, .int .i64 c.k, .int .i64 c.d, .int .i64 c.m, .int .i64 c.s, .int .i64 c.sh, .int .i64 c.p0, .int .i64 c.p1, .int .i64 c.p2, .int .i64 c.cy, .int .i64 c.ex, .int .i64 c.fi, .int .i64 c.la, .int .i64 c.po], .int .i64 L, .int .i64 A, .int .i64 d, .int .i64 n] w fun e w' => e = .returned (.bool true) ∧ Below w.heap.size w w' := by
  by_cases h : 100 < c.nm.size ∨ n < 0 ∨ 400 < n
  · exact rone_out c L A d n w tb h
  have dl : decide ((100 : Int) < (c.nm.size : Int)) = false := decide_eq_false (by omega)
  have d1 : decide (n < 0) = false := decide_eq_false (by omega)
  have d2 : decide (400 < n) = false := decide_eq_false (by omega)
  obtain ⟨p, q, r, er, D⟩ := daya_ex c d L
  by_cases e : er = 0
  case neg =>
    obtain ⟨rfl, rfl, rfl, _⟩ := daya_er D e
    refine rone_er c L A d n er w tb wf.1 dl d1 d2 D ?_ e
    by_cases k : CalOk c ∧ LevOk L
    · exact .inr (.inr (.inl ⟨k.1, k.2, Int.le_refl _, e, D⟩))
    · refine .inl ⟨k, ?_⟩
      rcases D with ⟨ok, l, _⟩ | ⟨ok, l, _⟩ | ⟨_, _, _, _, _, h⟩ | ⟨_, _, _, _, h⟩
      · exact absurd ⟨ok, l⟩ k
      · exact absurd ⟨ok, l⟩ k
      · exact h
      · exact h
  subst e
  obtain ⟨u, h1, h2, rfl, _⟩ := daya_to D
  have st := served_told u.1 u.2.2.1
  have b0 := uend_bd (c := c) (L := p) (y := q) (i := r - 1) u.1.1 (by omega) (by omega) u.2.1 (by have := u.2.2.2.1; omega) (by have := u.2.2.2.2; omega)
  have b1 := uend_bd (c := c) (L := p) (y := q) (i := r) u.1.1 (by omega) (by omega) u.2.1 (by have := u.2.2.2.1; omega) (by have := u.2.2.2.2; omega)
  refine rone_ok c p A d n q r _ _ _ w tb wf.1 dl d1 d2 (bounds_i64 wA) D (.inl ⟨u, rfl, rfl, rfl⟩) (by omega) (by omega) (by omega) (by omega) (by omega) (by omega) rfl (one_cut u (by omega) ?_ ?_)
  · by_cases z : uend c q p r < d + n
    · rw [if_pos z]; omega
    · rw [if_neg z]; omega
  · by_cases z : uend c q p r < d + n
    · rw [if_pos z]; omega
    · rw [if_neg z]; omega

end Go.Proofs.YtoeifpeiogeenaaGreatDoor.Pl
