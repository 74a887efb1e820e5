/- FindNext's walk. -/
import Derived.Test.YtmagdlcikcgelaaDoorDlive
import Derived.Test.YtmagdlcikcgelaaDoorDnext
namespace Go.Proofs.YtmagdlcikcgelaaDoor.Dl
set_option linter.unusedSimpArgs false
set_option linter.unusedVariables false
open Go.RowKit Go.Proofs.YtmagdlcikcgelaaDoor.Bn Go.Proofs.YtmagdlcikcgelaaDoor.Bx Go.Proofs.YtmagdlcikcgelaaDoor.Cp Go.Proofs.YtmagdlcikcgelaaDoor.Am Go.Proofs.YtmagdlcikcgelaaDoor.Fp Go.Proofs.YtmagdlcikcgelaaDoor.Ap Go.Proofs.YtmagdlcikcgelaaDoor.Cm Go.Proofs.YtmagdlcikcgelaaDoor.Em Go.Proofs.YtmagdlcikcgelaaDoor.Ep Go.Proofs.YtmagdlcikcgelaaDoor.Rk Go.Proofs.YtmagdlcikcgelaaDoor.Hp Go.Proofs.YtmagdlcikcgelaaDoor.Ip Go.Proofs.YtmagdlcikcgelaaDoor.Jp Go.Proofs.YtmagdlcikcgelaaDoor.Dp

set_option maxHeartbeats 16000000

set_option maxRecDepth 100000 in
theorem findnext_walk (c : CalZ) (L y i : Int) (w : World) (wf : CalWf c) (wL : (Lit.int .i64 L).wf = true) (wy : (Lit.int .i64 y).wf = true) (wi : (Lit.int .i64 i).wf = true) (tb : FTab w) :
    Calls Tryd.prog 4 #[.agg #[.string c.nm, .int .i64 c.k, .int .i64 c.d, .int .i64 c.m, .int .i64 c.s, .int .i64 c.sh, .int .i64 c.p0, .int .i64 c.p1, .int .i64 c.p2, .int .i64 c.cy, .int .i64 c.ex, .int .i64 c.fi, .int .i64 c.la, .int .i64 c.po], .agg #[.int .i64 L, .int .i64 y, .int .i64 i]] w fun e w' => e = .returned (.bool true) ∧ Below w.heap.size w w' := by
  have T := tb
  have C := CalIn.new w c 24
  have B := balloc (Below.refl _ w) (.cells #[.string c.nm, .int .i64 c.k, .int .i64 c.d, .int .i64 c.m, .int .i64 c.s, .int .i64 c.sh, .int .i64 c.p0, .int .i64 c.p1, .int .i64 c.p2, .int .i64 c.cy, .int .i64 c.ex, .int .i64 c.fi, .int .i64 c.la, .int .i64 c.po] 24)
  replace T := T.alloc (.cells #[.string c.nm, .int .i64 c.k, .int .i64 c.d, .int .i64 c.m, .int .i64 c.s, .int .i64 c.sh, .int .i64 c.p0, .int .i64 c.p1, .int .i64 c.p2, .int .i64 c.cy, .int .i64 c.ex, .int .i64 c.fi, .int .i64 c.la, .int .i64 c.po] 24)
  have U := Go.Proofs.YtmagdlcikcgelaaDoor.Bx.Tri.new (w.alloc (.cells #[.string c.nm, .int .i64 c.k, .int .i64 c.d, .int .i64 c.m, .int .i64 c.s, .int .i64 c.sh, .int .i64 c.p0, .int .i64 c.p1, .int .i64 c.p2, .int .i64 c.cy, .int .i64 c.ex, .int .i64 c.fi, .int .i64 c.la, .int .i64 c.po] 24)) (.int .i64 L) (.int .i64 y) (.int .i64 i) 26
  rw [World.size_alloc] at U
  replace C := C.alloc (.cells #[.int .i64 L, .int .i64 y, .int .i64 i] 26)
  replace B := balloc B (.cells #[.int .i64 L, .int .i64 y, .int .i64 i] 26)
  replace T := T.alloc (.cells #[.int .i64 L, .int .i64 y, .int .i64 i] 26)
  have hm := wf.1
  by_cases hl : 100 < c.nm.size
  · have dl : decide ((100 : Int) < (c.nm.size : Int)) = true := decide_eq_true (by omega)
    clear hl
    go_enter Tryd.func4, Tryd.ntmps4
    go_upto_region 1 with fail
    generalize (w.alloc (.cells #[.string c.nm, .int .i64 c.k, .int .i64 c.d, .int .i64 c.m, .int .i64 c.s, .int .i64 c.sh, .int .i64 c.p0, .int .i64 c.p1, .int .i64 c.p2, .int .i64 c.cy, .int .i64 c.ex, .int .i64 c.fi, .int .i64 c.la, .int .i64 c.po] 24)).alloc (.cells #[.int .i64 L, .int .i64 y, .int .i64 i] 26) = W0 at *
    obtain ⟨_, c0, c1, c2, c3, c4, c5, c6, c7, c8, c9, c10, c11, c12, c13⟩ := id C
    obtain ⟨_, u0, u1, u2, fu0, fu1, fu2⟩ := id U
    go_wp2_with fail
    refine (dlive_ok _ T).mono ?_
    rintro e w1 ⟨rfl, hb⟩
    replace C := C.kept hb
    replace B := bthen B hb
    replace T := T.kept hb
    replace U := U.kept hb
    clear hb c0 c1 c2 c3 c4 c5 c6 c7 c8 c9 c10 c11 c12 c13 u0 u1 u2 fu0 fu1 fu2
    obtain ⟨_, c0, c1, c2, c3, c4, c5, c6, c7, c8, c9, c10, c11, c12, c13⟩ := id C
    obtain ⟨_, u0, u1, u2, fu0, fu1, fu2⟩ := id U
    go_wp2
    go_ret
    exact ⟨by simp <;> omega, B⟩
  have dl : decide ((100 : Int) < (c.nm.size : Int)) = false := decide_eq_false (by omega)
  clear hl
  by_cases h : UnitOk c L y i
  · have h0 := h
    obtain ⟨ok, l, s, i0, i1⟩ := h
    have st := served_told ok s
    have yo := ok.2.2.1
    obtain ⟨fi0, la1, _, _⟩ := yo
    obtain ⟨a, ha⟩ : ∃ a, a = uend c y L (i - 1) + 1 := ⟨_, rfl⟩
    obtain ⟨b, hb'⟩ : ∃ b, b = uend c y L i := ⟨_, rfl⟩
    obtain ⟨A, hA⟩ : ∃ A, A = yend c (c.fi - 1) + 1 := ⟨_, rfl⟩
    obtain ⟨Z, hZ⟩ : ∃ Z, Z = yend c c.la := ⟨_, rfl⟩
    have b0 := uend_bd (y := y) (i := i - 1) ok.1 (by omega) (by omega) l (by omega) (by omega)
    have b1 := uend_bd (y := y) (i := i) ok.1 (by omega) (by omega) l (by omega) (by omega)
    have t := uend_step (y := y) (i := i - 1) ok.1 (by omega) (by omega) l (by omega) (by omega)
    rw [show i - 1 + 1 = i by omega] at t
    have nb := next_bound h0
    rw [← hb', ← hZ] at nb
    have cs := fun w T => Span_any c L y i a b 0 w (.inl ⟨h0, ha, hb', rfl⟩) hm T
    have cb := fun w T => Bounds_any c A Z 0 w (.inl ⟨ok, hA, hZ, rfl⟩) hm T
    have own : ∀ n, uend c y L (i - 1) < n → n ≤ uend c y L i → DayA c n L L y i 0 := fun n p q => daya_of h0 p q
    have N : ∃ p q r f, NextA c L y i p q r f ∧ ((f = 0 ∧ decide (b < Z) = true ∧ ∃ vb, (∀ w, FTab w → Calls Tryd.prog 16 #[.agg #[.string c.nm, .int .i64 c.k, .int .i64 c.d, .int .i64 c.m, .int .i64 c.s, .int .i64 c.sh, .int .i64 c.p0, .int .i64 c.p1, .int .i64 c.p2, .int .i64 c.cy, .int .i64 c.ex, .int .i64 c.fi, .int .i64 c.la, .int .i64 c.po], .agg #[.int .i64 p, .int .i64 q, .int .i64 r]] w fun e w' => e = .returned (.tuple #[.agg #[.int .i64 (b + 1), .int .i64 vb], .int .i64 0]) ∧ Below w.heap.size w w') ∧
        (∀ w, FTab w → Calls Tryd.prog 18 #[.agg #[.string c.nm, .int .i64 c.k, .int .i64 c.d, .int .i64 c.m, .int .i64 c.s, .int .i64 c.sh, .int .i64 c.p0, .int .i64 c.p1, .int .i64 c.p2, .int .i64 c.cy, .int .i64 c.ex, .int .i64 c.fi, .int .i64 c.la, .int .i64 c.po], .agg #[.int .i64 p, .int .i64 q, .int .i64 r]] w fun e w' => e = .returned (.tuple #[.agg #[.int .i64 L, .int .i64 y, .int .i64 i], .int .i64 0]) ∧ Below w.heap.size w w')) ∨ (f = 11 ∧ decide (b < Z) = false)) := by
      rcases next_ex h0 with ⟨q, N, v, e⟩ | ⟨q, k, N, v, e⟩ | ⟨q, k, N⟩
      · refine ⟨_, _, _, _, N, .inl ⟨rfl, decide_eq_true (nb.1.2 (fun x => by omega)), _, fun w T => Span_any c L y (i + 1) _ _ 0 w (.inl ⟨v, by rw [e, hb'], rfl, rfl⟩) hm T, fun w T => Back_any c L y (i + 1) L y i 0 w (.inl ⟨v, by rw [e]; exact own _ (by omega) (Int.le_refl _)⟩) hm T⟩⟩
      · refine ⟨_, _, _, _, N, .inl ⟨rfl, decide_eq_true (nb.1.2 (fun x => by omega)), _, fun w T => Span_any c L (y + 1) 1 _ _ 0 w (.inl ⟨v, by rw [e, hb'], rfl, rfl⟩) hm T, fun w T => Back_any c L (y + 1) 1 L y i 0 w (.inl ⟨v, by rw [e]; exact own _ (by omega) (Int.le_refl _)⟩) hm T⟩⟩
      · exact ⟨_, _, _, _, N, .inr ⟨rfl, decide_eq_false (fun x => nb.1.1 x ⟨q, k⟩)⟩⟩
    have M : ∃ p q r f, BackA c L y i p q r f ∧ ((f = 0 ∧ decide (A < a) = true ∧ ∃ va vb, vb + 1 = a ∧ 0 ≤ vb ∧ vb ≤ 3068036 ∧ (∀ w, FTab w → Calls Tryd.prog 16 #[.agg #[.string c.nm, .int .i64 c.k, .int .i64 c.d, .int .i64 c.m, .int .i64 c.s, .int .i64 c.sh, .int .i64 c.p0, .int .i64 c.p1, .int .i64 c.p2, .int .i64 c.cy, .int .i64 c.ex, .int .i64 c.fi, .int .i64 c.la, .int .i64 c.po], .agg #[.int .i64 p, .int .i64 q, .int .i64 r]] w fun e w' => e = .returned (.tuple #[.agg #[.int .i64 va, .int .i64 vb], .int .i64 0]) ∧ Below w.heap.size w w') ∧
        (∀ w, FTab w → Calls Tryd.prog 17 #[.agg #[.string c.nm, .int .i64 c.k, .int .i64 c.d, .int .i64 c.m, .int .i64 c.s, .int .i64 c.sh, .int .i64 c.p0, .int .i64 c.p1, .int .i64 c.p2, .int .i64 c.cy, .int .i64 c.ex, .int .i64 c.fi, .int .i64 c.la, .int .i64 c.po], .agg #[.int .i64 p, .int .i64 q, .int .i64 r]] w fun e w' => e = .returned (.tuple #[.agg #[.int .i64 L, .int .i64 y, .int .i64 i], .int .i64 0]) ∧ Below w.heap.size w w')) ∨ (f = 11 ∧ decide (A < a) = false)) := by
      rcases back_ex h0 with ⟨q, N, v⟩ | ⟨q, k, N, v, e⟩ | ⟨q, k, N⟩
      · exact ⟨_, _, _, _, N, .inl ⟨rfl, decide_eq_true (by have := nb.2.1.2 (fun x => by omega); omega), _, _, ha.symm, b0.2.2.1, b0.2.2.2, fun w T => Span_any c L y (i - 1) _ _ 0 w (.inl ⟨v, rfl, rfl, rfl⟩) hm T, fun w T => Next_any c L y (i - 1) L y i 0 w (.inl ⟨v, own _ (by omega) (by omega)⟩) hm T⟩⟩
      · refine ⟨_, _, _, _, N, .inl ⟨rfl, decide_eq_true (by have := nb.2.1.2 (fun x => by omega); omega), _, _, ?_, ?_, ?_, fun w T => Span_any c L (y - 1) _ _ _ 0 w (.inl ⟨v, rfl, rfl, rfl⟩) hm T, fun w T => Next_any c L (y - 1) _ L y i 0 w (.inl ⟨v, by rw [e]; exact own _ (by omega) (by omega)⟩) hm T⟩⟩
        · rw [e, ha]
        · rw [e]; exact b0.2.2.1
        · rw [e]; exact b0.2.2.2
      · exact ⟨_, _, _, _, N, .inr ⟨rfl, decide_eq_false (fun x => nb.2.1.1 (by omega) ⟨q, k⟩)⟩⟩
    obtain ⟨p, q, r, f, N, ON⟩ := N
    obtain ⟨p2, q2, r2, f2, M, OM⟩ := M
    have cn := fun w T => Next_any c L y i p q r f w N hm T
    have cm := fun w T => Back_any c L y i p2 q2 r2 f2 w M hm T
    have bd : 0 ≤ a ∧ a ≤ 3068037 ∧ 0 ≤ b ∧ b ≤ 3068036 := by omega
    obtain ⟨ba0, ba1, bb0, bb1⟩ := bd
    have GM := Lib.hid OM
    clear ok l s i0 i1 st ha hb' hA hZ b0 b1 t nb own N M OM h0 fi0 la1
    go_enter Tryd.func4, Tryd.ntmps4
    go_upto_region 1 with fail
    generalize (w.alloc (.cells #[.string c.nm, .int .i64 c.k, .int .i64 c.d, .int .i64 c.m, .int .i64 c.s, .int .i64 c.sh, .int .i64 c.p0, .int .i64 c.p1, .int .i64 c.p2, .int .i64 c.cy, .int .i64 c.ex, .int .i64 c.fi, .int .i64 c.la, .int .i64 c.po] 24)).alloc (.cells #[.int .i64 L, .int .i64 y, .int .i64 i] 26) = W0 at *
    obtain ⟨_, c0, c1, c2, c3, c4, c5, c6, c7, c8, c9, c10, c11, c12, c13⟩ := id C
    obtain ⟨_, u0, u1, u2, fu0, fu1, fu2⟩ := id U
    go_wp2_with fail
    refine (dlive_ok _ T).mono ?_
    rintro e w2 ⟨rfl, hb⟩
    replace C := C.kept hb
    replace B := bthen B hb
    replace T := T.kept hb
    replace U := U.kept hb
    clear hb c0 c1 c2 c3 c4 c5 c6 c7 c8 c9 c10 c11 c12 c13 u0 u1 u2 fu0 fu1 fu2
    obtain ⟨_, c0, c1, c2, c3, c4, c5, c6, c7, c8, c9, c10, c11, c12, c13⟩ := id C
    obtain ⟨_, u0, u1, u2, fu0, fu1, fu2⟩ := id U
    go_wp2_with fail
    refine (cs _ T).mono ?_
    rintro e w3 ⟨rfl, hb⟩
    replace C := C.kept hb
    replace B := bthen B hb
    replace T := T.kept hb
    replace U := U.kept hb
    clear hb c0 c1 c2 c3 c4 c5 c6 c7 c8 c9 c10 c11 c12 c13 u0 u1 u2 fu0 fu1 fu2
    obtain ⟨_, c0, c1, c2, c3, c4, c5, c6, c7, c8, c9, c10, c11, c12, c13⟩ := id C
    obtain ⟨_, u0, u1, u2, fu0, fu1, fu2⟩ := id U
    have K := Go.Proofs.YtmagdlcikcgelaaDoor.Pr.Two.new w3 (.int .i64 a) (.int .i64 b) 32
    replace C := C.alloc (.cells #[.int .i64 a, .int .i64 b] 32)
    replace T := T.alloc (.cells #[.int .i64 a, .int .i64 b] 32)
    replace U := U.alloc (.cells #[.int .i64 a, .int .i64 b] 32)
    replace B := balloc B (.cells #[.int .i64 a, .int .i64 b] 32)
    clear c0 c1 c2 c3 c4 c5 c6 c7 c8 c9 c10 c11 c12 c13 u0 u1 u2 fu0 fu1 fu2
    obtain ⟨_, c0, c1, c2, c3, c4, c5, c6, c7, c8, c9, c10, c11, c12, c13⟩ := id C
    obtain ⟨_, u0, u1, u2, fu0, fu1, fu2⟩ := id U
    obtain ⟨_, k0, k1, fk0, fk1⟩ := id K
    go_wp2_with fail
    refine (cn _ T).mono ?_
    rintro e w4 ⟨rfl, hb⟩
    replace C := C.kept hb
    replace B := bthen B hb
    replace T := T.kept hb
    replace U := U.kept hb
    replace K := K.kept hb
    clear hb c0 c1 c2 c3 c4 c5 c6 c7 c8 c9 c10 c11 c12 c13 u0 u1 u2 fu0 fu1 fu2 k0 k1 fk0 fk1
    obtain ⟨_, c0, c1, c2, c3, c4, c5, c6, c7, c8, c9, c10, c11, c12, c13⟩ := id C
    obtain ⟨_, u0, u1, u2, fu0, fu1, fu2⟩ := id U
    obtain ⟨_, k0, k1, fk0, fk1⟩ := id K
    have V := Go.Proofs.YtmagdlcikcgelaaDoor.Bx.Tri.new w4 (.int .i64 p) (.int .i64 q) (.int .i64 r) 26
    replace C := C.alloc (.cells #[.int .i64 p, .int .i64 q, .int .i64 r] 26)
    replace T := T.alloc (.cells #[.int .i64 p, .int .i64 q, .int .i64 r] 26)
    replace U := U.alloc (.cells #[.int .i64 p, .int .i64 q, .int .i64 r] 26)
    replace K := K.alloc (.cells #[.int .i64 p, .int .i64 q, .int .i64 r] 26)
    replace B := balloc B (.cells #[.int .i64 p, .int .i64 q, .int .i64 r] 26)
    clear c0 c1 c2 c3 c4 c5 c6 c7 c8 c9 c10 c11 c12 c13 u0 u1 u2 fu0 fu1 fu2 k0 k1 fk0 fk1
    obtain ⟨_, c0, c1, c2, c3, c4, c5, c6, c7, c8, c9, c10, c11, c12, c13⟩ := id C
    obtain ⟨_, u0, u1, u2, fu0, fu1, fu2⟩ := id U
    obtain ⟨_, k0, k1, fk0, fk1⟩ := id K
    obtain ⟨_, v0, v1, v2, fv0, fv1, fv2⟩ := id V
    go_wp2_with fail
    refine (cm _ T).mono ?_
    rintro e w5 ⟨rfl, hb⟩
    replace C := C.kept hb
    replace B := bthen B hb
    replace T := T.kept hb
    replace U := U.kept hb
    replace K := K.kept hb
    replace V := V.kept hb
    clear hb c0 c1 c2 c3 c4 c5 c6 c7 c8 c9 c10 c11 c12 c13 u0 u1 u2 fu0 fu1 fu2 k0 k1 fk0 fk1 v0 v1 v2 fv0 fv1 fv2
    obtain ⟨_, c0, c1, c2, c3, c4, c5, c6, c7, c8, c9, c10, c11, c12, c13⟩ := id C
    obtain ⟨_, u0, u1, u2, fu0, fu1, fu2⟩ := id U
    obtain ⟨_, k0, k1, fk0, fk1⟩ := id K
    obtain ⟨_, v0, v1, v2, fv0, fv1, fv2⟩ := id V
    have X := Go.Proofs.YtmagdlcikcgelaaDoor.Bx.Tri.new w5 (.int .i64 p2) (.int .i64 q2) (.int .i64 r2) 26
    replace C := C.alloc (.cells #[.int .i64 p2, .int .i64 q2, .int .i64 r2] 26)
    replace T := T.alloc (.cells #[.int .i64 p2, .int .i64 q2, .int .i64 r2] 26)
    replace U := U.alloc (.cells #[.int .i64 p2, .int .i64 q2, .int .i64 r2] 26)
    replace K := K.alloc (.cells #[.int .i64 p2, .int .i64 q2, .int .i64 r2] 26)
    replace V := V.alloc (.cells #[.int .i64 p2, .int .i64 q2, .int .i64 r2] 26)
    replace B := balloc B (.cells #[.int .i64 p2, .int .i64 q2, .int .i64 r2] 26)
    clear c0 c1 c2 c3 c4 c5 c6 c7 c8 c9 c10 c11 c12 c13 u0 u1 u2 fu0 fu1 fu2 k0 k1 fk0 fk1 v0 v1 v2 fv0 fv1 fv2
    obtain ⟨_, c0, c1, c2, c3, c4, c5, c6, c7, c8, c9, c10, c11, c12, c13⟩ := id C
    obtain ⟨_, u0, u1, u2, fu0, fu1, fu2⟩ := id U
    obtain ⟨_, k0, k1, fk0, fk1⟩ := id K
    obtain ⟨_, v0, v1, v2, fv0, fv1, fv2⟩ := id V
    obtain ⟨_, x0, x1, x2, fx0, fx1, fx2⟩ := id X
    go_wp2_with fail
    refine (cb _ T).mono ?_
    rintro e w6 ⟨rfl, hb⟩
    replace C := C.kept hb
    replace B := bthen B hb
    replace T := T.kept hb
    replace U := U.kept hb
    replace K := K.kept hb
    replace V := V.kept hb
    replace X := X.kept hb
    clear hb c0 c1 c2 c3 c4 c5 c6 c7 c8 c9 c10 c11 c12 c13 u0 u1 u2 fu0 fu1 fu2 k0 k1 fk0 fk1 v0 v1 v2 fv0 fv1 fv2 x0 x1 x2 fx0 fx1 fx2
    obtain ⟨_, c0, c1, c2, c3, c4, c5, c6, c7, c8, c9, c10, c11, c12, c13⟩ := id C
    obtain ⟨_, u0, u1, u2, fu0, fu1, fu2⟩ := id U
    obtain ⟨_, k0, k1, fk0, fk1⟩ := id K
    obtain ⟨_, v0, v1, v2, fv0, fv1, fv2⟩ := id V
    obtain ⟨_, x0, x1, x2, fx0, fx1, fx2⟩ := id X
    have H := Go.Proofs.YtmagdlcikcgelaaDoor.Pr.Two.new w6 (.int .i64 A) (.int .i64 Z) 32
    replace C := C.alloc (.cells #[.int .i64 A, .int .i64 Z] 32)
    replace T := T.alloc (.cells #[.int .i64 A, .int .i64 Z] 32)
    replace U := U.alloc (.cells #[.int .i64 A, .int .i64 Z] 32)
    replace K := K.alloc (.cells #[.int .i64 A, .int .i64 Z] 32)
    replace V := V.alloc (.cells #[.int .i64 A, .int .i64 Z] 32)
    replace X := X.alloc (.cells #[.int .i64 A, .int .i64 Z] 32)
    replace B := balloc B (.cells #[.int .i64 A, .int .i64 Z] 32)
    clear c0 c1 c2 c3 c4 c5 c6 c7 c8 c9 c10 c11 c12 c13 u0 u1 u2 fu0 fu1 fu2 k0 k1 fk0 fk1 v0 v1 v2 fv0 fv1 fv2 x0 x1 x2 fx0 fx1 fx2
    obtain ⟨_, c0, c1, c2, c3, c4, c5, c6, c7, c8, c9, c10, c11, c12, c13⟩ := id C
    obtain ⟨_, u0, u1, u2, fu0, fu1, fu2⟩ := id U
    obtain ⟨_, k0, k1, fk0, fk1⟩ := id K
    obtain ⟨_, v0, v1, v2, fv0, fv1, fv2⟩ := id V
    obtain ⟨_, x0, x1, x2, fx0, fx1, fx2⟩ := id X
    obtain ⟨_, h0, h1, fh0, fh1⟩ := id H
    clear cs cn cm cb
    rcases ON with ⟨rfl, n1, vb, cv, cx⟩ | ⟨rfl, n1⟩
    · rcases GM.out with ⟨rfl, m1, ma, mb, m2, m3, m4, cy, cz⟩ | ⟨rfl, m1⟩
      · go_wp2_with fail
        refine (cv _ T).mono ?_
        rintro e w7 ⟨rfl, hb⟩
        replace C := C.kept hb
        replace B := bthen B hb
        replace T := T.kept hb
        replace U := U.kept hb
        replace K := K.kept hb
        replace V := V.kept hb
        replace X := X.kept hb
        replace H := H.kept hb
        clear hb c0 c1 c2 c3 c4 c5 c6 c7 c8 c9 c10 c11 c12 c13 u0 u1 u2 fu0 fu1 fu2 k0 k1 fk0 fk1 v0 v1 v2 fv0 fv1 fv2 x0 x1 x2 fx0 fx1 fx2 h0 h1 fh0 fh1
        obtain ⟨_, c0, c1, c2, c3, c4, c5, c6, c7, c8, c9, c10, c11, c12, c13⟩ := id C
        obtain ⟨_, u0, u1, u2, fu0, fu1, fu2⟩ := id U
        obtain ⟨_, k0, k1, fk0, fk1⟩ := id K
        obtain ⟨_, v0, v1, v2, fv0, fv1, fv2⟩ := id V
        obtain ⟨_, x0, x1, x2, fx0, fx1, fx2⟩ := id X
        obtain ⟨_, h0, h1, fh0, fh1⟩ := id H
        have E := Go.Proofs.YtmagdlcikcgelaaDoor.Pr.Two.new w7 (.int .i64 (b + 1)) (.int .i64 vb) 32
        replace C := C.alloc (.cells #[.int .i64 (b + 1), .int .i64 vb] 32)
        replace T := T.alloc (.cells #[.int .i64 (b + 1), .int .i64 vb] 32)
        replace U := U.alloc (.cells #[.int .i64 (b + 1), .int .i64 vb] 32)
        replace K := K.alloc (.cells #[.int .i64 (b + 1), .int .i64 vb] 32)
        replace V := V.alloc (.cells #[.int .i64 (b + 1), .int .i64 vb] 32)
        replace X := X.alloc (.cells #[.int .i64 (b + 1), .int .i64 vb] 32)
        replace H := H.alloc (.cells #[.int .i64 (b + 1), .int .i64 vb] 32)
        replace B := balloc B (.cells #[.int .i64 (b + 1), .int .i64 vb] 32)
        clear c0 c1 c2 c3 c4 c5 c6 c7 c8 c9 c10 c11 c12 c13 u0 u1 u2 fu0 fu1 fu2 k0 k1 fk0 fk1 v0 v1 v2 fv0 fv1 fv2 x0 x1 x2 fx0 fx1 fx2 h0 h1 fh0 fh1
        obtain ⟨_, c0, c1, c2, c3, c4, c5, c6, c7, c8, c9, c10, c11, c12, c13⟩ := id C
        obtain ⟨_, u0, u1, u2, fu0, fu1, fu2⟩ := id U
        obtain ⟨_, k0, k1, fk0, fk1⟩ := id K
        obtain ⟨_, v0, v1, v2, fv0, fv1, fv2⟩ := id V
        obtain ⟨_, x0, x1, x2, fx0, fx1, fx2⟩ := id X
        obtain ⟨_, h0, h1, fh0, fh1⟩ := id H
        obtain ⟨_, e0, e1, fe0, fe1⟩ := id E
        go_wp2_with fail
        refine (cx _ T).mono ?_
        rintro e w8 ⟨rfl, hb⟩
        replace C := C.kept hb
        replace B := bthen B hb
        replace T := T.kept hb
        replace U := U.kept hb
        replace K := K.kept hb
        replace V := V.kept hb
        replace X := X.kept hb
        replace H := H.kept hb
        replace E := E.kept hb
        clear hb c0 c1 c2 c3 c4 c5 c6 c7 c8 c9 c10 c11 c12 c13 u0 u1 u2 fu0 fu1 fu2 k0 k1 fk0 fk1 v0 v1 v2 fv0 fv1 fv2 x0 x1 x2 fx0 fx1 fx2 h0 h1 fh0 fh1 e0 e1 fe0 fe1
        obtain ⟨_, c0, c1, c2, c3, c4, c5, c6, c7, c8, c9, c10, c11, c12, c13⟩ := id C
        obtain ⟨_, u0, u1, u2, fu0, fu1, fu2⟩ := id U
        obtain ⟨_, k0, k1, fk0, fk1⟩ := id K
        obtain ⟨_, v0, v1, v2, fv0, fv1, fv2⟩ := id V
        obtain ⟨_, x0, x1, x2, fx0, fx1, fx2⟩ := id X
        obtain ⟨_, h0, h1, fh0, fh1⟩ := id H
        obtain ⟨_, e0, e1, fe0, fe1⟩ := id E
        have D := Go.Proofs.YtmagdlcikcgelaaDoor.Bx.Tri.new w8 (.int .i64 L) (.int .i64 y) (.int .i64 i) 26
        replace C := C.alloc (.cells #[.int .i64 L, .int .i64 y, .int .i64 i] 26)
        replace T := T.alloc (.cells #[.int .i64 L, .int .i64 y, .int .i64 i] 26)
        replace U := U.alloc (.cells #[.int .i64 L, .int .i64 y, .int .i64 i] 26)
        replace K := K.alloc (.cells #[.int .i64 L, .int .i64 y, .int .i64 i] 26)
        replace V := V.alloc (.cells #[.int .i64 L, .int .i64 y, .int .i64 i] 26)
        replace X := X.alloc (.cells #[.int .i64 L, .int .i64 y, .int .i64 i] 26)
        replace H := H.alloc (.cells #[.int .i64 L, .int .i64 y, .int .i64 i] 26)
        replace E := E.alloc (.cells #[.int .i64 L, .int .i64 y, .int .i64 i] 26)
        replace B := balloc B (.cells #[.int .i64 L, .int .i64 y, .int .i64 i] 26)
        clear c0 c1 c2 c3 c4 c5 c6 c7 c8 c9 c10 c11 c12 c13 u0 u1 u2 fu0 fu1 fu2 k0 k1 fk0 fk1 v0 v1 v2 fv0 fv1 fv2 x0 x1 x2 fx0 fx1 fx2 h0 h1 fh0 fh1 e0 e1 fe0 fe1
        obtain ⟨_, c0, c1, c2, c3, c4, c5, c6, c7, c8, c9, c10, c11, c12, c13⟩ := id C
        obtain ⟨_, u0, u1, u2, fu0, fu1, fu2⟩ := id U
        obtain ⟨_, k0, k1, fk0, fk1⟩ := id K
        obtain ⟨_, v0, v1, v2, fv0, fv1, fv2⟩ := id V
        obtain ⟨_, x0, x1, x2, fx0, fx1, fx2⟩ := id X
        obtain ⟨_, h0, h1, fh0, fh1⟩ := id H
        obtain ⟨_, e0, e1, fe0, fe1⟩ := id E
        obtain ⟨_, d0, d1, d2, fd0, fd1, fd2⟩ := id D
        clear cv cx
        go_wp2_with fail
        refine (cy _ T).mono ?_
        rintro e w9 ⟨rfl, hb⟩
        replace C := C.kept hb
        replace B := bthen B hb
        replace T := T.kept hb
        replace U := U.kept hb
        replace K := K.kept hb
        replace V := V.kept hb
        replace X := X.kept hb
        replace H := H.kept hb
        replace E := E.kept hb
        replace D := D.kept hb
        clear hb c0 c1 c2 c3 c4 c5 c6 c7 c8 c9 c10 c11 c12 c13 u0 u1 u2 fu0 fu1 fu2 k0 k1 fk0 fk1 v0 v1 v2 fv0 fv1 fv2 x0 x1 x2 fx0 fx1 fx2 h0 h1 fh0 fh1 e0 e1 fe0 fe1 d0 d1 d2 fd0 fd1 fd2
        obtain ⟨_, c0, c1, c2, c3, c4, c5, c6, c7, c8, c9, c10, c11, c12, c13⟩ := id C
        obtain ⟨_, u0, u1, u2, fu0, fu1, fu2⟩ := id U
        obtain ⟨_, k0, k1, fk0, fk1⟩ := id K
        obtain ⟨_, v0, v1, v2, fv0, fv1, fv2⟩ := id V
        obtain ⟨_, x0, x1, x2, fx0, fx1, fx2⟩ := id X
        obtain ⟨_, h0, h1, fh0, fh1⟩ := id H
        obtain ⟨_, e0, e1, fe0, fe1⟩ := id E
        obtain ⟨_, d0, d1, d2, fd0, fd1, fd2⟩ := id D
        have P := Go.Proofs.YtmagdlcikcgelaaDoor.Pr.Two.new w9 (.int .i64 ma) (.int .i64 mb) 32
        replace C := C.alloc (.cells #[.int .i64 ma, .int .i64 mb] 32)
        replace T := T.alloc (.cells #[.int .i64 ma, .int .i64 mb] 32)
        replace U := U.alloc (.cells #[.int .i64 ma, .int .i64 mb] 32)
        replace K := K.alloc (.cells #[.int .i64 ma, .int .i64 mb] 32)
        replace V := V.alloc (.cells #[.int .i64 ma, .int .i64 mb] 32)
        replace X := X.alloc (.cells #[.int .i64 ma, .int .i64 mb] 32)
        replace H := H.alloc (.cells #[.int .i64 ma, .int .i64 mb] 32)
        replace E := E.alloc (.cells #[.int .i64 ma, .int .i64 mb] 32)
        replace D := D.alloc (.cells #[.int .i64 ma, .int .i64 mb] 32)
        replace B := balloc B (.cells #[.int .i64 ma, .int .i64 mb] 32)
        clear c0 c1 c2 c3 c4 c5 c6 c7 c8 c9 c10 c11 c12 c13 u0 u1 u2 fu0 fu1 fu2 k0 k1 fk0 fk1 v0 v1 v2 fv0 fv1 fv2 x0 x1 x2 fx0 fx1 fx2 h0 h1 fh0 fh1 e0 e1 fe0 fe1 d0 d1 d2 fd0 fd1 fd2
        obtain ⟨_, c0, c1, c2, c3, c4, c5, c6, c7, c8, c9, c10, c11, c12, c13⟩ := id C
        obtain ⟨_, u0, u1, u2, fu0, fu1, fu2⟩ := id U
        obtain ⟨_, k0, k1, fk0, fk1⟩ := id K
        obtain ⟨_, v0, v1, v2, fv0, fv1, fv2⟩ := id V
        obtain ⟨_, x0, x1, x2, fx0, fx1, fx2⟩ := id X
        obtain ⟨_, h0, h1, fh0, fh1⟩ := id H
        obtain ⟨_, e0, e1, fe0, fe1⟩ := id E
        obtain ⟨_, d0, d1, d2, fd0, fd1, fd2⟩ := id D
        obtain ⟨_, p0, p1, fp0, fp1⟩ := id P
        go_wp2_with fail
        refine (cz _ T).mono ?_
        rintro e w10 ⟨rfl, hb⟩
        replace C := C.kept hb
        replace B := bthen B hb
        replace T := T.kept hb
        replace U := U.kept hb
        replace K := K.kept hb
        replace V := V.kept hb
        replace X := X.kept hb
        replace H := H.kept hb
        replace E := E.kept hb
        replace D := D.kept hb
        replace P := P.kept hb
        clear hb c0 c1 c2 c3 c4 c5 c6 c7 c8 c9 c10 c11 c12 c13 u0 u1 u2 fu0 fu1 fu2 k0 k1 fk0 fk1 v0 v1 v2 fv0 fv1 fv2 x0 x1 x2 fx0 fx1 fx2 h0 h1 fh0 fh1 e0 e1 fe0 fe1 d0 d1 d2 fd0 fd1 fd2 p0 p1 fp0 fp1
        obtain ⟨_, c0, c1, c2, c3, c4, c5, c6, c7, c8, c9, c10, c11, c12, c13⟩ := id C
        obtain ⟨_, u0, u1, u2, fu0, fu1, fu2⟩ := id U
        obtain ⟨_, k0, k1, fk0, fk1⟩ := id K
        obtain ⟨_, v0, v1, v2, fv0, fv1, fv2⟩ := id V
        obtain ⟨_, x0, x1, x2, fx0, fx1, fx2⟩ := id X
        obtain ⟨_, h0, h1, fh0, fh1⟩ := id H
        obtain ⟨_, e0, e1, fe0, fe1⟩ := id E
        obtain ⟨_, d0, d1, d2, fd0, fd1, fd2⟩ := id D
        obtain ⟨_, p0, p1, fp0, fp1⟩ := id P
        have Q := Go.Proofs.YtmagdlcikcgelaaDoor.Bx.Tri.new w10 (.int .i64 L) (.int .i64 y) (.int .i64 i) 26
        replace C := C.alloc (.cells #[.int .i64 L, .int .i64 y, .int .i64 i] 26)
        replace T := T.alloc (.cells #[.int .i64 L, .int .i64 y, .int .i64 i] 26)
        replace U := U.alloc (.cells #[.int .i64 L, .int .i64 y, .int .i64 i] 26)
        replace K := K.alloc (.cells #[.int .i64 L, .int .i64 y, .int .i64 i] 26)
        replace V := V.alloc (.cells #[.int .i64 L, .int .i64 y, .int .i64 i] 26)
        replace X := X.alloc (.cells #[.int .i64 L, .int .i64 y, .int .i64 i] 26)
        replace H := H.alloc (.cells #[.int .i64 L, .int .i64 y, .int .i64 i] 26)
        replace E := E.alloc (.cells #[.int .i64 L, .int .i64 y, .int .i64 i] 26)
        replace D := D.alloc (.cells #[.int .i64 L, .int .i64 y, .int .i64 i] 26)
        replace P := P.alloc (.cells #[.int .i64 L, .int .i64 y, .int .i64 i] 26)
        replace B := balloc B (.cells #[.int .i64 L, .int .i64 y, .int .i64 i] 26)
        clear c0 c1 c2 c3 c4 c5 c6 c7 c8 c9 c10 c11 c12 c13 u0 u1 u2 fu0 fu1 fu2 k0 k1 fk0 fk1 v0 v1 v2 fv0 fv1 fv2 x0 x1 x2 fx0 fx1 fx2 h0 h1 fh0 fh1 e0 e1 fe0 fe1 d0 d1 d2 fd0 fd1 fd2 p0 p1 fp0 fp1
        obtain ⟨_, c0, c1, c2, c3, c4, c5, c6, c7, c8, c9, c10, c11, c12, c13⟩ := id C
        obtain ⟨_, u0, u1, u2, fu0, fu1, fu2⟩ := id U
        obtain ⟨_, k0, k1, fk0, fk1⟩ := id K
        obtain ⟨_, v0, v1, v2, fv0, fv1, fv2⟩ := id V
        obtain ⟨_, x0, x1, x2, fx0, fx1, fx2⟩ := id X
        obtain ⟨_, h0, h1, fh0, fh1⟩ := id H
        obtain ⟨_, e0, e1, fe0, fe1⟩ := id E
        obtain ⟨_, d0, d1, d2, fd0, fd1, fd2⟩ := id D
        obtain ⟨_, p0, p1, fp0, fp1⟩ := id P
        obtain ⟨_, q0, q1, q2, fq0, fq1, fq2⟩ := id Q
        clear cy cz
        go_wp2
        go_ret
        exact ⟨by simp, B⟩
      · go_wp2_with fail
        refine (cv _ T).mono ?_
        rintro e w11 ⟨rfl, hb⟩
        replace C := C.kept hb
        replace B := bthen B hb
        replace T := T.kept hb
        replace U := U.kept hb
        replace K := K.kept hb
        replace V := V.kept hb
        replace X := X.kept hb
        replace H := H.kept hb
        clear hb c0 c1 c2 c3 c4 c5 c6 c7 c8 c9 c10 c11 c12 c13 u0 u1 u2 fu0 fu1 fu2 k0 k1 fk0 fk1 v0 v1 v2 fv0 fv1 fv2 x0 x1 x2 fx0 fx1 fx2 h0 h1 fh0 fh1
        obtain ⟨_, c0, c1, c2, c3, c4, c5, c6, c7, c8, c9, c10, c11, c12, c13⟩ := id C
        obtain ⟨_, u0, u1, u2, fu0, fu1, fu2⟩ := id U
        obtain ⟨_, k0, k1, fk0, fk1⟩ := id K
        obtain ⟨_, v0, v1, v2, fv0, fv1, fv2⟩ := id V
        obtain ⟨_, x0, x1, x2, fx0, fx1, fx2⟩ := id X
        obtain ⟨_, h0, h1, fh0, fh1⟩ := id H
        have E := Go.Proofs.YtmagdlcikcgelaaDoor.Pr.Two.new w11 (.int .i64 (b + 1)) (.int .i64 vb) 32
        replace C := C.alloc (.cells #[.int .i64 (b + 1), .int .i64 vb] 32)
        replace T := T.alloc (.cells #[.int .i64 (b + 1), .int .i64 vb] 32)
        replace U := U.alloc (.cells #[.int .i64 (b + 1), .int .i64 vb] 32)
        replace K := K.alloc (.cells #[.int .i64 (b + 1), .int .i64 vb] 32)
        replace V := V.alloc (.cells #[.int .i64 (b + 1), .int .i64 vb] 32)
        replace X := X.alloc (.cells #[.int .i64 (b + 1), .int .i64 vb] 32)
        replace H := H.alloc (.cells #[.int .i64 (b + 1), .int .i64 vb] 32)
        replace B := balloc B (.cells #[.int .i64 (b + 1), .int .i64 vb] 32)
        clear c0 c1 c2 c3 c4 c5 c6 c7 c8 c9 c10 c11 c12 c13 u0 u1 u2 fu0 fu1 fu2 k0 k1 fk0 fk1 v0 v1 v2 fv0 fv1 fv2 x0 x1 x2 fx0 fx1 fx2 h0 h1 fh0 fh1
        obtain ⟨_, c0, c1, c2, c3, c4, c5, c6, c7, c8, c9, c10, c11, c12, c13⟩ := id C
        obtain ⟨_, u0, u1, u2, fu0, fu1, fu2⟩ := id U
        obtain ⟨_, k0, k1, fk0, fk1⟩ := id K
        obtain ⟨_, v0, v1, v2, fv0, fv1, fv2⟩ := id V
        obtain ⟨_, x0, x1, x2, fx0, fx1, fx2⟩ := id X
        obtain ⟨_, h0, h1, fh0, fh1⟩ := id H
        obtain ⟨_, e0, e1, fe0, fe1⟩ := id E
        go_wp2_with fail
        refine (cx _ T).mono ?_
        rintro e w12 ⟨rfl, hb⟩
        replace C := C.kept hb
        replace B := bthen B hb
        replace T := T.kept hb
        replace U := U.kept hb
        replace K := K.kept hb
        replace V := V.kept hb
        replace X := X.kept hb
        replace H := H.kept hb
        replace E := E.kept hb
        clear hb c0 c1 c2 c3 c4 c5 c6 c7 c8 c9 c10 c11 c12 c13 u0 u1 u2 fu0 fu1 fu2 k0 k1 fk0 fk1 v0 v1 v2 fv0 fv1 fv2 x0 x1 x2 fx0 fx1 fx2 h0 h1 fh0 fh1 e0 e1 fe0 fe1
        obtain ⟨_, c0, c1, c2, c3, c4, c5, c6, c7, c8, c9, c10, c11, c12, c13⟩ := id C
        obtain ⟨_, u0, u1, u2, fu0, fu1, fu2⟩ := id U
        obtain ⟨_, k0, k1, fk0, fk1⟩ := id K
        obtain ⟨_, v0, v1, v2, fv0, fv1, fv2⟩ := id V
        obtain ⟨_, x0, x1, x2, fx0, fx1, fx2⟩ := id X
        obtain ⟨_, h0, h1, fh0, fh1⟩ := id H
        obtain ⟨_, e0, e1, fe0, fe1⟩ := id E
        have D := Go.Proofs.YtmagdlcikcgelaaDoor.Bx.Tri.new w12 (.int .i64 L) (.int .i64 y) (.int .i64 i) 26
        replace C := C.alloc (.cells #[.int .i64 L, .int .i64 y, .int .i64 i] 26)
        replace T := T.alloc (.cells #[.int .i64 L, .int .i64 y, .int .i64 i] 26)
        replace U := U.alloc (.cells #[.int .i64 L, .int .i64 y, .int .i64 i] 26)
        replace K := K.alloc (.cells #[.int .i64 L, .int .i64 y, .int .i64 i] 26)
        replace V := V.alloc (.cells #[.int .i64 L, .int .i64 y, .int .i64 i] 26)
        replace X := X.alloc (.cells #[.int .i64 L, .int .i64 y, .int .i64 i] 26)
        replace H := H.alloc (.cells #[.int .i64 L, .int .i64 y, .int .i64 i] 26)
        replace E := E.alloc (.cells #[.int .i64 L, .int .i64 y, .int .i64 i] 26)
        replace B := balloc B (.cells #[.int .i64 L, .int .i64 y, .int .i64 i] 26)
        clear c0 c1 c2 c3 c4 c5 c6 c7 c8 c9 c10 c11 c12 c13 u0 u1 u2 fu0 fu1 fu2 k0 k1 fk0 fk1 v0 v1 v2 fv0 fv1 fv2 x0 x1 x2 fx0 fx1 fx2 h0 h1 fh0 fh1 e0 e1 fe0 fe1
        obtain ⟨_, c0, c1, c2, c3, c4, c5, c6, c7, c8, c9, c10, c11, c12, c13⟩ := id C
        obtain ⟨_, u0, u1, u2, fu0, fu1, fu2⟩ := id U
        obtain ⟨_, k0, k1, fk0, fk1⟩ := id K
        obtain ⟨_, v0, v1, v2, fv0, fv1, fv2⟩ := id V
        obtain ⟨_, x0, x1, x2, fx0, fx1, fx2⟩ := id X
        obtain ⟨_, h0, h1, fh0, fh1⟩ := id H
        obtain ⟨_, e0, e1, fe0, fe1⟩ := id E
        obtain ⟨_, d0, d1, d2, fd0, fd1, fd2⟩ := id D
        clear cv cx
        go_wp2
        go_ret
        exact ⟨by simp, B⟩
    · rcases GM.out with ⟨rfl, m1, ma, mb, m2, m3, m4, cy, cz⟩ | ⟨rfl, m1⟩
      · go_wp2_with fail
        refine (cy _ T).mono ?_
        rintro e w13 ⟨rfl, hb⟩
        replace C := C.kept hb
        replace B := bthen B hb
        replace T := T.kept hb
        replace U := U.kept hb
        replace K := K.kept hb
        replace V := V.kept hb
        replace X := X.kept hb
        replace H := H.kept hb
        clear hb c0 c1 c2 c3 c4 c5 c6 c7 c8 c9 c10 c11 c12 c13 u0 u1 u2 fu0 fu1 fu2 k0 k1 fk0 fk1 v0 v1 v2 fv0 fv1 fv2 x0 x1 x2 fx0 fx1 fx2 h0 h1 fh0 fh1
        obtain ⟨_, c0, c1, c2, c3, c4, c5, c6, c7, c8, c9, c10, c11, c12, c13⟩ := id C
        obtain ⟨_, u0, u1, u2, fu0, fu1, fu2⟩ := id U
        obtain ⟨_, k0, k1, fk0, fk1⟩ := id K
        obtain ⟨_, v0, v1, v2, fv0, fv1, fv2⟩ := id V
        obtain ⟨_, x0, x1, x2, fx0, fx1, fx2⟩ := id X
        obtain ⟨_, h0, h1, fh0, fh1⟩ := id H
        have P := Go.Proofs.YtmagdlcikcgelaaDoor.Pr.Two.new w13 (.int .i64 ma) (.int .i64 mb) 32
        replace C := C.alloc (.cells #[.int .i64 ma, .int .i64 mb] 32)
        replace T := T.alloc (.cells #[.int .i64 ma, .int .i64 mb] 32)
        replace U := U.alloc (.cells #[.int .i64 ma, .int .i64 mb] 32)
        replace K := K.alloc (.cells #[.int .i64 ma, .int .i64 mb] 32)
        replace V := V.alloc (.cells #[.int .i64 ma, .int .i64 mb] 32)
        replace X := X.alloc (.cells #[.int .i64 ma, .int .i64 mb] 32)
        replace H := H.alloc (.cells #[.int .i64 ma, .int .i64 mb] 32)
        replace B := balloc B (.cells #[.int .i64 ma, .int .i64 mb] 32)
        clear c0 c1 c2 c3 c4 c5 c6 c7 c8 c9 c10 c11 c12 c13 u0 u1 u2 fu0 fu1 fu2 k0 k1 fk0 fk1 v0 v1 v2 fv0 fv1 fv2 x0 x1 x2 fx0 fx1 fx2 h0 h1 fh0 fh1
        obtain ⟨_, c0, c1, c2, c3, c4, c5, c6, c7, c8, c9, c10, c11, c12, c13⟩ := id C
        obtain ⟨_, u0, u1, u2, fu0, fu1, fu2⟩ := id U
        obtain ⟨_, k0, k1, fk0, fk1⟩ := id K
        obtain ⟨_, v0, v1, v2, fv0, fv1, fv2⟩ := id V
        obtain ⟨_, x0, x1, x2, fx0, fx1, fx2⟩ := id X
        obtain ⟨_, h0, h1, fh0, fh1⟩ := id H
        obtain ⟨_, p0, p1, fp0, fp1⟩ := id P
        go_wp2_with fail
        refine (cz _ T).mono ?_
        rintro e w14 ⟨rfl, hb⟩
        replace C := C.kept hb
        replace B := bthen B hb
        replace T := T.kept hb
        replace U := U.kept hb
        replace K := K.kept hb
        replace V := V.kept hb
        replace X := X.kept hb
        replace H := H.kept hb
        replace P := P.kept hb
        clear hb c0 c1 c2 c3 c4 c5 c6 c7 c8 c9 c10 c11 c12 c13 u0 u1 u2 fu0 fu1 fu2 k0 k1 fk0 fk1 v0 v1 v2 fv0 fv1 fv2 x0 x1 x2 fx0 fx1 fx2 h0 h1 fh0 fh1 p0 p1 fp0 fp1
        obtain ⟨_, c0, c1, c2, c3, c4, c5, c6, c7, c8, c9, c10, c11, c12, c13⟩ := id C
        obtain ⟨_, u0, u1, u2, fu0, fu1, fu2⟩ := id U
        obtain ⟨_, k0, k1, fk0, fk1⟩ := id K
        obtain ⟨_, v0, v1, v2, fv0, fv1, fv2⟩ := id V
        obtain ⟨_, x0, x1, x2, fx0, fx1, fx2⟩ := id X
        obtain ⟨_, h0, h1, fh0, fh1⟩ := id H
        obtain ⟨_, p0, p1, fp0, fp1⟩ := id P
        have Q := Go.Proofs.YtmagdlcikcgelaaDoor.Bx.Tri.new w14 (.int .i64 L) (.int .i64 y) (.int .i64 i) 26
        replace C := C.alloc (.cells #[.int .i64 L, .int .i64 y, .int .i64 i] 26)
        replace T := T.alloc (.cells #[.int .i64 L, .int .i64 y, .int .i64 i] 26)
        replace U := U.alloc (.cells #[.int .i64 L, .int .i64 y, .int .i64 i] 26)
        replace K := K.alloc (.cells #[.int .i64 L, .int .i64 y, .int .i64 i] 26)
        replace V := V.alloc (.cells #[.int .i64 L, .int .i64 y, .int .i64 i] 26)
        replace X := X.alloc (.cells #[.int .i64 L, .int .i64 y, .int .i64 i] 26)
        replace H := H.alloc (.cells #[.int .i64 L, .int .i64 y, .int .i64 i] 26)
        replace P := P.alloc (.cells #[.int .i64 L, .int .i64 y, .int .i64 i] 26)
        replace B := balloc B (.cells #[.int .i64 L, .int .i64 y, .int .i64 i] 26)
        clear c0 c1 c2 c3 c4 c5 c6 c7 c8 c9 c10 c11 c12 c13 u0 u1 u2 fu0 fu1 fu2 k0 k1 fk0 fk1 v0 v1 v2 fv0 fv1 fv2 x0 x1 x2 fx0 fx1 fx2 h0 h1 fh0 fh1 p0 p1 fp0 fp1
        obtain ⟨_, c0, c1, c2, c3, c4, c5, c6, c7, c8, c9, c10, c11, c12, c13⟩ := id C
        obtain ⟨_, u0, u1, u2, fu0, fu1, fu2⟩ := id U
        obtain ⟨_, k0, k1, fk0, fk1⟩ := id K
        obtain ⟨_, v0, v1, v2, fv0, fv1, fv2⟩ := id V
        obtain ⟨_, x0, x1, x2, fx0, fx1, fx2⟩ := id X
        obtain ⟨_, h0, h1, fh0, fh1⟩ := id H
        obtain ⟨_, p0, p1, fp0, fp1⟩ := id P
        obtain ⟨_, q0, q1, q2, fq0, fq1, fq2⟩ := id Q
        clear cy cz
        go_wp2
        go_ret
        exact ⟨by simp, B⟩
      · go_wp2
        go_ret
        exact ⟨by simp, B⟩
  · obtain ⟨er, ck⟩ := uchka_ex c L y i
    have n : er ≠ 0 := fun q => h ((uchka_ok ck).1 q)
    have n1 : (er != 0) = true := bne_iff_ne.2 n
    have cs := fun w T => Span_any c L y i 0 0 er w (.inr ⟨h, ck, rfl, rfl⟩) hm T
    have cn := fun w T => Next_any c L y i 0 0 0 er w (.inr ⟨h, ck, rfl, rfl, rfl⟩) hm T
    have cm := fun w T => Back_any c L y i 0 0 0 er w (.inr ⟨h, ck, rfl, rfl, rfl⟩) hm T
    clear h ck n
    go_enter Tryd.func4, Tryd.ntmps4
    go_upto_region 1 with fail
    generalize (w.alloc (.cells #[.string c.nm, .int .i64 c.k, .int .i64 c.d, .int .i64 c.m, .int .i64 c.s, .int .i64 c.sh, .int .i64 c.p0, .int .i64 c.p1, .int .i64 c.p2, .int .i64 c.cy, .int .i64 c.ex, .int .i64 c.fi, .int .i64 c.la, .int .i64 c.po] 24)).alloc (.cells #[.int .i64 L, .int .i64 y, .int .i64 i] 26) = W0 at *
    obtain ⟨_, c0, c1, c2, c3, c4, c5, c6, c7, c8, c9, c10, c11, c12, c13⟩ := id C
    obtain ⟨_, u0, u1, u2, fu0, fu1, fu2⟩ := id U
    go_wp2_with fail
    refine (dlive_ok _ T).mono ?_
    rintro e w15 ⟨rfl, hb⟩
    replace C := C.kept hb
    replace B := bthen B hb
    replace T := T.kept hb
    replace U := U.kept hb
    clear hb c0 c1 c2 c3 c4 c5 c6 c7 c8 c9 c10 c11 c12 c13 u0 u1 u2 fu0 fu1 fu2
    obtain ⟨_, c0, c1, c2, c3, c4, c5, c6, c7, c8, c9, c10, c11, c12, c13⟩ := id C
    obtain ⟨_, u0, u1, u2, fu0, fu1, fu2⟩ := id U
    go_wp2_with fail
    refine (cs _ T).mono ?_
    rintro e w16 ⟨rfl, hb⟩
    replace C := C.kept hb
    replace B := bthen B hb
    replace T := T.kept hb
    replace U := U.kept hb
    clear hb c0 c1 c2 c3 c4 c5 c6 c7 c8 c9 c10 c11 c12 c13 u0 u1 u2 fu0 fu1 fu2
    obtain ⟨_, c0, c1, c2, c3, c4, c5, c6, c7, c8, c9, c10, c11, c12, c13⟩ := id C
    obtain ⟨_, u0, u1, u2, fu0, fu1, fu2⟩ := id U
    have K := Go.Proofs.YtmagdlcikcgelaaDoor.Pr.Two.new w16 (.int .i64 0) (.int .i64 0) 32
    replace C := C.alloc (.cells #[.int .i64 0, .int .i64 0] 32)
    replace T := T.alloc (.cells #[.int .i64 0, .int .i64 0] 32)
    replace U := U.alloc (.cells #[.int .i64 0, .int .i64 0] 32)
    replace B := balloc B (.cells #[.int .i64 0, .int .i64 0] 32)
    clear c0 c1 c2 c3 c4 c5 c6 c7 c8 c9 c10 c11 c12 c13 u0 u1 u2 fu0 fu1 fu2
    obtain ⟨_, c0, c1, c2, c3, c4, c5, c6, c7, c8, c9, c10, c11, c12, c13⟩ := id C
    obtain ⟨_, u0, u1, u2, fu0, fu1, fu2⟩ := id U
    obtain ⟨_, k0, k1, fk0, fk1⟩ := id K
    go_wp2_with fail
    refine (cn _ T).mono ?_
    rintro e w17 ⟨rfl, hb⟩
    replace C := C.kept hb
    replace B := bthen B hb
    replace T := T.kept hb
    replace U := U.kept hb
    replace K := K.kept hb
    clear hb c0 c1 c2 c3 c4 c5 c6 c7 c8 c9 c10 c11 c12 c13 u0 u1 u2 fu0 fu1 fu2 k0 k1 fk0 fk1
    obtain ⟨_, c0, c1, c2, c3, c4, c5, c6, c7, c8, c9, c10, c11, c12, c13⟩ := id C
    obtain ⟨_, u0, u1, u2, fu0, fu1, fu2⟩ := id U
    obtain ⟨_, k0, k1, fk0, fk1⟩ := id K
    have V := Go.Proofs.YtmagdlcikcgelaaDoor.Bx.Tri.new w17 (.int .i64 0) (.int .i64 0) (.int .i64 0) 26
    replace C := C.alloc (.cells #[.int .i64 0, .int .i64 0, .int .i64 0] 26)
    replace T := T.alloc (.cells #[.int .i64 0, .int .i64 0, .int .i64 0] 26)
    replace U := U.alloc (.cells #[.int .i64 0, .int .i64 0, .int .i64 0] 26)
    replace K := K.alloc (.cells #[.int .i64 0, .int .i64 0, .int .i64 0] 26)
    replace B := balloc B (.cells #[.int .i64 0, .int .i64 0, .int .i64 0] 26)
    clear c0 c1 c2 c3 c4 c5 c6 c7 c8 c9 c10 c11 c12 c13 u0 u1 u2 fu0 fu1 fu2 k0 k1 fk0 fk1
    obtain ⟨_, c0, c1, c2, c3, c4, c5, c6, c7, c8, c9, c10, c11, c12, c13⟩ := id C
    obtain ⟨_, u0, u1, u2, fu0, fu1, fu2⟩ := id U
    obtain ⟨_, k0, k1, fk0, fk1⟩ := id K
    obtain ⟨_, v0, v1, v2, fv0, fv1, fv2⟩ := id V
    go_wp2_with fail
    refine (cm _ T).mono ?_
    rintro e w18 ⟨rfl, hb⟩
    replace C := C.kept hb
    replace B := bthen B hb
    replace T := T.kept hb
    replace U := U.kept hb
    replace K := K.kept hb
    replace V := V.kept hb
    clear hb c0 c1 c2 c3 c4 c5 c6 c7 c8 c9 c10 c11 c12 c13 u0 u1 u2 fu0 fu1 fu2 k0 k1 fk0 fk1 v0 v1 v2 fv0 fv1 fv2
    obtain ⟨_, c0, c1, c2, c3, c4, c5, c6, c7, c8, c9, c10, c11, c12, c13⟩ := id C
    obtain ⟨_, u0, u1, u2, fu0, fu1, fu2⟩ := id U
    obtain ⟨_, k0, k1, fk0, fk1⟩ := id K
    obtain ⟨_, v0, v1, v2, fv0, fv1, fv2⟩ := id V
    have X := Go.Proofs.YtmagdlcikcgelaaDoor.Bx.Tri.new w18 (.int .i64 0) (.int .i64 0) (.int .i64 0) 26
    replace C := C.alloc (.cells #[.int .i64 0, .int .i64 0, .int .i64 0] 26)
    replace T := T.alloc (.cells #[.int .i64 0, .int .i64 0, .int .i64 0] 26)
    replace U := U.alloc (.cells #[.int .i64 0, .int .i64 0, .int .i64 0] 26)
    replace K := K.alloc (.cells #[.int .i64 0, .int .i64 0, .int .i64 0] 26)
    replace V := V.alloc (.cells #[.int .i64 0, .int .i64 0, .int .i64 0] 26)
    replace B := balloc B (.cells #[.int .i64 0, .int .i64 0, .int .i64 0] 26)
    clear c0 c1 c2 c3 c4 c5 c6 c7 c8 c9 c10 c11 c12 c13 u0 u1 u2 fu0 fu1 fu2 k0 k1 fk0 fk1 v0 v1 v2 fv0 fv1 fv2
    obtain ⟨_, c0, c1, c2, c3, c4, c5, c6, c7, c8, c9, c10, c11, c12, c13⟩ := id C
    obtain ⟨_, u0, u1, u2, fu0, fu1, fu2⟩ := id U
    obtain ⟨_, k0, k1, fk0, fk1⟩ := id K
    obtain ⟨_, v0, v1, v2, fv0, fv1, fv2⟩ := id V
    obtain ⟨_, x0, x1, x2, fx0, fx1, fx2⟩ := id X
    clear cs cn cm
    go_wp2
    go_ret
    exact ⟨by simp, B⟩

end Go.Proofs.YtmagdlcikcgelaaDoor.Dl
