/- FindMeets' walk. -/
import Derived.Test.YtaiodjgpojfekaaDoorDlive
import Derived.Test.YtaiodjgpojfekaaDoorDnext
import Derived.Test.YtaiodjgpojfekaaDoorDshort
import Derived.Test.YtaiodjgpojfekaaDoorDall
import Derived.Test.YtaiodjgpojfekaaDoorFcal
import Derived.Test.YtaiodjgpojfekaaDoorJD
import Derived.Deep.RegionHeld3
import Derived.Deep.DeepCutAuto
namespace Go.Proofs.YtaiodjgpojfekaaDoor.Dl
set_option linter.unusedSimpArgs false
set_option linter.unusedVariables false
open Go.RowKit Go.Proofs.YtaiodjgpojfekaaDoor.Bn Go.Proofs.YtaiodjgpojfekaaDoor.Bx Go.Proofs.YtaiodjgpojfekaaDoor.Cp Go.Proofs.YtaiodjgpojfekaaDoor.Am Go.Proofs.YtaiodjgpojfekaaDoor.Fp Go.Proofs.YtaiodjgpojfekaaDoor.Ap Go.Proofs.YtaiodjgpojfekaaDoor.Cm Go.Proofs.YtaiodjgpojfekaaDoor.Em Go.Proofs.YtaiodjgpojfekaaDoor.Ep Go.Proofs.YtaiodjgpojfekaaDoor.Rk Go.Proofs.YtaiodjgpojfekaaDoor.Hp Go.Proofs.YtaiodjgpojfekaaDoor.Ip Go.Proofs.YtaiodjgpojfekaaDoor.Jp Go.Proofs.YtaiodjgpojfekaaDoor.Dp

set_option maxHeartbeats 8000000

set_option maxRecDepth 100000 in
theorem meets_no (c : CalZ) (L a b er p q r e1 p2 q2 r2 e2 : Int) (w : World) (tb : FTab w) (hm : c.nm.size ≤ maxLen) (R : MeetsA c L a b er) (ne : er ≠ 0) (D1 : DayA c a L p q r e1) (D2 : DayA c b L p2 q2 r2 e2) (h : b < a ∨ e1 ≠ 0 ∨ e2 ≠ 0) :
    Calls Tryd.prog 4 #[.agg #[.string c.nm, .int .i64 c.k, .int .i64 c.d, .int .i64 c.m, .int .i64 c.s, .int .i64 c.sh, .int .i64 c.p0, .int .i64 c.p1, .int .i64 c.p2, .int .i64 c.cy, .int .i64 c.ex, .int .i64 c.fi, .int .i64 c.la, .int .i64 c.po], .int .i64 L, .agg #[.int .i64 a, .int .i64 b]] w fun e w' => e = .returned (.bool true) ∧ Below w.heap.size w w' := by
  have C := CalIn.new w c 24
  have S := Go.Proofs.YtaiodjgpojfekaaDoor.Pr.Two.new (w.alloc (.cells #[.string c.nm, .int .i64 c.k, .int .i64 c.d, .int .i64 c.m, .int .i64 c.s, .int .i64 c.sh, .int .i64 c.p0, .int .i64 c.p1, .int .i64 c.p2, .int .i64 c.cy, .int .i64 c.ex, .int .i64 c.fi, .int .i64 c.la, .int .i64 c.po] 24)) (.int .i64 a) (.int .i64 b) 40
  rw [World.size_alloc] at S
  replace C := C.alloc (.cells #[.int .i64 a, .int .i64 b] 40)
  have B := balloc (balloc (Below.refl _ w) (.cells #[.string c.nm, .int .i64 c.k, .int .i64 c.d, .int .i64 c.m, .int .i64 c.s, .int .i64 c.sh, .int .i64 c.p0, .int .i64 c.p1, .int .i64 c.p2, .int .i64 c.cy, .int .i64 c.ex, .int .i64 c.fi, .int .i64 c.la, .int .i64 c.po] 24)) (.cells #[.int .i64 a, .int .i64 b] 40)
  have T := (tb.alloc (.cells #[.string c.nm, .int .i64 c.k, .int .i64 c.d, .int .i64 c.m, .int .i64 c.s, .int .i64 c.sh, .int .i64 c.p0, .int .i64 c.p1, .int .i64 c.p2, .int .i64 c.cy, .int .i64 c.ex, .int .i64 c.fi, .int .i64 c.la, .int .i64 c.po] 24)).alloc (.cells #[.int .i64 a, .int .i64 b] 40)
  have qm := fun w T => Meets_er c L a b er w R hm T
  have qa := fun w T => Day_any c a L p q r e1 w D1 hm T
  have qb := fun w T => Day_any c b L p2 q2 r2 e2 w D2 hm T
  have n1 : (er != 0) = true := bne_iff_ne.2 ne
  have O : decide (b < a) = true ∨ (decide (b < a) = false ∧ (e1 != 0) = true) ∨ (decide (b < a) = false ∧ (e1 != 0) = false ∧ (e2 != 0) = true) := by
    by_cases h1 : b < a
    · exact .inl (decide_eq_true h1)
    · by_cases h2 : e1 = 0
      · exact .inr (.inr ⟨decide_eq_false h1, by rw [h2]; rfl, bne_iff_ne.2 (by rcases h with h | h | h <;> first | (exfalso; omega) | exact h)⟩)
      · exact .inr (.inl ⟨decide_eq_false h1, bne_iff_ne.2 h2⟩)
  clear R ne D1 D2 h
  rcases O with h1 | ⟨h1, h2⟩ | ⟨h1, h2, h3⟩
  all_goals
    go_enter Tryd.func4, Tryd.ntmps4
    go_upto_region 1 with fail
    generalize (w.alloc (.cells #[.string c.nm, .int .i64 c.k, .int .i64 c.d, .int .i64 c.m, .int .i64 c.s, .int .i64 c.sh, .int .i64 c.p0, .int .i64 c.p1, .int .i64 c.p2, .int .i64 c.cy, .int .i64 c.ex, .int .i64 c.fi, .int .i64 c.la, .int .i64 c.po] 24)).alloc (.cells #[.int .i64 a, .int .i64 b] 40) = W0 at *
    obtain ⟨_, c0, c1, c2, c3, c4, c5, c6, c7, c8, c9, c10, c11, c12, c13⟩ := id C
    obtain ⟨_, s0, s1, fs0, fs1⟩ := id S
    go_wp2_with fail
    refine (dlive_ok _ T).mono ?_
    rintro e w1 ⟨rfl, hb⟩
    replace C := C.kept hb
    replace B := bthen B hb
    replace T := T.kept hb
    replace S := S.kept hb
    clear hb c0 c1 c2 c3 c4 c5 c6 c7 c8 c9 c10 c11 c12 c13 s0 s1 fs0 fs1
    obtain ⟨_, c0, c1, c2, c3, c4, c5, c6, c7, c8, c9, c10, c11, c12, c13⟩ := id C
    obtain ⟨_, s0, s1, fs0, fs1⟩ := id S
    go_wp2_with fail
    refine (brief_any c a b _).mono ?_
    rintro e w2 ⟨r, rfl, hb, hr⟩
    replace C := C.kept hb
    replace B := bthen B hb
    replace T := T.kept hb
    replace S := S.kept hb
    clear hb c0 c1 c2 c3 c4 c5 c6 c7 c8 c9 c10 c11 c12 c13 s0 s1 fs0 fs1
    obtain ⟨_, c0, c1, c2, c3, c4, c5, c6, c7, c8, c9, c10, c11, c12, c13⟩ := id C
    obtain ⟨_, s0, s1, fs0, fs1⟩ := id S
    cases r
    · go_wp2
      go_ret
      exact ⟨by simp, B⟩
    · clear hr
      go_wp2_with fail
      refine (qm _ T).mono ?_
      rintro e w3 ⟨rfl, hb⟩
      replace C := C.kept hb
      replace B := bthen B hb
      replace T := T.kept hb
      replace S := S.kept hb
      clear hb c0 c1 c2 c3 c4 c5 c6 c7 c8 c9 c10 c11 c12 c13 s0 s1 fs0 fs1
      obtain ⟨_, c0, c1, c2, c3, c4, c5, c6, c7, c8, c9, c10, c11, c12, c13⟩ := id C
      obtain ⟨_, s0, s1, fs0, fs1⟩ := id S
      go_wp2_with fail
      refine (qa _ T).mono ?_
      rintro e w4 ⟨rfl, hb⟩
      replace C := C.kept hb
      replace B := bthen B hb
      replace T := T.kept hb
      replace S := S.kept hb
      clear hb c0 c1 c2 c3 c4 c5 c6 c7 c8 c9 c10 c11 c12 c13 s0 s1 fs0 fs1
      obtain ⟨_, c0, c1, c2, c3, c4, c5, c6, c7, c8, c9, c10, c11, c12, c13⟩ := id C
      obtain ⟨_, s0, s1, fs0, fs1⟩ := id S
      have U := Tri.new w4 (.int .i64 p) (.int .i64 q) (.int .i64 r) 33
      replace C := C.alloc (.cells #[.int .i64 p, .int .i64 q, .int .i64 r] 33)
      replace T := T.alloc (.cells #[.int .i64 p, .int .i64 q, .int .i64 r] 33)
      replace S := S.alloc (.cells #[.int .i64 p, .int .i64 q, .int .i64 r] 33)
      replace B := balloc B (.cells #[.int .i64 p, .int .i64 q, .int .i64 r] 33)
      clear c0 c1 c2 c3 c4 c5 c6 c7 c8 c9 c10 c11 c12 c13 s0 s1 fs0 fs1
      obtain ⟨_, c0, c1, c2, c3, c4, c5, c6, c7, c8, c9, c10, c11, c12, c13⟩ := id C
      obtain ⟨_, s0, s1, fs0, fs1⟩ := id S
      obtain ⟨_, u0, u1, u2, fu0, fu1, fu2⟩ := id U
      obtain ⟨_, c0, c1, c2, c3, c4, c5, c6, c7, c8, c9, c10, c11, c12, c13⟩ := id C
      obtain ⟨_, s0, s1, fs0, fs1⟩ := id S
      go_wp2_with fail
      refine (qb _ T).mono ?_
      rintro e w5 ⟨rfl, hb⟩
      replace C := C.kept hb
      replace B := bthen B hb
      replace T := T.kept hb
      replace S := S.kept hb
      replace U := U.kept hb
      clear hb c0 c1 c2 c3 c4 c5 c6 c7 c8 c9 c10 c11 c12 c13 s0 s1 fs0 fs1 u0 u1 u2 fu0 fu1 fu2
      obtain ⟨_, c0, c1, c2, c3, c4, c5, c6, c7, c8, c9, c10, c11, c12, c13⟩ := id C
      obtain ⟨_, s0, s1, fs0, fs1⟩ := id S
      obtain ⟨_, u0, u1, u2, fu0, fu1, fu2⟩ := id U
      have V := Tri.new w5 (.int .i64 p2) (.int .i64 q2) (.int .i64 r2) 33
      replace C := C.alloc (.cells #[.int .i64 p2, .int .i64 q2, .int .i64 r2] 33)
      replace T := T.alloc (.cells #[.int .i64 p2, .int .i64 q2, .int .i64 r2] 33)
      replace S := S.alloc (.cells #[.int .i64 p2, .int .i64 q2, .int .i64 r2] 33)
      replace U := U.alloc (.cells #[.int .i64 p2, .int .i64 q2, .int .i64 r2] 33)
      replace B := balloc B (.cells #[.int .i64 p2, .int .i64 q2, .int .i64 r2] 33)
      clear c0 c1 c2 c3 c4 c5 c6 c7 c8 c9 c10 c11 c12 c13 s0 s1 fs0 fs1 u0 u1 u2 fu0 fu1 fu2
      obtain ⟨_, c0, c1, c2, c3, c4, c5, c6, c7, c8, c9, c10, c11, c12, c13⟩ := id C
      obtain ⟨_, s0, s1, fs0, fs1⟩ := id S
      obtain ⟨_, u0, u1, u2, fu0, fu1, fu2⟩ := id U
      obtain ⟨_, v0, v1, v2, fv0, fv1, fv2⟩ := id V
      obtain ⟨_, c0, c1, c2, c3, c4, c5, c6, c7, c8, c9, c10, c11, c12, c13⟩ := id C
      obtain ⟨_, s0, s1, fs0, fs1⟩ := id S
      go_wp2
      go_ret
      exact ⟨by simp, B⟩

set_option maxRecDepth 100000 in
theorem meets_main (c : CalZ) (L a b y0 i0 y1 n : Int) (N : Nat) (w : World) (tb : FTab w) (hm : c.nm.size ≤ maxLen) (way : UWay c L y0 i0 y1 n N) (Da : DayA c a L L y0 i0 0) (Db : DayA c b L L y1 n 0) (hab : a ≤ b) :
    Calls Tryd.prog 4 #[.agg #[.string c.nm, .int .i64 c.k, .int .i64 c.d, .int .i64 c.m, .int .i64 c.s, .int .i64 c.sh, .int .i64 c.p0, .int .i64 c.p1, .int .i64 c.p2, .int .i64 c.cy, .int .i64 c.ex, .int .i64 c.fi, .int .i64 c.la, .int .i64 c.po], .int .i64 L, .agg #[.int .i64 a, .int .i64 b]] w fun e w' => e = .returned (.bool true) ∧ Below w.heap.size w w' := by
  have C := CalIn.new w c 24
  have S := Go.Proofs.YtaiodjgpojfekaaDoor.Pr.Two.new (w.alloc (.cells #[.string c.nm, .int .i64 c.k, .int .i64 c.d, .int .i64 c.m, .int .i64 c.s, .int .i64 c.sh, .int .i64 c.p0, .int .i64 c.p1, .int .i64 c.p2, .int .i64 c.cy, .int .i64 c.ex, .int .i64 c.fi, .int .i64 c.la, .int .i64 c.po] 24)) (.int .i64 a) (.int .i64 b) 40
  rw [World.size_alloc] at S
  replace C := C.alloc (.cells #[.int .i64 a, .int .i64 b] 40)
  have B := balloc (balloc (Below.refl _ w) (.cells #[.string c.nm, .int .i64 c.k, .int .i64 c.d, .int .i64 c.m, .int .i64 c.s, .int .i64 c.sh, .int .i64 c.p0, .int .i64 c.p1, .int .i64 c.p2, .int .i64 c.cy, .int .i64 c.ex, .int .i64 c.fi, .int .i64 c.la, .int .i64 c.po] 24)) (.cells #[.int .i64 a, .int .i64 b] 40)
  have T := (tb.alloc (.cells #[.string c.nm, .int .i64 c.k, .int .i64 c.d, .int .i64 c.m, .int .i64 c.s, .int .i64 c.sh, .int .i64 c.p0, .int .i64 c.p1, .int .i64 c.p2, .int .i64 c.cy, .int .i64 c.ex, .int .i64 c.fi, .int .i64 c.la, .int .i64 c.po] 24)).alloc (.cells #[.int .i64 a, .int .i64 b] 40)
  have qm := fun w T => Meets_ok c L a b y0 i0 y1 n N w way Da Db hab hm T
  have qa := fun w T => Day_any c a L L y0 i0 0 w Da hm T
  have qb := fun w T => Day_any c b L L y1 n 0 w Db hm T
  have qn : Hid (∀ k : Nat, k < N → ∃ y i : Int, itu c L (y0, i0) (k + 1) = (y, i) ∧ ∀ w, FTab w → Calls Tryd.prog 10 #[.agg #[.string c.nm, .int .i64 c.k, .int .i64 c.d, .int .i64 c.m, .int .i64 c.s, .int .i64 c.sh, .int .i64 c.p0, .int .i64 c.p1, .int .i64 c.p2, .int .i64 c.cy, .int .i64 c.ex, .int .i64 c.fi, .int .i64 c.la, .int .i64 c.po], .agg #[.int .i64 L, .int .i64 (itu c L (y0, i0) k).1, .int .i64 (itu c L (y0, i0) k).2]] w fun e w' => e = .returned (.tuple #[.agg #[.int .i64 L, .int .i64 y, .int .i64 i], .int .i64 0]) ∧ Below w.heap.size w w') :=
    Lib.hid (fun k hk => ⟨_, _, rfl, fun w T => Next_any c L _ _ L _ _ 0 w (way.nx k hk).1 hm T⟩)
  have at0 : Hid (itu c L (y0, i0) N = (y1, n)) := Lib.hid way.at_
  have N2100 : (b - a ≤ 2000) → N + 1 ≤ 2100 := fun h => by
    obtain ⟨u, a0, a1, _, _⟩ := daya_to Da
    obtain ⟨v, b0, b1, _, _⟩ := daya_to Db
    have yu := unit_year u a0 a1
    have yv := unit_year v b0 b1
    have ln := way.len
    have nb := (ucount_bd (L := L) (y := y1) u.1.1 (by omega) (by omega)).2
    have n1 := v.2.2.2.2
    have i1 := u.2.2.2.1
    by_cases q : y0 + 1 < y1
    · have := yend_lt (c := c) u.1.1 (a := y0) (b := y1 - 1) (by omega) (by omega) (by omega)
      omega
    · omega
  have ab0 : 0 ≤ a ∧ b ≤ 3068036 := by
    obtain ⟨u, a0, a1, _, _⟩ := daya_to Da
    obtain ⟨v, b0, b1, _, _⟩ := daya_to Db
    have yu := unit_year u a0 a1
    have yv := unit_year v b0 b1
    have e1 := yend_bd (y := y0 - 1) u.1.1 (by omega) (by omega)
    have e2 := yend_bd (y := y1) u.1.1 (by omega) (by omega)
    omega
  have d0 : decide (b < a) = false := decide_eq_false (by omega)
  clear way Da Db
  go_enter Tryd.func4, Tryd.ntmps4
  go_upto_region 1 with fail
  generalize (w.alloc (.cells #[.string c.nm, .int .i64 c.k, .int .i64 c.d, .int .i64 c.m, .int .i64 c.s, .int .i64 c.sh, .int .i64 c.p0, .int .i64 c.p1, .int .i64 c.p2, .int .i64 c.cy, .int .i64 c.ex, .int .i64 c.fi, .int .i64 c.la, .int .i64 c.po] 24)).alloc (.cells #[.int .i64 a, .int .i64 b] 40) = W0 at *
  obtain ⟨_, c0, c1, c2, c3, c4, c5, c6, c7, c8, c9, c10, c11, c12, c13⟩ := id C
  obtain ⟨_, s0, s1, fs0, fs1⟩ := id S
  go_wp2_with fail
  refine (dlive_ok _ T).mono ?_
  rintro e w1 ⟨rfl, hb⟩
  replace C := C.kept hb
  replace B := bthen B hb
  replace T := T.kept hb
  replace S := S.kept hb
  clear hb c0 c1 c2 c3 c4 c5 c6 c7 c8 c9 c10 c11 c12 c13 s0 s1 fs0 fs1
  obtain ⟨_, c0, c1, c2, c3, c4, c5, c6, c7, c8, c9, c10, c11, c12, c13⟩ := id C
  obtain ⟨_, s0, s1, fs0, fs1⟩ := id S
  go_wp2_with fail
  refine (brief_any c a b _).mono ?_
  rintro e w2 ⟨r, rfl, hb, hr⟩
  replace C := C.kept hb
  replace B := bthen B hb
  replace T := T.kept hb
  replace S := S.kept hb
  clear hb c0 c1 c2 c3 c4 c5 c6 c7 c8 c9 c10 c11 c12 c13 s0 s1 fs0 fs1
  obtain ⟨_, c0, c1, c2, c3, c4, c5, c6, c7, c8, c9, c10, c11, c12, c13⟩ := id C
  obtain ⟨_, s0, s1, fs0, fs1⟩ := id S
  cases r
  · go_wp2
    go_ret
    exact ⟨by simp, B⟩
  have n2100 := N2100 ((hr rfl).2 hab ab0.1 ab0.2)
  clear hr N2100 hab ab0
  go_wp2_with fail
  refine (qm _ T).mono ?_
  rintro e w3 ⟨g, cap, rfl, R, hg, hb, hcap⟩
  replace C := C.kept hb
  replace B := bthen B hb
  replace T := T.kept hb
  replace S := S.kept hb
  clear hb c0 c1 c2 c3 c4 c5 c6 c7 c8 c9 c10 c11 c12 c13 s0 s1 fs0 fs1
  obtain ⟨_, c0, c1, c2, c3, c4, c5, c6, c7, c8, c9, c10, c11, c12, c13⟩ := id C
  obtain ⟨_, s0, s1, fs0, fs1⟩ := id S
  rw [ulist_len] at hcap ⊢
  obtain ⟨_, rc⟩ := id R
  go_wp2_with fail
  refine (qa _ T).mono ?_
  rintro e w4 ⟨rfl, hb⟩
  replace C := C.kept hb
  replace B := bthen B hb
  replace T := T.kept hb
  replace S := S.kept hb
  replace R := R.kept hb
  clear hb c0 c1 c2 c3 c4 c5 c6 c7 c8 c9 c10 c11 c12 c13 s0 s1 fs0 fs1 rc
  obtain ⟨_, c0, c1, c2, c3, c4, c5, c6, c7, c8, c9, c10, c11, c12, c13⟩ := id C
  obtain ⟨_, s0, s1, fs0, fs1⟩ := id S
  obtain ⟨_, rc⟩ := id R
  have U := Tri.new w4 (.int .i64 L) (.int .i64 y0) (.int .i64 i0) 33
  replace C := C.alloc (.cells #[.int .i64 L, .int .i64 y0, .int .i64 i0] 33)
  replace T := T.alloc (.cells #[.int .i64 L, .int .i64 y0, .int .i64 i0] 33)
  replace S := S.alloc (.cells #[.int .i64 L, .int .i64 y0, .int .i64 i0] 33)
  replace R := R.alloc (.cells #[.int .i64 L, .int .i64 y0, .int .i64 i0] 33)
  replace B := balloc B (.cells #[.int .i64 L, .int .i64 y0, .int .i64 i0] 33)
  clear c0 c1 c2 c3 c4 c5 c6 c7 c8 c9 c10 c11 c12 c13 s0 s1 fs0 fs1 rc
  obtain ⟨_, c0, c1, c2, c3, c4, c5, c6, c7, c8, c9, c10, c11, c12, c13⟩ := id C
  obtain ⟨_, s0, s1, fs0, fs1⟩ := id S
  obtain ⟨_, rc⟩ := id R
  obtain ⟨_, u0, u1, u2, fu0, fu1, fu2⟩ := id U
  go_wp2_with fail
  refine (qb _ T).mono ?_
  rintro e w5 ⟨rfl, hb⟩
  replace C := C.kept hb
  replace B := bthen B hb
  replace T := T.kept hb
  replace S := S.kept hb
  replace R := R.kept hb
  replace U := U.kept hb
  clear hb c0 c1 c2 c3 c4 c5 c6 c7 c8 c9 c10 c11 c12 c13 s0 s1 fs0 fs1 rc u0 u1 u2 fu0 fu1 fu2
  obtain ⟨_, c0, c1, c2, c3, c4, c5, c6, c7, c8, c9, c10, c11, c12, c13⟩ := id C
  obtain ⟨_, s0, s1, fs0, fs1⟩ := id S
  obtain ⟨_, rc⟩ := id R
  obtain ⟨_, u0, u1, u2, fu0, fu1, fu2⟩ := id U
  have V := Tri.new w5 (.int .i64 L) (.int .i64 y1) (.int .i64 n) 33
  replace C := C.alloc (.cells #[.int .i64 L, .int .i64 y1, .int .i64 n] 33)
  replace T := T.alloc (.cells #[.int .i64 L, .int .i64 y1, .int .i64 n] 33)
  replace S := S.alloc (.cells #[.int .i64 L, .int .i64 y1, .int .i64 n] 33)
  replace R := R.alloc (.cells #[.int .i64 L, .int .i64 y1, .int .i64 n] 33)
  replace U := U.alloc (.cells #[.int .i64 L, .int .i64 y1, .int .i64 n] 33)
  replace B := balloc B (.cells #[.int .i64 L, .int .i64 y1, .int .i64 n] 33)
  clear c0 c1 c2 c3 c4 c5 c6 c7 c8 c9 c10 c11 c12 c13 s0 s1 fs0 fs1 rc u0 u1 u2 fu0 fu1 fu2
  obtain ⟨_, c0, c1, c2, c3, c4, c5, c6, c7, c8, c9, c10, c11, c12, c13⟩ := id C
  obtain ⟨_, s0, s1, fs0, fs1⟩ := id S
  obtain ⟨_, rc⟩ := id R
  obtain ⟨_, u0, u1, u2, fu0, fu1, fu2⟩ := id U
  go_upto_region 10 with fail
  generalize w5.alloc (.cells #[.int .i64 L, .int .i64 y1, .int .i64 n] 33) = WL at *
  obtain ⟨_, c0, c1, c2, c3, c4, c5, c6, c7, c8, c9, c10, c11, c12, c13⟩ := id C
  obtain ⟨_, s0, s1, fs0, fs1⟩ := id S
  obtain ⟨_, u0, u1, u2, fu0, fu1, fu2⟩ := id U
  obtain ⟨_, v0, v1, v2, fv0, fv1, fv2⟩ := id V
  have r0 := R.c 0 _ (ulist_at c L (y0, i0) (N + 1) 0 (by omega))
  simp only [itu] at r0
  obtain ⟨r00, r01, r02⟩ := r0
  have rN := R.c N _ (ulist_at c L (y0, i0) (N + 1) N (by omega))
  rw [at0.out] at rN
  obtain ⟨rN0, rN1, rN2⟩ := rN
  have d1 : ((N : Int) + 1 == 0) = false := beq_eq_false_iff_ne.2 (by omega)
  have d2 : decide ((2100 : Int) < (N : Int) + 1) = false := decide_eq_false (by omega)
  have kk2 : (N : Int) < (N : Int) + 1 := by omega
  have kk3 : IntKind.i64.wrap ((N : Int) + 1 - 1) = (N : Int) := by rw [show (N : Int) + 1 - 1 = N by omega]; exact IntWalk.i64_in _ (by omega)
  have kk5 : IntKind.i64.wrap (N : Int) = (N : Int) := IntWalk.i64_in _ (by omega)
  have kk4 : (0 : Int) < (N : Int) + 1 := by omega
  have j1 := cell_regrown s0
  have j2 := cell_regrown s1
  have j3 := cell_regrown u0
  have j4 := cell_regrown u1
  have j5 := cell_regrown u2
  have j6 := cell_regrown v0
  have j7 := cell_regrown v1
  have j8 := cell_regrown v2
  have j9 := cell_regrown r00
  have ja := cell_regrown r01
  have jb := cell_regrown r02
  have jc := cell_regrown rN0
  have jd := cell_regrown rN1
  have je := cell_regrown rN2
  refine wp_region_quiet_below (by kernel_rfl) (by kernel_rfl) ?_
  repeat (quiet_step (fail))
  refine wpQuiet_nil ?_
  intro _ hw'
  obtain ⟨⟨dq, osq⟩, hw''⟩ := hw'
  subst hw''
  clear j1 j2 j3 j4 j5 j6 j7 j8 j9 ja jb jc jd je s0 s1 fs0 fs1 u0 u1 u2 fu0 fu1 fu2 v0 v1 v2 fv0 fv1 fv2 r00 r01 r02 rN0 rN1 rN2
  clear c0 c1 c2 c3 c4 c5 c6 c7 c8 c9 c10 c11 c12 c13 
  have hb := below_regrown WL dq osq
  generalize Go.Sort.grow (redrawn WL dq) osq = w9 at hb ⊢
  replace C := C.kept hb
  replace T := T.kept hb
  replace B := bthen B hb
  replace R := R.kept hb
  clear hb U V S
  by_cases n0 : N = 0
  · have dk : decide ((0 : Int) < (N : Int)) = false := decide_eq_false (by omega)
    have dk2 : decide (0 < N) = false := decide_eq_false (by omega)
    have dk3 : ¬ 0 < N := by omega
    have n0' := Lib.hid n0
    clear n0
    by_cases c1 : cap = 1
    all_goals
      go_wp2
      refine wp_loop_rounds 1 ?_
      rw [rounds_succ]
      go_wp2
      go_ret
      exact ⟨by simp, B⟩
  have c1 : ¬ cap = 1 := by omega
  go_wp2
  go_loopw [109] (fun X wr => ∃ k : Nat, k ≤ N ∧ X = .int .i64 (k : Int) ∧ Below w9.heap.size w9 wr) (fun X _ => (2100 - intOf X).toNat)
  case atStart => exact ⟨0, by omega, rfl, Below.refl _ _⟩
  case round =>
    obtain ⟨k, kN, rfl, B2⟩ := hrel
    replace C := C.kept B2
    replace T := T.kept B2
    have R2 := R.kept B2
    replace B := bthen B B2
    by_cases hlt : k < N
    · obtain ⟨y, i, hyi, nk⟩ := qn.out k hlt
      obtain ⟨y', hy'⟩ : ∃ y', (itu c L (y0, i0) k).1 = y' := ⟨_, rfl⟩
      obtain ⟨i', hi'⟩ : ∃ i', (itu c L (y0, i0) k).2 = i' := ⟨_, rfl⟩
      rw [hy', hi'] at nk
      have rk := R2.c k _ (ulist_at c L (y0, i0) (N + 1) k (by omega))
      rw [hy', hi'] at rk
      have rs := R2.c (k + 1) _ (ulist_at c L (y0, i0) (N + 1) (k + 1) (by omega))
      rw [hyi] at rs
      rw [show (k + 1) * 3 = 3 + k * 3 by omega] at rs
      obtain ⟨rk0, rk1, rk2⟩ := rk
      obtain ⟨rs0, rs1, rs2⟩ := rs
      obtain ⟨_, c0, c1, c2, c3, c4, c5, c6, c7, c8, c9, c10, c11, c12, c13⟩ := id C
      have kk : (k : Int) < N := by omega
      have kk2 : (k : Int) < (N : Int) + 1 := by omega
      go_upto_region 15 with fail
      have V := Tri.new wr (.int .i64 L) (.int .i64 y) (.int .i64 i) 33
      have R8 := R2.alloc (.cells #[.int .i64 L, .int .i64 y, .int .i64 i] 33)
      replace C := C.alloc (.cells #[.int .i64 L, .int .i64 y, .int .i64 i] 33)
      replace T := T.alloc (.cells #[.int .i64 L, .int .i64 y, .int .i64 i] 33)
      have B8 := balloc B2 (.cells #[.int .i64 L, .int .i64 y, .int .i64 i] 33)
      clear rk0 rk1 rk2 rs0 rs1 rs2
      clear c0 c1 c2 c3 c4 c5 c6 c7 c8 c9 c10 c11 c12 c13 
      generalize wr.alloc (.cells #[.int .i64 L, .int .i64 y, .int .i64 i] 33) = W8 at *
      have rk := R8.c k _ (ulist_at c L (y0, i0) (N + 1) k (by omega))
      rw [hy', hi'] at rk
      obtain ⟨rk0, rk1, rk2⟩ := rk
      obtain ⟨_, c0, c1, c2, c3, c4, c5, c6, c7, c8, c9, c10, c11, c12, c13⟩ := id C
      have rk' : ∀ W, Below W8.heap.size W8 W → W.cell? ⟨g, k * 3, none⟩ = some (.int .i64 L) ∧ W.cell? ⟨g, k * 3 + 1, none⟩ = some (.int .i64 y') ∧ W.cell? ⟨g, k * 3 + 2, none⟩ = some (.int .i64 i') := fun W h => by
        have := (R8.kept h).c k _ (ulist_at c L (y0, i0) (N + 1) k (by omega))
        rwa [hy', hi'] at this
      have H : Hid (∀ W, Below W8.heap.size W8 W → (Below W8.heap.size W8 W ∧ W.cell? ⟨w.heap.size, 0, none⟩ = some (.string c.nm) ∧ W.cell? ⟨w.heap.size, 1, none⟩ = some (.int .i64 c.k) ∧ W.cell? ⟨w.heap.size, 2, none⟩ = some (.int .i64 c.d) ∧ W.cell? ⟨w.heap.size, 3, none⟩ = some (.int .i64 c.m) ∧ W.cell? ⟨w.heap.size, 4, none⟩ = some (.int .i64 c.s) ∧ W.cell? ⟨w.heap.size, 5, none⟩ = some (.int .i64 c.sh) ∧ W.cell? ⟨w.heap.size, 6, none⟩ = some (.int .i64 c.p0) ∧ W.cell? ⟨w.heap.size, 7, none⟩ = some (.int .i64 c.p1) ∧ W.cell? ⟨w.heap.size, 8, none⟩ = some (.int .i64 c.p2) ∧ W.cell? ⟨w.heap.size, 9, none⟩ = some (.int .i64 c.cy) ∧ W.cell? ⟨w.heap.size, 10, none⟩ = some (.int .i64 c.ex) ∧ W.cell? ⟨w.heap.size, 11, none⟩ = some (.int .i64 c.fi) ∧ W.cell? ⟨w.heap.size, 12, none⟩ = some (.int .i64 c.la) ∧ W.cell? ⟨w.heap.size, 13, none⟩ = some (.int .i64 c.po) ∧ W.cell? ⟨g, k * 3, none⟩ = some (.int .i64 L) ∧ W.cell? ⟨g, k * 3 + 1, none⟩ = some (.int .i64 y') ∧ W.cell? ⟨g, k * 3 + 2, none⟩ = some (.int .i64 i'))) := Lib.hid (fun W h => ⟨h, (C.kept h).c0, (C.kept h).c1, (C.kept h).c2, (C.kept h).c3, (C.kept h).c4, (C.kept h).c5, (C.kept h).c6, (C.kept h).c7, (C.kept h).c8, (C.kept h).c9, (C.kept h).c10, (C.kept h).c11, (C.kept h).c12, (C.kept h).c13, rk' W h⟩)
      clear rk'
      go_cut [15, 16] (fun s14 s15 wx => UMid W8 L y i 0 s14 s15 wx)
      case first =>
        go_region_held3 (fun W => Below W8.heap.size W8 W ∧ W.cell? ⟨w.heap.size, 0, none⟩ = some (.string c.nm) ∧ W.cell? ⟨w.heap.size, 1, none⟩ = some (.int .i64 c.k) ∧ W.cell? ⟨w.heap.size, 2, none⟩ = some (.int .i64 c.d) ∧ W.cell? ⟨w.heap.size, 3, none⟩ = some (.int .i64 c.m) ∧ W.cell? ⟨w.heap.size, 4, none⟩ = some (.int .i64 c.s) ∧ W.cell? ⟨w.heap.size, 5, none⟩ = some (.int .i64 c.sh) ∧ W.cell? ⟨w.heap.size, 6, none⟩ = some (.int .i64 c.p0) ∧ W.cell? ⟨w.heap.size, 7, none⟩ = some (.int .i64 c.p1) ∧ W.cell? ⟨w.heap.size, 8, none⟩ = some (.int .i64 c.p2) ∧ W.cell? ⟨w.heap.size, 9, none⟩ = some (.int .i64 c.cy) ∧ W.cell? ⟨w.heap.size, 10, none⟩ = some (.int .i64 c.ex) ∧ W.cell? ⟨w.heap.size, 11, none⟩ = some (.int .i64 c.fi) ∧ W.cell? ⟨w.heap.size, 12, none⟩ = some (.int .i64 c.la) ∧ W.cell? ⟨w.heap.size, 13, none⟩ = some (.int .i64 c.po) ∧ W.cell? ⟨g, k * 3, none⟩ = some (.int .i64 L) ∧ W.cell? ⟨g, k * 3 + 1, none⟩ = some (.int .i64 y') ∧ W.cell? ⟨g, k * 3 + 2, none⟩ = some (.int .i64 i'))
          ((refine H.out _ ?_; repeat (first | (with_reducible assumption) | (with_reducible exact Below.refl _ _) | (with_reducible refine bdrewN ?_ _) | (with_reducible refine Below.drew ?_) | (with_reducible refine balloc ?_ _) | ((with_reducible refine bset ?_ ?_ _ _); rotate_left; first | omega | (simp <;> omega)))))
          (first | (go_at_call 10; (with_reducible refine (nk _ (T.kept (by repeat (first | (with_reducible assumption) | (with_reducible exact Below.refl _ _) | (with_reducible refine bdrewN ?_ _) | (with_reducible refine Below.drew ?_) | (with_reducible refine balloc ?_ _))))).mono ?_); rintro e wx ⟨rfl, hb⟩; have hB := bthen (w := W8) (by repeat (first | (with_reducible assumption) | (with_reducible exact Below.refl _ _) | (with_reducible refine bdrewN ?_ _) | (with_reducible refine Below.drew ?_) | (with_reducible refine balloc ?_ _))) hb; have hz : W8.heap.size ≤ wx.heap.size := hB.size; (first | (have K := Tri.kept (by with_reducible assumption) hb) | (have K := Tri.kept (by with_reducible exact Tri.new _ _ _ _ _) hb) | (have K := Tri.kept (by with_reducible exact (Tri.new _ _ _ _ _).drewN _) hb) | (have K := Tri.kept (by with_reducible exact (Tri.new _ _ _ _ _).drew) hb) | skip); (try simp only [World.size_alloc, World.heap_drewN, World.size_drew] at K); (try obtain ⟨kz, kc0, kc1, kc2, kf0, kf1, kf2⟩ := id K)))
        all_goals go_wp2_with fail
        all_goals go_meet
        all_goals
          first
            | ((with_reducible refine umid_set K hB ?_); first | omega | (simp <;> omega))
            | (with_reducible exact umid_new hB)
      case rest =>
        obtain ⟨b14, rfl, rfl, V14, _, hB⟩ := hcut
        have V9 := V.kept hB
        have B9 := bthen B8 hB
        obtain ⟨_, v0, v1, v2, fv0, fv1, fv2⟩ := id V9
        obtain ⟨_, x0, x1, x2, fx0, fx1, fx2⟩ := id V14
        go_wp2
        go_roundw
        case rel => exact ⟨k + 1, by omega, by go_num, B9⟩
        case measure => simp [intOf]; omega
    · have kN' : k = N := by omega
      subst kN'
      have dk : decide ((k : Int) < (k : Int)) = false := decide_eq_false (by omega)
      go_wp2
      go_ret
      exact ⟨by simp, B⟩

theorem findmeets_walk (c : CalZ) (L a b : Int) (w : World) (wf : CalWf c) (wL : (Lit.int .i64 L).wf = true) (w1 : (Lit.int .i64 a).wf = true) (w2 : (Lit.int .i64 b).wf = true) (tb : FTab w) :
    Calls Tryd.prog 4 #[.agg #[.string c.nm, .int .i64 c.k, .int .i64 c.d, .int .i64 c.m, .int .i64 c.s, .int .i64 c.sh, .int .i64 c.p0, .int .i64 c.p1, .int .i64 c.p2, .int .i64 c.cy, .int .i64 c.ex, .int .i64 c.fi, .int .i64 c.la, .int .i64 c.po], .int .i64 L, .agg #[.int .i64 a, .int .i64 b]] w fun e w' => e = .returned (.bool true) ∧ Below w.heap.size w w' := by
  obtain ⟨p, q, r, e1, D1⟩ := daya_ex c a L
  obtain ⟨p2, q2, r2, e2, D2⟩ := daya_ex c b L
  have hm := wf.1
  have er_ne : ∀ {n p q r e : Int}, DayA c n L p q r e → e ≠ 0 → DayA c n L 0 0 0 e := fun D ne => by
    obtain ⟨rfl, rfl, rfl, _⟩ := daya_er D ne
    exact D
  have ok_eq : ∀ {n p q r : Int}, DayA c n L p q r 0 → DayA c n L L q r 0 := fun D => by
    have h := (daya_to D).2.2.2.1
    rw [h] at D
    exact D
  by_cases h : CalOk c ∧ LevOk L
  · by_cases h2 : b < a
    · exact meets_no c L a b 1 p q r e1 p2 q2 r2 e2 w tb hm (.inr (.inl ⟨h.1, h.2, h2, rfl⟩)) (by decide) D1 D2 (.inl h2)
    · by_cases h3 : e1 = 0
      · subst h3
        have D1' := ok_eq D1
        by_cases h4 : e2 = 0
        · subst h4
          have D2' := ok_eq D2
          obtain ⟨u, _⟩ := daya_to D1'
          obtain ⟨v, _⟩ := daya_to D2'
          obtain ⟨N, way⟩ := way_ex v u (till_of D1' D2' (by omega))
          exact meets_main c L a b q r q2 r2 N w tb hm way D1' D2' (by omega)
        · exact meets_no c L a b e2 p q r 0 p2 q2 r2 e2 w tb hm (.inr (.inr (.inr ⟨h.1, h.2, by omega, h4, ⟨q, r, D1'⟩, er_ne D2 h4⟩))) h4 D1 D2 (.inr (.inr h4))
      · exact meets_no c L a b e1 p q r e1 p2 q2 r2 e2 w tb hm (.inr (.inr (.inl ⟨h.1, h.2, by omega, h3, er_ne D1 h3⟩))) h3 D1 D2 (.inr (.inl h3))
  · have n1 : e1 ≠ 0 := fun e => by
      subst e
      have := (daya_to D1).1
      exact h ⟨this.1, this.2.1⟩
    exact meets_no c L a b 1 p q r e1 p2 q2 r2 e2 w tb hm (.inl ⟨h, rfl⟩) (by decide) D1 D2 (.inr (.inl n1))

end Go.Proofs.YtaiodjgpojfekaaDoor.Dl
