/- RateExact's walk. -/
import Derived.Test.YtoeifpeiogeenaaGreatDoorPlive
import Derived.Test.YtoeifpeiogeenaaGreatDoorPcode3
import Derived.Test.YtoeifpeiogeenaaGreatDoorJQ
namespace Go.Proofs.YtoeifpeiogeenaaGreatDoor.Pl
set_option linter.unusedSimpArgs false
set_option linter.unusedVariables false
open Go.RowKit Go.Proofs.YtoeifpeiogeenaaGreatDoor.Bn Go.Proofs.YtoeifpeiogeenaaGreatDoor.Bx Go.Proofs.YtoeifpeiogeenaaGreatDoor.Cp Go.Proofs.YtoeifpeiogeenaaGreatDoor.Am Go.Proofs.YtoeifpeiogeenaaGreatDoor.Fp Go.Proofs.YtoeifpeiogeenaaGreatDoor.Ap Go.Proofs.YtoeifpeiogeenaaGreatDoor.Cm Go.Proofs.YtoeifpeiogeenaaGreatDoor.Em Go.Proofs.YtoeifpeiogeenaaGreatDoor.Ep Go.Proofs.YtoeifpeiogeenaaGreatDoor.Rk Go.Proofs.YtoeifpeiogeenaaGreatDoor.Hp Go.Proofs.YtoeifpeiogeenaaGreatDoor.Ip Go.Proofs.YtoeifpeiogeenaaGreatDoor.Jp Go.Proofs.YtoeifpeiogeenaaGreatDoor.Dp Go.Proofs.YtoeifpeiogeenaaGreatDoor.Pp
open Go.Proofs.YtoeifpeiogeenaaGreatDoor.Sm (IsSplit sm)
open Go.Proofs.YtoeifpeiogeenaaGreatDoor.Vm (Fit1)
open Go.Proofs.YtoeifpeiogeenaaGreatDoor.Qm (Rat1 Low OpRes opres_ex low_ne rat1_low opres_ok)

set_option maxHeartbeats 8000000

set_option maxRecDepth 100000 in
theorem rex_out (c : CalZ) (L A a b z : Int) (w : World) (tb : FTab w) (hz : IntKind.i64.wrap (b - a) = z) (l5 : (L == 5) = true) (l6 : decide (300 < z) = true) :
    Calls Tryz.prog 14 #[.agg #[.string c.nm, .int .i64 c.k, .int .i64 c.d, .int .i64 c.m, .int .i64 c.s, .int .i64 c.sh, .int .i64 c.p0, .int .i64 c.p1, .int .i64 c.p2, .int .i64 c.cy, .int .i64 c.ex, .int .i64 c.fi, .int .i64 c.la, .int .i64 c.po], .int .i64 L, .int .i64 A, .agg #[.int .i64 a, .int .i64 b]] w fun e w' => e = .returned (.bool true) ∧ Below w.heap.size w w' := by
  have C := CalIn.new w c 24
  have S := Go.Proofs.YtoeifpeiogeenaaGreatDoor.Pr.Two.new (w.alloc (.cells #[.string c.nm, .int .i64 c.k, .int .i64 c.d, .int .i64 c.m, .int .i64 c.s, .int .i64 c.sh, .int .i64 c.p0, .int .i64 c.p1, .int .i64 c.p2, .int .i64 c.cy, .int .i64 c.ex, .int .i64 c.fi, .int .i64 c.la, .int .i64 c.po] 24)) (.int .i64 a) (.int .i64 b) 43
  rw [World.size_alloc] at S
  replace C := C.alloc (.cells #[.int .i64 a, .int .i64 b] 43)
  have B := balloc (balloc (Below.refl _ w) (.cells #[.string c.nm, .int .i64 c.k, .int .i64 c.d, .int .i64 c.m, .int .i64 c.s, .int .i64 c.sh, .int .i64 c.p0, .int .i64 c.p1, .int .i64 c.p2, .int .i64 c.cy, .int .i64 c.ex, .int .i64 c.fi, .int .i64 c.la, .int .i64 c.po] 24)) (.cells #[.int .i64 a, .int .i64 b] 43)
  have T := (tb.alloc (.cells #[.string c.nm, .int .i64 c.k, .int .i64 c.d, .int .i64 c.m, .int .i64 c.s, .int .i64 c.sh, .int .i64 c.p0, .int .i64 c.p1, .int .i64 c.p2, .int .i64 c.cy, .int .i64 c.ex, .int .i64 c.fi, .int .i64 c.la, .int .i64 c.po] 24)).alloc (.cells #[.int .i64 a, .int .i64 b] 43)
  go_enter Tryz.func14, Tryz.ntmps14
  go_upto_region 1 with fail
  generalize (w.alloc (.cells #[.string c.nm, .int .i64 c.k, .int .i64 c.d, .int .i64 c.m, .int .i64 c.s, .int .i64 c.sh, .int .i64 c.p0, .int .i64 c.p1, .int .i64 c.p2, .int .i64 c.cy, .int .i64 c.ex, .int .i64 c.fi, .int .i64 c.la, .int .i64 c.po] 24)).alloc (.cells #[.int .i64 a, .int .i64 b] 43) = W0 at *
  obtain ⟨_, c0, c1, c2, c3, c4, c5, c6, c7, c8, c9, c10, c11, c12, c13⟩ := id C
  obtain ⟨_, s0, s1, fs0, fs1⟩ := id S
  go_wp2_with fail
  refine (rlive_ok _ T).mono ?_
  rintro e w1 ⟨rfl, hb⟩
  replace C := C.kept hb
  replace B := bthen B hb
  replace T := T.kept hb
  replace S := S.kept hb
  clear hb c0 c1 c2 c3 c4 c5 c6 c7 c8 c9 c10 c11 c12 c13 s0 s1 fs0 fs1
  obtain ⟨_, c0, c1, c2, c3, c4, c5, c6, c7, c8, c9, c10, c11, c12, c13⟩ := id C
  obtain ⟨_, s0, s1, fs0, fs1⟩ := id S
  go_wp2_with fail
  refine (rbrief_any c a b _).mono ?_
  rintro e w2 ⟨r, rfl, hb, hr⟩
  replace C := C.kept hb
  replace B := bthen B hb
  replace T := T.kept hb
  replace S := S.kept hb
  clear hb c0 c1 c2 c3 c4 c5 c6 c7 c8 c9 c10 c11 c12 c13 s0 s1 fs0 fs1
  obtain ⟨_, c0, c1, c2, c3, c4, c5, c6, c7, c8, c9, c10, c11, c12, c13⟩ := id C
  obtain ⟨_, s0, s1, fs0, fs1⟩ := id S
  cases r
  · go_wp2
    go_ret
    exact ⟨by simp, B⟩
  clear hr
  go_wp2
  go_ret
  exact ⟨by simp, B⟩

set_option maxRecDepth 100000 in
theorem rex_er (c : CalZ) (L A a b z er : Int) (w : World) (tb : FTab w) (hm : c.nm.size ≤ maxLen) (hz : IntKind.i64.wrap (b - a) = z) (O : ((L == 5) = false ∨ ((L == 5) = true ∧ decide (300 < z) = false))) (R : MeetsA c L a b er) (ne : er ≠ 0) :
    Calls Tryz.prog 14 #[.agg #[.string c.nm, .int .i64 c.k, .int .i64 c.d, .int .i64 c.m, .int .i64 c.s, .int .i64 c.sh, .int .i64 c.p0, .int .i64 c.p1, .int .i64 c.p2, .int .i64 c.cy, .int .i64 c.ex, .int .i64 c.fi, .int .i64 c.la, .int .i64 c.po], .int .i64 L, .int .i64 A, .agg #[.int .i64 a, .int .i64 b]] w fun e w' => e = .returned (.bool true) ∧ Below w.heap.size w w' := by
  have C := CalIn.new w c 24
  have S := Go.Proofs.YtoeifpeiogeenaaGreatDoor.Pr.Two.new (w.alloc (.cells #[.string c.nm, .int .i64 c.k, .int .i64 c.d, .int .i64 c.m, .int .i64 c.s, .int .i64 c.sh, .int .i64 c.p0, .int .i64 c.p1, .int .i64 c.p2, .int .i64 c.cy, .int .i64 c.ex, .int .i64 c.fi, .int .i64 c.la, .int .i64 c.po] 24)) (.int .i64 a) (.int .i64 b) 43
  rw [World.size_alloc] at S
  replace C := C.alloc (.cells #[.int .i64 a, .int .i64 b] 43)
  have B := balloc (balloc (Below.refl _ w) (.cells #[.string c.nm, .int .i64 c.k, .int .i64 c.d, .int .i64 c.m, .int .i64 c.s, .int .i64 c.sh, .int .i64 c.p0, .int .i64 c.p1, .int .i64 c.p2, .int .i64 c.cy, .int .i64 c.ex, .int .i64 c.fi, .int .i64 c.la, .int .i64 c.po] 24)) (.cells #[.int .i64 a, .int .i64 b] 43)
  have T := (tb.alloc (.cells #[.string c.nm, .int .i64 c.k, .int .i64 c.d, .int .i64 c.m, .int .i64 c.s, .int .i64 c.sh, .int .i64 c.p0, .int .i64 c.p1, .int .i64 c.p2, .int .i64 c.cy, .int .i64 c.ex, .int .i64 c.fi, .int .i64 c.la, .int .i64 c.po] 24)).alloc (.cells #[.int .i64 a, .int .i64 b] 43)
  have qe := fun w T => Exact_er c L A a b er w R ne hm T
  have qd := fun w T => Days_er c L a b er w R ne hm T
  have n1 : (er != 0) = true := bne_iff_ne.2 ne
  have n2 : (er == er) = true := beq_self_eq_true er
  clear R ne
  rcases O with l5 | ⟨l5, l6⟩
  all_goals
    go_enter Tryz.func14, Tryz.ntmps14
    go_upto_region 1 with fail
    generalize (w.alloc (.cells #[.string c.nm, .int .i64 c.k, .int .i64 c.d, .int .i64 c.m, .int .i64 c.s, .int .i64 c.sh, .int .i64 c.p0, .int .i64 c.p1, .int .i64 c.p2, .int .i64 c.cy, .int .i64 c.ex, .int .i64 c.fi, .int .i64 c.la, .int .i64 c.po] 24)).alloc (.cells #[.int .i64 a, .int .i64 b] 43) = W0 at *
    obtain ⟨_, c0, c1, c2, c3, c4, c5, c6, c7, c8, c9, c10, c11, c12, c13⟩ := id C
    obtain ⟨_, s0, s1, fs0, fs1⟩ := id S
    go_wp2_with fail
    refine (rlive_ok _ T).mono ?_
    rintro e w1 ⟨rfl, hb⟩
    replace C := C.kept hb
    replace B := bthen B hb
    replace T := T.kept hb
    replace S := S.kept hb
    clear hb c0 c1 c2 c3 c4 c5 c6 c7 c8 c9 c10 c11 c12 c13 s0 s1 fs0 fs1
    obtain ⟨_, c0, c1, c2, c3, c4, c5, c6, c7, c8, c9, c10, c11, c12, c13⟩ := id C
    obtain ⟨_, s0, s1, fs0, fs1⟩ := id S
    go_wp2_with fail
    refine (rbrief_any c a b _).mono ?_
    rintro e w2 ⟨r, rfl, hb, hr⟩
    replace C := C.kept hb
    replace B := bthen B hb
    replace T := T.kept hb
    replace S := S.kept hb
    clear hb c0 c1 c2 c3 c4 c5 c6 c7 c8 c9 c10 c11 c12 c13 s0 s1 fs0 fs1
    obtain ⟨_, c0, c1, c2, c3, c4, c5, c6, c7, c8, c9, c10, c11, c12, c13⟩ := id C
    obtain ⟨_, s0, s1, fs0, fs1⟩ := id S
    cases r
    · go_wp2
      go_ret
      exact ⟨by simp, B⟩
    clear hr
    go_wp2_with fail
    refine (qe _ T).mono ?_
    rintro e w3 ⟨rfl, hb⟩
    replace C := C.kept hb
    replace B := bthen B hb
    replace T := T.kept hb
    replace S := S.kept hb
    clear hb c0 c1 c2 c3 c4 c5 c6 c7 c8 c9 c10 c11 c12 c13 s0 s1 fs0 fs1
    obtain ⟨_, c0, c1, c2, c3, c4, c5, c6, c7, c8, c9, c10, c11, c12, c13⟩ := id C
    obtain ⟨_, s0, s1, fs0, fs1⟩ := id S
    go_wp2_with fail
    refine (qd _ T).mono ?_
    rintro e w4 ⟨rfl, hb⟩
    replace C := C.kept hb
    replace B := bthen B hb
    replace T := T.kept hb
    replace S := S.kept hb
    clear hb c0 c1 c2 c3 c4 c5 c6 c7 c8 c9 c10 c11 c12 c13 s0 s1 fs0 fs1
    obtain ⟨_, c0, c1, c2, c3, c4, c5, c6, c7, c8, c9, c10, c11, c12, c13⟩ := id C
    obtain ⟨_, s0, s1, fs0, fs1⟩ := id S
    go_wp2
    go_ret
    exact ⟨by simp, B⟩

set_option maxRecDepth 100000 in
theorem rex_over (c : CalZ) (L A a b z y0 i0 y n : Int) (N M k0 : Nat) (P Q : Nat → Int) (w : World) (tb : FTab w) (hm : c.nm.size ≤ maxLen) (fa : Fit1 A) (hz : IntKind.i64.wrap (b - a) = z) (O : ((L == 5) = false ∨ ((L == 5) = true ∧ decide (300 < z) = false))) (h : Cut c L a b y0 i0 y n N) (hM : N + 1 = M) (hk : k0 < M) (R : ∀ i, i < k0 → Rat1 (A * pday c L a b (y0, i0) i) (b - a + 1) (P i) (Q i) 0) (RE : Rat1 (A * pday c L a b (y0, i0) k0) (b - a + 1) 0 0 2) :
    Calls Tryz.prog 14 #[.agg #[.string c.nm, .int .i64 c.k, .int .i64 c.d, .int .i64 c.m, .int .i64 c.s, .int .i64 c.sh, .int .i64 c.p0, .int .i64 c.p1, .int .i64 c.p2, .int .i64 c.cy, .int .i64 c.ex, .int .i64 c.fi, .int .i64 c.la, .int .i64 c.po], .int .i64 L, .int .i64 A, .agg #[.int .i64 a, .int .i64 b]] w fun e w' => e = .returned (.bool true) ∧ Below w.heap.size w w' := by
  have C := CalIn.new w c 24
  have S := Go.Proofs.YtoeifpeiogeenaaGreatDoor.Pr.Two.new (w.alloc (.cells #[.string c.nm, .int .i64 c.k, .int .i64 c.d, .int .i64 c.m, .int .i64 c.s, .int .i64 c.sh, .int .i64 c.p0, .int .i64 c.p1, .int .i64 c.p2, .int .i64 c.cy, .int .i64 c.ex, .int .i64 c.fi, .int .i64 c.la, .int .i64 c.po] 24)) (.int .i64 a) (.int .i64 b) 43
  rw [World.size_alloc] at S
  replace C := C.alloc (.cells #[.int .i64 a, .int .i64 b] 43)
  have B := balloc (balloc (Below.refl _ w) (.cells #[.string c.nm, .int .i64 c.k, .int .i64 c.d, .int .i64 c.m, .int .i64 c.s, .int .i64 c.sh, .int .i64 c.p0, .int .i64 c.p1, .int .i64 c.p2, .int .i64 c.cy, .int .i64 c.ex, .int .i64 c.fi, .int .i64 c.la, .int .i64 c.po] 24)) (.cells #[.int .i64 a, .int .i64 b] 43)
  have T := (tb.alloc (.cells #[.string c.nm, .int .i64 c.k, .int .i64 c.d, .int .i64 c.m, .int .i64 c.s, .int .i64 c.sh, .int .i64 c.p0, .int .i64 c.p1, .int .i64 c.p2, .int .i64 c.cy, .int .i64 c.ex, .int .i64 c.fi, .int .i64 c.la, .int .i64 c.po] 24)).alloc (.cells #[.int .i64 a, .int .i64 b] 43)
  have qe := fun (M1 : M ≤ 4096) w T => Exact_over c L A a b y0 i0 y n N M k0 P Q w h hM M1 fa hk R RE hm T
  have qd := fun (M1 : M ≤ 4096) w T => Days_ok c L a b y0 i0 y n N M w h hM (by omega) hm T
  have bd1 := h.bd
  have ab := h.ab
  have M0 : (M : Int) ≤ b - a + 1 := by omega
  clear h hM R RE fa hk
  rcases O with l5 | ⟨l5, l6⟩
  all_goals
    go_enter Tryz.func14, Tryz.ntmps14
    go_upto_region 1 with fail
    generalize (w.alloc (.cells #[.string c.nm, .int .i64 c.k, .int .i64 c.d, .int .i64 c.m, .int .i64 c.s, .int .i64 c.sh, .int .i64 c.p0, .int .i64 c.p1, .int .i64 c.p2, .int .i64 c.cy, .int .i64 c.ex, .int .i64 c.fi, .int .i64 c.la, .int .i64 c.po] 24)).alloc (.cells #[.int .i64 a, .int .i64 b] 43) = W0 at *
    obtain ⟨_, c0, c1, c2, c3, c4, c5, c6, c7, c8, c9, c10, c11, c12, c13⟩ := id C
    obtain ⟨_, s0, s1, fs0, fs1⟩ := id S
    go_wp2_with fail
    refine (rlive_ok _ T).mono ?_
    rintro e w1 ⟨rfl, hb⟩
    replace C := C.kept hb
    replace B := bthen B hb
    replace T := T.kept hb
    replace S := S.kept hb
    clear hb c0 c1 c2 c3 c4 c5 c6 c7 c8 c9 c10 c11 c12 c13 s0 s1 fs0 fs1
    obtain ⟨_, c0, c1, c2, c3, c4, c5, c6, c7, c8, c9, c10, c11, c12, c13⟩ := id C
    obtain ⟨_, s0, s1, fs0, fs1⟩ := id S
    go_wp2_with fail
    refine (rbrief_any c a b _).mono ?_
    rintro e w2 ⟨r, rfl, hb, hr⟩
    replace C := C.kept hb
    replace B := bthen B hb
    replace T := T.kept hb
    replace S := S.kept hb
    clear hb c0 c1 c2 c3 c4 c5 c6 c7 c8 c9 c10 c11 c12 c13 s0 s1 fs0 fs1
    obtain ⟨_, c0, c1, c2, c3, c4, c5, c6, c7, c8, c9, c10, c11, c12, c13⟩ := id C
    obtain ⟨_, s0, s1, fs0, fs1⟩ := id S
    cases r
    · go_wp2
      go_ret
      exact ⟨by simp, B⟩
    have br := (hr rfl).2 ab bd1.1 bd1.2.1
    have M1 : M ≤ 1501 := by omega
    clear hr
    go_wp2_with fail
    refine (qe (by omega) _ T).mono ?_
    rintro e w3 ⟨rfl, hb⟩
    replace C := C.kept hb
    replace B := bthen B hb
    replace T := T.kept hb
    replace S := S.kept hb
    clear hb c0 c1 c2 c3 c4 c5 c6 c7 c8 c9 c10 c11 c12 c13 s0 s1 fs0 fs1
    obtain ⟨_, c0, c1, c2, c3, c4, c5, c6, c7, c8, c9, c10, c11, c12, c13⟩ := id C
    obtain ⟨_, s0, s1, fs0, fs1⟩ := id S
    go_wp2_with fail
    refine (qd (by omega) _ T).mono ?_
    rintro e w4 ⟨gd, rfl, D, hg, hb⟩
    replace C := C.kept hb
    replace B := bthen B hb
    replace T := T.kept hb
    replace S := S.kept hb
    clear hb c0 c1 c2 c3 c4 c5 c6 c7 c8 c9 c10 c11 c12 c13 s0 s1 fs0 fs1
    obtain ⟨_, c0, c1, c2, c3, c4, c5, c6, c7, c8, c9, c10, c11, c12, c13⟩ := id C
    obtain ⟨_, s0, s1, fs0, fs1⟩ := id S
    go_wp2
    go_ret
    exact ⟨by simp, B⟩

set_option maxRecDepth 100000 in
theorem rex_ok1 (c : CalZ) (L A a b y0 i0 y n : Int) (N M : Nat) (P Q : Nat → Int) (w : World) (tb : FTab w) (hm : c.nm.size ≤ maxLen) (fa : Fit1 A) (h : Cut c L a b y0 i0 y n N) (hM : N + 1 = M) (R : ∀ i, i < M → Rat1 (A * pday c L a b (y0, i0) i) (b - a + 1) (P i) (Q i) 0) (l5 : (L == 5) = false) :
    Calls Tryz.prog 14 #[.agg #[.string c.nm, .int .i64 c.k, .int .i64 c.d, .int .i64 c.m, .int .i64 c.s, .int .i64 c.sh, .int .i64 c.p0, .int .i64 c.p1, .int .i64 c.p2, .int .i64 c.cy, .int .i64 c.ex, .int .i64 c.fi, .int .i64 c.la, .int .i64 c.po], .int .i64 L, .int .i64 A, .agg #[.int .i64 a, .int .i64 b]] w fun e w' => e = .returned (.bool true) ∧ Below w.heap.size w w' := by
  have C := CalIn.new w c 24
  have S := Go.Proofs.YtoeifpeiogeenaaGreatDoor.Pr.Two.new (w.alloc (.cells #[.string c.nm, .int .i64 c.k, .int .i64 c.d, .int .i64 c.m, .int .i64 c.s, .int .i64 c.sh, .int .i64 c.p0, .int .i64 c.p1, .int .i64 c.p2, .int .i64 c.cy, .int .i64 c.ex, .int .i64 c.fi, .int .i64 c.la, .int .i64 c.po] 24)) (.int .i64 a) (.int .i64 b) 43
  rw [World.size_alloc] at S
  replace C := C.alloc (.cells #[.int .i64 a, .int .i64 b] 43)
  have B := balloc (balloc (Below.refl _ w) (.cells #[.string c.nm, .int .i64 c.k, .int .i64 c.d, .int .i64 c.m, .int .i64 c.s, .int .i64 c.sh, .int .i64 c.p0, .int .i64 c.p1, .int .i64 c.p2, .int .i64 c.cy, .int .i64 c.ex, .int .i64 c.fi, .int .i64 c.la, .int .i64 c.po] 24)) (.cells #[.int .i64 a, .int .i64 b] 43)
  have T := (tb.alloc (.cells #[.string c.nm, .int .i64 c.k, .int .i64 c.d, .int .i64 c.m, .int .i64 c.s, .int .i64 c.sh, .int .i64 c.p0, .int .i64 c.p1, .int .i64 c.p2, .int .i64 c.cy, .int .i64 c.ex, .int .i64 c.fi, .int .i64 c.la, .int .i64 c.po] 24)).alloc (.cells #[.int .i64 a, .int .i64 b] 43)
  have qe := fun (M1 : M ≤ 4096) w T => Exact_ok c L A a b y0 i0 y n N M P Q w h hM M1 fa R hm T
  have qd := fun (M1 : M ≤ 4096) w T => Days_ok c L a b y0 i0 y n N M w h hM (by omega) hm T
  have bd1 := h.bd
  have ab := h.ab
  obtain ⟨pd, hpd⟩ : ∃ pd, pday c L a b (y0, i0) = pd := ⟨_, rfl⟩
  obtain ⟨t, ht⟩ : ∃ t, b - a + 1 = t := ⟨_, rfl⟩
  have sumt : sm pd M = t := by rw [← hpd, ← hM, ← ht]; exact h.sum
  rw [hpd, ht] at R
  have tp : 0 < t := by omega
  have HT := Lib.hid (And.intro tp sumt)
  obtain ⟨v, hv⟩ : ∃ v, (A == 0) = v := ⟨_, rfl⟩
  have HN : Hid (∀ k, k < M → ∃ N1 D1 d : Int, pd k = d ∧ Low (P k) (Q k) ∧ P k * t = A * d * Q k ∧ Fit1 (P k) ∧ Fit1 (Q k) ∧ (P k == 0) = v ∧
      (∀ W, Calls Tryz.prog 35 #[.int .i64 d, .int .i64 t] W fun e w' => e = .returned (.tuple #[.agg #[.int .i64 N1, .int .i64 D1], .int .i64 0]) ∧ Below W.heap.size W w') ∧
      (∀ W, Calls Tryz.prog 36 #[.agg #[.int .i64 A, .int .i64 1], .agg #[.int .i64 N1, .int .i64 D1]] W fun e w' => e = .returned (.tuple #[.agg #[.int .i64 (P k), .int .i64 (Q k)], .int .i64 0]) ∧ Below W.heap.size W w')) :=
    Lib.hid (fun k hk => by
      have dk := h.day k (by omega)
      have lk := h.way.long k (by omega)
      rw [hpd] at dk
      have up := h.upto (k + 1) (by omega)
      have up0 := h.upto k (by omega)
      rw [hpd] at up up0
      have es : sm pd (k + 1) = sm pd k + pd k := rfl
      obtain ⟨N1, D1, m1, f1, f2, o1⟩ := Go.Proofs.YtoeifpeiogeenaaGreatDoor.Sr.share_op (a := A) (x := pd k) (t := t) (by omega) (by omega) tp (by unfold Fit1; omega) (R k hk)
      obtain ⟨lo, e, g1, g2⟩ := rat1_low (R k hk)
      refine ⟨N1, D1, pd k, rfl, lo, e, g1, g2, ?_, fun W => Go.Proofs.YtoeifpeiogeenaaGreatDoor.Qc.Make_any (pd k) t N1 D1 0 W (by unfold Fit1; omega) (by unfold Fit1; omega) m1, fun W => Go.Proofs.YtoeifpeiogeenaaGreatDoor.Qc.Mul_op A 1 N1 D1 (P k) (Q k) 0 W fa (by unfold Fit1; omega) f1 f2 o1⟩
      rw [← hv, Bool.eq_iff_iff, beq_iff_eq, beq_iff_eq]
      have q0 := lo.1
      constructor
      · intro z
        rw [z, Int.zero_mul] at e
        rcases Int.mul_eq_zero.1 e.symm with h | h
        · rcases Int.mul_eq_zero.1 h with h | h <;> omega
        · omega
      · intro z
        rw [z, Int.zero_mul, Int.zero_mul] at e
        rcases Int.mul_eq_zero.1 e with h | h <;> omega)
  have M0 : (M : Int) ≤ t ∧ 1 ≤ M := by omega
  have t1 : t ≤ 3068037 := by omega
  rw [hpd] at qd
  have HA := Lib.hid fa
  have HB := Lib.hid ht
  have hwz : IntKind.i64.wrap (b - a) = b - a := IntWalk.i64_in _ (by omega)
  clear h R hM hpd sumt fa
  go_enter Tryz.func14, Tryz.ntmps14
  go_upto_region 1 with fail
  generalize (w.alloc (.cells #[.string c.nm, .int .i64 c.k, .int .i64 c.d, .int .i64 c.m, .int .i64 c.s, .int .i64 c.sh, .int .i64 c.p0, .int .i64 c.p1, .int .i64 c.p2, .int .i64 c.cy, .int .i64 c.ex, .int .i64 c.fi, .int .i64 c.la, .int .i64 c.po] 24)).alloc (.cells #[.int .i64 a, .int .i64 b] 43) = W0 at *
  obtain ⟨_, c0, c1, c2, c3, c4, c5, c6, c7, c8, c9, c10, c11, c12, c13⟩ := id C
  obtain ⟨_, s0, s1, fs0, fs1⟩ := id S
  go_wp2_with fail
  refine (rlive_ok _ T).mono ?_
  rintro e w1 ⟨rfl, hb⟩
  replace C := C.kept hb
  replace B := bthen B hb
  replace T := T.kept hb
  replace S := S.kept hb
  clear hb c0 c1 c2 c3 c4 c5 c6 c7 c8 c9 c10 c11 c12 c13 s0 s1 fs0 fs1
  obtain ⟨_, c0, c1, c2, c3, c4, c5, c6, c7, c8, c9, c10, c11, c12, c13⟩ := id C
  obtain ⟨_, s0, s1, fs0, fs1⟩ := id S
  go_wp2_with fail
  refine (rbrief_any c a b _).mono ?_
  rintro e w2 ⟨r, rfl, hb, hr⟩
  replace C := C.kept hb
  replace B := bthen B hb
  replace T := T.kept hb
  replace S := S.kept hb
  clear hb c0 c1 c2 c3 c4 c5 c6 c7 c8 c9 c10 c11 c12 c13 s0 s1 fs0 fs1
  obtain ⟨_, c0, c1, c2, c3, c4, c5, c6, c7, c8, c9, c10, c11, c12, c13⟩ := id C
  obtain ⟨_, s0, s1, fs0, fs1⟩ := id S
  cases r
  · go_wp2
    go_ret
    exact ⟨by simp, B⟩
  have br := (hr rfl).2 ab bd1.1 bd1.2.1
  have M1 : M ≤ 1501 := by omega
  clear hr ht
  go_wp2_with fail
  refine (qe (by omega) _ T).mono ?_
  rintro e w3 ⟨gx, rfl, X, hg, hb⟩
  replace C := C.kept hb
  replace B := bthen B hb
  replace T := T.kept hb
  replace S := S.kept hb
  clear hb c0 c1 c2 c3 c4 c5 c6 c7 c8 c9 c10 c11 c12 c13 s0 s1 fs0 fs1
  obtain ⟨_, c0, c1, c2, c3, c4, c5, c6, c7, c8, c9, c10, c11, c12, c13⟩ := id C
  obtain ⟨_, s0, s1, fs0, fs1⟩ := id S
  clear hg
  obtain ⟨_, _, _, _, _⟩ := id X
  go_wp2_with fail
  refine (qd (by omega) _ T).mono ?_
  rintro e w4 ⟨gd, rfl, D, hg, hb⟩
  replace C := C.kept hb
  replace B := bthen B hb
  replace T := T.kept hb
  replace S := S.kept hb
  replace X := X.kept hb
  clear hb c0 c1 c2 c3 c4 c5 c6 c7 c8 c9 c10 c11 c12 c13 s0 s1 fs0 fs1
  obtain ⟨_, c0, c1, c2, c3, c4, c5, c6, c7, c8, c9, c10, c11, c12, c13⟩ := id C
  obtain ⟨_, s0, s1, fs0, fs1⟩ := id S
  obtain ⟨_, _, _, _, _⟩ := id X
  clear hg qe qd
  have M2 : (M : Int) ≤ 1501 := by omega
  have S0 := S
  have SB := Go.Proofs.YtoeifpeiogeenaaGreatDoor.Pr.Two.new w4 (.int .i64 0) (.int .i64 1) 72
  have B3 := balloc (Below.refl _ w4) (.cells #[.int .i64 0, .int .i64 1] 72)
  go_upto_region 13 with fail
  clear s0 s1 fs0 fs1
  clear c0 c1 c2 c3 c4 c5 c6 c7 c8 c9 c10 c11 c12 c13 
  generalize w4.alloc (.cells #[.int .i64 0, .int .i64 1] 72) = W3 at *
  have hbt : IntKind.i64.wrap (IntKind.i64.wrap (b - a) + 1) = t := by rw [hwz, HB.out]; exact IntWalk.i64_in _ (by omega)
  have ebt : b - a + 1 = t := HB.out
  try rw [ebt]
  obtain ⟨sb, hsb⟩ : ∃ sb, w4.heap.size = sb := ⟨_, rfl⟩
  rw [hsb] at SB ⊢
  have HS := Lib.hid hsb
  clear hsb ebt hbt
  go_wp2
  go_loopw [15, 93] (fun Z Y wr => ∃ (k : Nat) (U V : Int) (o : Bool), k ≤ M ∧ Y = .int .i64 (k : Int) ∧ Z = .bool o ∧ Below w4.heap.size w4 wr ∧ Go.Proofs.YtoeifpeiogeenaaGreatDoor.Pr.Two wr sb (.int .i64 U) (.int .i64 V) ∧ Hid (Low U V ∧ Fit1 U ∧ Fit1 V ∧ (o = true → U * t = A * sm pd k * V))) (fun _ Y _ => M - (intOf Y).toNat)
  case atStart => exact ⟨0, 0, 1, true, by omega, rfl, rfl, B3, SB, Lib.hid ⟨⟨by omega, by simp⟩, by unfold Fit1; omega, by unfold Fit1; omega, fun _ => by simp [sm]⟩⟩
  case round =>
    clear SB B3
    obtain ⟨k, U, V, o, kM, rfl, rfl, B4, SB, HU⟩ := hrel
    by_cases hlt : k < M
    · obtain ⟨N1, D1, d, hd, lo, ek, f1, f2, pv, cMk, cMl⟩ := HN.out k hlt
      obtain ⟨N2, D2, e2, R2⟩ := opres_ex (a := U) (b := V) (c := P k) (d := Q k) (n := U * Q k + P k * V) (m := V * Q k) (fun h1 h2 => low_ne h1 h2)
      have cA := fun W => Go.Proofs.YtoeifpeiogeenaaGreatDoor.Qc.Add_op U V (P k) (Q k) N2 D2 e2 W HU.out.2.1 HU.out.2.2.1 f1 f2 R2
      have cK := fun W => Go.Proofs.YtoeifpeiogeenaaGreatDoor.Qc.Check_yes (P k) (Q k) W f1 f2 lo
      have HR2 := Lib.hid R2
      have HK2 := Lib.hid (And.intro lo (And.intro ek hd))
      have XX := X.kept B4
      have p0 := XX.c0 k hlt
      have p1 := XX.c1 k hlt
      clear R2 lo ek f1 f2 XX
      obtain ⟨Pk, hPk⟩ : ∃ y, P k = y := ⟨_, rfl⟩
      obtain ⟨Qk, hQk⟩ : ∃ y, Q k = y := ⟨_, rfl⟩
      rw [hPk] at p0 pv cMl cA cK
      rw [hQk] at p1 cMl cA cK
      have HPQ := Lib.hid (And.intro hPk hQk)
      clear hPk hQk
      have kk : (k : Int) < (M : Int) := by omega
      have qv : (v != v) = false := by cases v <;> rfl
      have hv2 := hv
      have B5 := balloc B4 (.cells #[.int .i64 Pk, .int .i64 Qk] 72)
      have K := Go.Proofs.YtoeifpeiogeenaaGreatDoor.Pr.Two.new wr (.int .i64 Pk) (.int .i64 Qk) 72
      have SB5 := SB.alloc (.cells #[.int .i64 Pk, .int .i64 Qk] 72)
      go_upto_region 17 with fail
      clear p0 p1 SB
      generalize wr.alloc (.cells #[.int .i64 Pk, .int .i64 Qk] 72) = W5 at *
      generalize wr.heap.size = rb at K ⊢
      obtain ⟨_, k0, k1, fk0, fk1⟩ := id K
      go_wp2_with fail
      refine (cK _).mono ?_
      rintro e w6 ⟨rfl, hb⟩
      replace K := K.kept hb
      have B6 := bthen B5 hb
      have SB6 := SB5.kept hb
      clear hb k0 k1 fk0 fk1 B5 SB5 cK
      obtain ⟨_, k0, k1, fk0, fk1⟩ := id K
      have dc := (D.kept B6).c k hlt
      rw [hd] at dc
      go_wp2_with fail
      refine (cMk _).mono ?_
      rintro e w7 ⟨rfl, hb⟩
      replace K := (K.kept hb).alloc (.cells #[.int .i64 N1, .int .i64 D1] 72)
      have G := Go.Proofs.YtoeifpeiogeenaaGreatDoor.Pr.Two.new w7 (.int .i64 N1) (.int .i64 D1) 72
      have B7 := balloc (bthen B6 hb) (.cells #[.int .i64 N1, .int .i64 D1] 72)
      have SB7 := (SB6.kept hb).alloc (.cells #[.int .i64 N1, .int .i64 D1] 72)
      clear hb k0 k1 fk0 fk1 B6 SB6 cMk dc
      obtain ⟨_, g0, g1, fg0, fg1⟩ := id G
      go_wp2_with fail
      refine (cMl _).mono ?_
      rintro e w8 ⟨rfl, hb⟩
      replace K := (K.kept hb).alloc (.cells #[.int .i64 Pk, .int .i64 Qk] 72)
      have H := Go.Proofs.YtoeifpeiogeenaaGreatDoor.Pr.Two.new w8 (.int .i64 Pk) (.int .i64 Qk) 72
      have B8 := balloc (bthen B7 hb) (.cells #[.int .i64 Pk, .int .i64 Qk] 72)
      have SB8 := (SB7.kept hb).alloc (.cells #[.int .i64 Pk, .int .i64 Qk] 72)
      clear hb g0 g1 fg0 fg1 G B7 SB7 cMl
      go_upto_region 21 with fail
      generalize w8.alloc (.cells #[.int .i64 Pk, .int .i64 Qk] 72) = W8 at *
      obtain ⟨_, k0, k1, fk0, fk1⟩ := id K
      obtain ⟨_, h0, h1, fh0, fh1⟩ := id H
      obtain ⟨_, z0, z1, fz0, fz1⟩ := id SB8
      go_wp2_with fail
      refine (cA _).mono ?_
      rintro e w9 ⟨rfl, hb⟩
      have I := Go.Proofs.YtoeifpeiogeenaaGreatDoor.Pr.Two.new w9 (.int .i64 N2) (.int .i64 D2) 72
      have B9 := balloc (bthen B8 hb) (.cells #[.int .i64 N2, .int .i64 D2] 72)
      have SB9 := (SB8.kept hb).alloc (.cells #[.int .i64 N2, .int .i64 D2] 72)
      clear hb k0 k1 fk0 fk1 h0 h1 fh0 fh1 z0 z1 fz0 fz1 K H B8 SB8 cA
      go_upto_region 24 with fail
      generalize w9.alloc (.cells #[.int .i64 N2, .int .i64 D2] 72) = W9 at *
      obtain ⟨_, x0, x1, fx0, fx1⟩ := id I
      obtain ⟨_, z0, z1, fz0, fz1⟩ := id SB9
      by_cases E2 : e2 = 0
      · have d8 : (e2 == 0) = true := beq_iff_eq.2 E2
        have NW : Hid (Low N2 D2 ∧ Fit1 N2 ∧ Fit1 D2 ∧ (o = true → N2 * t = A * sm pd (k + 1) * D2)) := Lib.hid (by
          have r2 := HR2.out
          rw [E2] at r2
          obtain ⟨l1, l2, l3, e3, f1, f2⟩ := opres_ok r2
          refine ⟨l3, f1, f2, fun ho => ?_⟩
          have e4 := HK2.out.2.1
          rw [← HK2.out.2.2] at e4
          have := Go.Proofs.YtoeifpeiogeenaaGreatDoor.Sl.sum_more HT.out.1 l1 l2 (HU.out.2.2.2 ho) e4 e3
          rw [this]; rfl)
        have B10 := bset (bset B9 (g := sb) (by rw [HS.out]; exact Nat.le_refl _) 0 (.int .i64 N2)) (g := sb) (by rw [HS.out]; exact Nat.le_refl _) 1 (.int .i64 D2)
        have SBn := (SB9.set0 (.int .i64 N2)).set1 (.int .i64 D2)
        clear B9 SB9 I E2
        go_wp2
        go_roundw
        case rel => exact ⟨k + 1, N2, D2, o, by omega, by go_num, rfl, B10, SBn, NW⟩
        case measure => simp [intOf]; omega
      · have d8 : (e2 == 0) = false := beq_eq_false_iff_ne.2 E2
        have NW : Hid (Low U V ∧ Fit1 U ∧ Fit1 V ∧ (false = true → U * t = A * sm pd (k + 1) * V)) := Lib.hid ⟨HU.out.1, HU.out.2.1, HU.out.2.2.1, fun h => by cases h⟩
        clear E2
        go_wp2
        go_roundw
        case rel => exact ⟨k + 1, U, V, false, by omega, by go_num, rfl, B9, SB9, NW⟩
        case measure => simp [intOf]; omega
    · obtain rfl : k = M := by omega
      have kk : decide ((k : Int) < (k : Int)) = false := decide_eq_false (by omega)
      obtain ⟨lo, _, _, he⟩ := HU.out
      cases o
      · obtain ⟨_, z0, z1, fz0, fz1⟩ := id SB
        go_wp2
        go_ret
        exact ⟨by simp, bthen B B4⟩
      · have he := he rfl
        rw [HT.out.2] at he
        obtain ⟨rfl, rfl⟩ := Go.Proofs.YtoeifpeiogeenaaGreatDoor.Sl.whole_low HT.out.1 lo he
        obtain ⟨_, z0, z1, fz0, fz1⟩ := id SB
        clear he lo
        go_wp2
        go_ret
        exact ⟨by simp, bthen B B4⟩

set_option maxRecDepth 100000 in
theorem rex_ok2 (c : CalZ) (L A a b y0 i0 y n : Int) (N M : Nat) (P Q : Nat → Int) (w : World) (tb : FTab w) (hm : c.nm.size ≤ maxLen) (fa : Fit1 A) (h : Cut c L a b y0 i0 y n N) (hM : N + 1 = M) (R : ∀ i, i < M → Rat1 (A * pday c L a b (y0, i0) i) (b - a + 1) (P i) (Q i) 0) (l5 : (L == 5) = true) (l6 : decide (300 < b - a) = false) :
    Calls Tryz.prog 14 #[.agg #[.string c.nm, .int .i64 c.k, .int .i64 c.d, .int .i64 c.m, .int .i64 c.s, .int .i64 c.sh, .int .i64 c.p0, .int .i64 c.p1, .int .i64 c.p2, .int .i64 c.cy, .int .i64 c.ex, .int .i64 c.fi, .int .i64 c.la, .int .i64 c.po], .int .i64 L, .int .i64 A, .agg #[.int .i64 a, .int .i64 b]] w fun e w' => e = .returned (.bool true) ∧ Below w.heap.size w w' := by
  have C := CalIn.new w c 24
  have S := Go.Proofs.YtoeifpeiogeenaaGreatDoor.Pr.Two.new (w.alloc (.cells #[.string c.nm, .int .i64 c.k, .int .i64 c.d, .int .i64 c.m, .int .i64 c.s, .int .i64 c.sh, .int .i64 c.p0, .int .i64 c.p1, .int .i64 c.p2, .int .i64 c.cy, .int .i64 c.ex, .int .i64 c.fi, .int .i64 c.la, .int .i64 c.po] 24)) (.int .i64 a) (.int .i64 b) 43
  rw [World.size_alloc] at S
  replace C := C.alloc (.cells #[.int .i64 a, .int .i64 b] 43)
  have B := balloc (balloc (Below.refl _ w) (.cells #[.string c.nm, .int .i64 c.k, .int .i64 c.d, .int .i64 c.m, .int .i64 c.s, .int .i64 c.sh, .int .i64 c.p0, .int .i64 c.p1, .int .i64 c.p2, .int .i64 c.cy, .int .i64 c.ex, .int .i64 c.fi, .int .i64 c.la, .int .i64 c.po] 24)) (.cells #[.int .i64 a, .int .i64 b] 43)
  have T := (tb.alloc (.cells #[.string c.nm, .int .i64 c.k, .int .i64 c.d, .int .i64 c.m, .int .i64 c.s, .int .i64 c.sh, .int .i64 c.p0, .int .i64 c.p1, .int .i64 c.p2, .int .i64 c.cy, .int .i64 c.ex, .int .i64 c.fi, .int .i64 c.la, .int .i64 c.po] 24)).alloc (.cells #[.int .i64 a, .int .i64 b] 43)
  have qe := fun (M1 : M ≤ 4096) w T => Exact_ok c L A a b y0 i0 y n N M P Q w h hM M1 fa R hm T
  have qd := fun (M1 : M ≤ 4096) w T => Days_ok c L a b y0 i0 y n N M w h hM (by omega) hm T
  have bd1 := h.bd
  have ab := h.ab
  obtain ⟨pd, hpd⟩ : ∃ pd, pday c L a b (y0, i0) = pd := ⟨_, rfl⟩
  obtain ⟨t, ht⟩ : ∃ t, b - a + 1 = t := ⟨_, rfl⟩
  have sumt : sm pd M = t := by rw [← hpd, ← hM, ← ht]; exact h.sum
  rw [hpd, ht] at R
  have tp : 0 < t := by omega
  have HT := Lib.hid (And.intro tp sumt)
  obtain ⟨v, hv⟩ : ∃ v, (A == 0) = v := ⟨_, rfl⟩
  have HN : Hid (∀ k, k < M → ∃ N1 D1 d : Int, pd k = d ∧ Low (P k) (Q k) ∧ P k * t = A * d * Q k ∧ Fit1 (P k) ∧ Fit1 (Q k) ∧ (P k == 0) = v ∧
      (∀ W, Calls Tryz.prog 35 #[.int .i64 d, .int .i64 t] W fun e w' => e = .returned (.tuple #[.agg #[.int .i64 N1, .int .i64 D1], .int .i64 0]) ∧ Below W.heap.size W w') ∧
      (∀ W, Calls Tryz.prog 36 #[.agg #[.int .i64 A, .int .i64 1], .agg #[.int .i64 N1, .int .i64 D1]] W fun e w' => e = .returned (.tuple #[.agg #[.int .i64 (P k), .int .i64 (Q k)], .int .i64 0]) ∧ Below W.heap.size W w')) :=
    Lib.hid (fun k hk => by
      have dk := h.day k (by omega)
      have lk := h.way.long k (by omega)
      rw [hpd] at dk
      have up := h.upto (k + 1) (by omega)
      have up0 := h.upto k (by omega)
      rw [hpd] at up up0
      have es : sm pd (k + 1) = sm pd k + pd k := rfl
      obtain ⟨N1, D1, m1, f1, f2, o1⟩ := Go.Proofs.YtoeifpeiogeenaaGreatDoor.Sr.share_op (a := A) (x := pd k) (t := t) (by omega) (by omega) tp (by unfold Fit1; omega) (R k hk)
      obtain ⟨lo, e, g1, g2⟩ := rat1_low (R k hk)
      refine ⟨N1, D1, pd k, rfl, lo, e, g1, g2, ?_, fun W => Go.Proofs.YtoeifpeiogeenaaGreatDoor.Qc.Make_any (pd k) t N1 D1 0 W (by unfold Fit1; omega) (by unfold Fit1; omega) m1, fun W => Go.Proofs.YtoeifpeiogeenaaGreatDoor.Qc.Mul_op A 1 N1 D1 (P k) (Q k) 0 W fa (by unfold Fit1; omega) f1 f2 o1⟩
      rw [← hv, Bool.eq_iff_iff, beq_iff_eq, beq_iff_eq]
      have q0 := lo.1
      constructor
      · intro z
        rw [z, Int.zero_mul] at e
        rcases Int.mul_eq_zero.1 e.symm with h | h
        · rcases Int.mul_eq_zero.1 h with h | h <;> omega
        · omega
      · intro z
        rw [z, Int.zero_mul, Int.zero_mul] at e
        rcases Int.mul_eq_zero.1 e with h | h <;> omega)
  have M0 : (M : Int) ≤ t ∧ 1 ≤ M := by omega
  have t1 : t ≤ 3068037 := by omega
  rw [hpd] at qd
  have HA := Lib.hid fa
  have HB := Lib.hid ht
  have hwz : IntKind.i64.wrap (b - a) = b - a := IntWalk.i64_in _ (by omega)
  clear h R hM hpd sumt fa
  go_enter Tryz.func14, Tryz.ntmps14
  go_upto_region 1 with fail
  generalize (w.alloc (.cells #[.string c.nm, .int .i64 c.k, .int .i64 c.d, .int .i64 c.m, .int .i64 c.s, .int .i64 c.sh, .int .i64 c.p0, .int .i64 c.p1, .int .i64 c.p2, .int .i64 c.cy, .int .i64 c.ex, .int .i64 c.fi, .int .i64 c.la, .int .i64 c.po] 24)).alloc (.cells #[.int .i64 a, .int .i64 b] 43) = W0 at *
  obtain ⟨_, c0, c1, c2, c3, c4, c5, c6, c7, c8, c9, c10, c11, c12, c13⟩ := id C
  obtain ⟨_, s0, s1, fs0, fs1⟩ := id S
  go_wp2_with fail
  refine (rlive_ok _ T).mono ?_
  rintro e w1 ⟨rfl, hb⟩
  replace C := C.kept hb
  replace B := bthen B hb
  replace T := T.kept hb
  replace S := S.kept hb
  clear hb c0 c1 c2 c3 c4 c5 c6 c7 c8 c9 c10 c11 c12 c13 s0 s1 fs0 fs1
  obtain ⟨_, c0, c1, c2, c3, c4, c5, c6, c7, c8, c9, c10, c11, c12, c13⟩ := id C
  obtain ⟨_, s0, s1, fs0, fs1⟩ := id S
  go_wp2_with fail
  refine (rbrief_any c a b _).mono ?_
  rintro e w2 ⟨r, rfl, hb, hr⟩
  replace C := C.kept hb
  replace B := bthen B hb
  replace T := T.kept hb
  replace S := S.kept hb
  clear hb c0 c1 c2 c3 c4 c5 c6 c7 c8 c9 c10 c11 c12 c13 s0 s1 fs0 fs1
  obtain ⟨_, c0, c1, c2, c3, c4, c5, c6, c7, c8, c9, c10, c11, c12, c13⟩ := id C
  obtain ⟨_, s0, s1, fs0, fs1⟩ := id S
  cases r
  · go_wp2
    go_ret
    exact ⟨by simp, B⟩
  have br := (hr rfl).2 ab bd1.1 bd1.2.1
  have M1 : M ≤ 1501 := by omega
  clear hr ht
  go_wp2_with fail
  refine (qe (by omega) _ T).mono ?_
  rintro e w3 ⟨gx, rfl, X, hg, hb⟩
  replace C := C.kept hb
  replace B := bthen B hb
  replace T := T.kept hb
  replace S := S.kept hb
  clear hb c0 c1 c2 c3 c4 c5 c6 c7 c8 c9 c10 c11 c12 c13 s0 s1 fs0 fs1
  obtain ⟨_, c0, c1, c2, c3, c4, c5, c6, c7, c8, c9, c10, c11, c12, c13⟩ := id C
  obtain ⟨_, s0, s1, fs0, fs1⟩ := id S
  clear hg
  obtain ⟨_, _, _, _, _⟩ := id X
  go_wp2_with fail
  refine (qd (by omega) _ T).mono ?_
  rintro e w4 ⟨gd, rfl, D, hg, hb⟩
  replace C := C.kept hb
  replace B := bthen B hb
  replace T := T.kept hb
  replace S := S.kept hb
  replace X := X.kept hb
  clear hb c0 c1 c2 c3 c4 c5 c6 c7 c8 c9 c10 c11 c12 c13 s0 s1 fs0 fs1
  obtain ⟨_, c0, c1, c2, c3, c4, c5, c6, c7, c8, c9, c10, c11, c12, c13⟩ := id C
  obtain ⟨_, s0, s1, fs0, fs1⟩ := id S
  obtain ⟨_, _, _, _, _⟩ := id X
  clear hg qe qd
  have M2 : (M : Int) ≤ 1501 := by omega
  have S0 := S
  have SB := Go.Proofs.YtoeifpeiogeenaaGreatDoor.Pr.Two.new w4 (.int .i64 0) (.int .i64 1) 72
  have B3 := balloc (Below.refl _ w4) (.cells #[.int .i64 0, .int .i64 1] 72)
  go_upto_region 13 with fail
  clear s0 s1 fs0 fs1
  clear c0 c1 c2 c3 c4 c5 c6 c7 c8 c9 c10 c11 c12 c13 
  generalize w4.alloc (.cells #[.int .i64 0, .int .i64 1] 72) = W3 at *
  have hbt : IntKind.i64.wrap (IntKind.i64.wrap (b - a) + 1) = t := by rw [hwz, HB.out]; exact IntWalk.i64_in _ (by omega)
  have ebt : b - a + 1 = t := HB.out
  try rw [ebt]
  obtain ⟨sb, hsb⟩ : ∃ sb, w4.heap.size = sb := ⟨_, rfl⟩
  rw [hsb] at SB ⊢
  have HS := Lib.hid hsb
  clear hsb ebt hbt
  go_wp2
  go_loopw [15, 93] (fun Z Y wr => ∃ (k : Nat) (U V : Int) (o : Bool), k ≤ M ∧ Y = .int .i64 (k : Int) ∧ Z = .bool o ∧ Below w4.heap.size w4 wr ∧ Go.Proofs.YtoeifpeiogeenaaGreatDoor.Pr.Two wr sb (.int .i64 U) (.int .i64 V) ∧ Hid (Low U V ∧ Fit1 U ∧ Fit1 V ∧ (o = true → U * t = A * sm pd k * V))) (fun _ Y _ => M - (intOf Y).toNat)
  case atStart => exact ⟨0, 0, 1, true, by omega, rfl, rfl, B3, SB, Lib.hid ⟨⟨by omega, by simp⟩, by unfold Fit1; omega, by unfold Fit1; omega, fun _ => by simp [sm]⟩⟩
  case round =>
    clear SB B3
    obtain ⟨k, U, V, o, kM, rfl, rfl, B4, SB, HU⟩ := hrel
    by_cases hlt : k < M
    · obtain ⟨N1, D1, d, hd, lo, ek, f1, f2, pv, cMk, cMl⟩ := HN.out k hlt
      obtain ⟨N2, D2, e2, R2⟩ := opres_ex (a := U) (b := V) (c := P k) (d := Q k) (n := U * Q k + P k * V) (m := V * Q k) (fun h1 h2 => low_ne h1 h2)
      have cA := fun W => Go.Proofs.YtoeifpeiogeenaaGreatDoor.Qc.Add_op U V (P k) (Q k) N2 D2 e2 W HU.out.2.1 HU.out.2.2.1 f1 f2 R2
      have cK := fun W => Go.Proofs.YtoeifpeiogeenaaGreatDoor.Qc.Check_yes (P k) (Q k) W f1 f2 lo
      have HR2 := Lib.hid R2
      have HK2 := Lib.hid (And.intro lo (And.intro ek hd))
      have XX := X.kept B4
      have p0 := XX.c0 k hlt
      have p1 := XX.c1 k hlt
      clear R2 lo ek f1 f2 XX
      obtain ⟨Pk, hPk⟩ : ∃ y, P k = y := ⟨_, rfl⟩
      obtain ⟨Qk, hQk⟩ : ∃ y, Q k = y := ⟨_, rfl⟩
      rw [hPk] at p0 pv cMl cA cK
      rw [hQk] at p1 cMl cA cK
      have HPQ := Lib.hid (And.intro hPk hQk)
      clear hPk hQk
      have kk : (k : Int) < (M : Int) := by omega
      have qv : (v != v) = false := by cases v <;> rfl
      have hv2 := hv
      have B5 := balloc B4 (.cells #[.int .i64 Pk, .int .i64 Qk] 72)
      have K := Go.Proofs.YtoeifpeiogeenaaGreatDoor.Pr.Two.new wr (.int .i64 Pk) (.int .i64 Qk) 72
      have SB5 := SB.alloc (.cells #[.int .i64 Pk, .int .i64 Qk] 72)
      go_upto_region 17 with fail
      clear p0 p1 SB
      generalize wr.alloc (.cells #[.int .i64 Pk, .int .i64 Qk] 72) = W5 at *
      generalize wr.heap.size = rb at K ⊢
      obtain ⟨_, k0, k1, fk0, fk1⟩ := id K
      go_wp2_with fail
      refine (cK _).mono ?_
      rintro e w6 ⟨rfl, hb⟩
      replace K := K.kept hb
      have B6 := bthen B5 hb
      have SB6 := SB5.kept hb
      clear hb k0 k1 fk0 fk1 B5 SB5 cK
      obtain ⟨_, k0, k1, fk0, fk1⟩ := id K
      have dc := (D.kept B6).c k hlt
      rw [hd] at dc
      go_wp2_with fail
      refine (cMk _).mono ?_
      rintro e w7 ⟨rfl, hb⟩
      replace K := (K.kept hb).alloc (.cells #[.int .i64 N1, .int .i64 D1] 72)
      have G := Go.Proofs.YtoeifpeiogeenaaGreatDoor.Pr.Two.new w7 (.int .i64 N1) (.int .i64 D1) 72
      have B7 := balloc (bthen B6 hb) (.cells #[.int .i64 N1, .int .i64 D1] 72)
      have SB7 := (SB6.kept hb).alloc (.cells #[.int .i64 N1, .int .i64 D1] 72)
      clear hb k0 k1 fk0 fk1 B6 SB6 cMk dc
      obtain ⟨_, g0, g1, fg0, fg1⟩ := id G
      go_wp2_with fail
      refine (cMl _).mono ?_
      rintro e w8 ⟨rfl, hb⟩
      replace K := (K.kept hb).alloc (.cells #[.int .i64 Pk, .int .i64 Qk] 72)
      have H := Go.Proofs.YtoeifpeiogeenaaGreatDoor.Pr.Two.new w8 (.int .i64 Pk) (.int .i64 Qk) 72
      have B8 := balloc (bthen B7 hb) (.cells #[.int .i64 Pk, .int .i64 Qk] 72)
      have SB8 := (SB7.kept hb).alloc (.cells #[.int .i64 Pk, .int .i64 Qk] 72)
      clear hb g0 g1 fg0 fg1 G B7 SB7 cMl
      go_upto_region 21 with fail
      generalize w8.alloc (.cells #[.int .i64 Pk, .int .i64 Qk] 72) = W8 at *
      obtain ⟨_, k0, k1, fk0, fk1⟩ := id K
      obtain ⟨_, h0, h1, fh0, fh1⟩ := id H
      obtain ⟨_, z0, z1, fz0, fz1⟩ := id SB8
      go_wp2_with fail
      refine (cA _).mono ?_
      rintro e w9 ⟨rfl, hb⟩
      have I := Go.Proofs.YtoeifpeiogeenaaGreatDoor.Pr.Two.new w9 (.int .i64 N2) (.int .i64 D2) 72
      have B9 := balloc (bthen B8 hb) (.cells #[.int .i64 N2, .int .i64 D2] 72)
      have SB9 := (SB8.kept hb).alloc (.cells #[.int .i64 N2, .int .i64 D2] 72)
      clear hb k0 k1 fk0 fk1 h0 h1 fh0 fh1 z0 z1 fz0 fz1 K H B8 SB8 cA
      go_upto_region 24 with fail
      generalize w9.alloc (.cells #[.int .i64 N2, .int .i64 D2] 72) = W9 at *
      obtain ⟨_, x0, x1, fx0, fx1⟩ := id I
      obtain ⟨_, z0, z1, fz0, fz1⟩ := id SB9
      by_cases E2 : e2 = 0
      · have d8 : (e2 == 0) = true := beq_iff_eq.2 E2
        have NW : Hid (Low N2 D2 ∧ Fit1 N2 ∧ Fit1 D2 ∧ (o = true → N2 * t = A * sm pd (k + 1) * D2)) := Lib.hid (by
          have r2 := HR2.out
          rw [E2] at r2
          obtain ⟨l1, l2, l3, e3, f1, f2⟩ := opres_ok r2
          refine ⟨l3, f1, f2, fun ho => ?_⟩
          have e4 := HK2.out.2.1
          rw [← HK2.out.2.2] at e4
          have := Go.Proofs.YtoeifpeiogeenaaGreatDoor.Sl.sum_more HT.out.1 l1 l2 (HU.out.2.2.2 ho) e4 e3
          rw [this]; rfl)
        have B10 := bset (bset B9 (g := sb) (by rw [HS.out]; exact Nat.le_refl _) 0 (.int .i64 N2)) (g := sb) (by rw [HS.out]; exact Nat.le_refl _) 1 (.int .i64 D2)
        have SBn := (SB9.set0 (.int .i64 N2)).set1 (.int .i64 D2)
        clear B9 SB9 I E2
        go_wp2
        go_roundw
        case rel => exact ⟨k + 1, N2, D2, o, by omega, by go_num, rfl, B10, SBn, NW⟩
        case measure => simp [intOf]; omega
      · have d8 : (e2 == 0) = false := beq_eq_false_iff_ne.2 E2
        have NW : Hid (Low U V ∧ Fit1 U ∧ Fit1 V ∧ (false = true → U * t = A * sm pd (k + 1) * V)) := Lib.hid ⟨HU.out.1, HU.out.2.1, HU.out.2.2.1, fun h => by cases h⟩
        clear E2
        go_wp2
        go_roundw
        case rel => exact ⟨k + 1, U, V, false, by omega, by go_num, rfl, B9, SB9, NW⟩
        case measure => simp [intOf]; omega
    · obtain rfl : k = M := by omega
      have kk : decide ((k : Int) < (k : Int)) = false := decide_eq_false (by omega)
      obtain ⟨lo, _, _, he⟩ := HU.out
      cases o
      · obtain ⟨_, z0, z1, fz0, fz1⟩ := id SB
        go_wp2
        go_ret
        exact ⟨by simp, bthen B B4⟩
      · have he := he rfl
        rw [HT.out.2] at he
        obtain ⟨rfl, rfl⟩ := Go.Proofs.YtoeifpeiogeenaaGreatDoor.Sl.whole_low HT.out.1 lo he
        obtain ⟨_, z0, z1, fz0, fz1⟩ := id SB
        clear he lo
        go_wp2
        go_ret
        exact ⟨by simp, bthen B B4⟩

theorem rex_walk (c : CalZ) (L A a b : Int) (w : World) (wf : CalWf c) (wL : (Lit.int .i64 L).wf = true) (wA : (Lit.int .i64 A).wf = true) (w1 : (Lit.int .i64 a).wf = true) (w2 : (Lit.int .i64 b).wf = true) (tb : FTab w) :
    Calls Tryz.prog 14 #[.agg #[.string c.nm, .int .i64 c.k, .int .i64 c.d, .int .i64 c.m, .int .i64 c.s, .int .i64 c.sh, .int .i64 c.p0, .int .i64 c.p1, .int .i64 c.p2, .int .i64 c.cy, .int .i64 c.ex, .int .i64 c.fi, .int .i64 c.la, .int .i64 c.po], .int .i64 L, .int .i64 A, .agg #[.int .i64 a, .int .i64 b]] w fun e w' => e = .returned (.bool true) ∧ Below w.heap.size w w' := by
  obtain ⟨z, hz⟩ : ∃ z, IntKind.i64.wrap (b - a) = z := ⟨_, rfl⟩
  by_cases q : L = 5 ∧ 300 < z
  · exact rex_out c L A a b z w tb hz (beq_iff_eq.2 q.1) (decide_eq_true q.2)
  have O : (L == 5) = false ∨ ((L == 5) = true ∧ decide (300 < z) = false) := by
    by_cases l : L = 5
    · exact .inr ⟨beq_iff_eq.2 l, decide_eq_false (fun x => q ⟨l, x⟩)⟩
    · exact .inl (beq_eq_false_iff_ne.2 l)
  have fa := bounds_i64 wA
  rcases cut_ex c L a b with ⟨er, ne, R⟩ | ⟨y0, i0, y, n, N, h⟩
  · exact rex_er c L A a b z er w tb wf.1 hz O R ne
  have bd := h.bd
  have ab := h.ab
  rcases exact_ex A (b - a + 1) (pday c L a b (y0, i0)) (N + 1) (by omega) with ⟨P, Q, R⟩ | ⟨k0, P, Q, hk, R, RE⟩
  · have hz2 : z = b - a := by rw [← hz]; exact IntWalk.i64_in _ (by omega)
    subst hz2
    rcases O with l | ⟨l, l2⟩
    · exact rex_ok1 c L A a b y0 i0 y n N (N + 1) P Q w tb wf.1 fa h rfl R l
    · exact rex_ok2 c L A a b y0 i0 y n N (N + 1) P Q w tb wf.1 fa h rfl R l l2
  · exact rex_over c L A a b z y0 i0 y n N (N + 1) k0 P Q w tb wf.1 fa hz O h rfl hk R RE

end Go.Proofs.YtoeifpeiogeenaaGreatDoor.Pl
