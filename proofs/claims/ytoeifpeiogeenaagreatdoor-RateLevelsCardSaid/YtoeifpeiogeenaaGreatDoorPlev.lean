/- RateLevels' walk. -/
import Derived.Test.YtoeifpeiogeenaaGreatDoorPlive
import Derived.Test.YtoeifpeiogeenaaGreatDoorPnest
import Derived.Test.YtoeifpeiogeenaaGreatDoorIcode8
namespace Go.Proofs.YtoeifpeiogeenaaGreatDoor.Pl
set_option linter.unusedSimpArgs false
set_option linter.unusedVariables false
open Go.RowKit Go.Proofs.YtoeifpeiogeenaaGreatDoor.Bn Go.Proofs.YtoeifpeiogeenaaGreatDoor.Bx Go.Proofs.YtoeifpeiogeenaaGreatDoor.Cp Go.Proofs.YtoeifpeiogeenaaGreatDoor.Am Go.Proofs.YtoeifpeiogeenaaGreatDoor.Fp Go.Proofs.YtoeifpeiogeenaaGreatDoor.Ap Go.Proofs.YtoeifpeiogeenaaGreatDoor.Cm Go.Proofs.YtoeifpeiogeenaaGreatDoor.Em Go.Proofs.YtoeifpeiogeenaaGreatDoor.Ep Go.Proofs.YtoeifpeiogeenaaGreatDoor.Rk Go.Proofs.YtoeifpeiogeenaaGreatDoor.Hp Go.Proofs.YtoeifpeiogeenaaGreatDoor.Ip Go.Proofs.YtoeifpeiogeenaaGreatDoor.Jp Go.Proofs.YtoeifpeiogeenaaGreatDoor.Dp Go.Proofs.YtoeifpeiogeenaaGreatDoor.Pp
open Go.Proofs.YtoeifpeiogeenaaGreatDoor.Sm (IsSplit sm)
open Go.Proofs.YtoeifpeiogeenaaGreatDoor.Vm (Fit1)

set_option maxHeartbeats 8000000

def NestV (P Q : Nat → Int) (M k : Nat) (A B : Value) : Prop := ∃ (t : Nat) (s : Int), t < M ∧ A = .int .i64 (t : Int) ∧ B = .int .i64 s ∧ NestAt P Q k t s
theorem unit_neq (a b c a' b' c' : Int) (w : World) :
    (binOp .neq 26 (.agg #[.int .i64 a, .int .i64 b, .int .i64 c]) (.agg #[.int .i64 a', .int .i64 b', .int .i64 c'])).run Tryz.prog w = .ok (.bool (!decide (a = a' ∧ b = b' ∧ c = c'))) w := by
  by_cases h1 : a = a'
  · by_cases h2 : b = b'
    · by_cases h3 : c = c'
      · subst h1 h2 h3; simp [go_sem]
      · simp [go_sem, h1, h2, h3]
    · simp [go_sem, h1, h2]
  · simp [go_sem, h1]

set_option maxRecDepth 100000 in
theorem rlev_out (c : CalZ) (L F a b : Int) (w : World) (tb : FTab w) (dl : decide (F < L) = true) :
    Calls Tryz.prog 13 #[.agg #[.string c.nm, .int .i64 c.k, .int .i64 c.d, .int .i64 c.m, .int .i64 c.s, .int .i64 c.sh, .int .i64 c.p0, .int .i64 c.p1, .int .i64 c.p2, .int .i64 c.cy, .int .i64 c.ex, .int .i64 c.fi, .int .i64 c.la, .int .i64 c.po], .int .i64 L, .int .i64 F, .agg #[.int .i64 a, .int .i64 b]] w fun e w' => e = .returned (.bool true) ∧ Below w.heap.size w w' := by
  have C := CalIn.new w c 24
  have S := Go.Proofs.YtoeifpeiogeenaaGreatDoor.Pr.Two.new (w.alloc (.cells #[.string c.nm, .int .i64 c.k, .int .i64 c.d, .int .i64 c.m, .int .i64 c.s, .int .i64 c.sh, .int .i64 c.p0, .int .i64 c.p1, .int .i64 c.p2, .int .i64 c.cy, .int .i64 c.ex, .int .i64 c.fi, .int .i64 c.la, .int .i64 c.po] 24)) (.int .i64 a) (.int .i64 b) 43
  rw [World.size_alloc] at S
  replace C := C.alloc (.cells #[.int .i64 a, .int .i64 b] 43)
  have B := balloc (balloc (Below.refl _ w) (.cells #[.string c.nm, .int .i64 c.k, .int .i64 c.d, .int .i64 c.m, .int .i64 c.s, .int .i64 c.sh, .int .i64 c.p0, .int .i64 c.p1, .int .i64 c.p2, .int .i64 c.cy, .int .i64 c.ex, .int .i64 c.fi, .int .i64 c.la, .int .i64 c.po] 24)) (.cells #[.int .i64 a, .int .i64 b] 43)
  have T := (tb.alloc (.cells #[.string c.nm, .int .i64 c.k, .int .i64 c.d, .int .i64 c.m, .int .i64 c.s, .int .i64 c.sh, .int .i64 c.p0, .int .i64 c.p1, .int .i64 c.p2, .int .i64 c.cy, .int .i64 c.ex, .int .i64 c.fi, .int .i64 c.la, .int .i64 c.po] 24)).alloc (.cells #[.int .i64 a, .int .i64 b] 43)
  go_enter Tryz.func13, Tryz.ntmps13
  go_upto_region 1 with fail
  generalize (w.alloc (.cells #[.string c.nm, .int .i64 c.k, .int .i64 c.d, .int .i64 c.m, .int .i64 c.s, .int .i64 c.sh, .int .i64 c.p0, .int .i64 c.p1, .int .i64 c.p2, .int .i64 c.cy, .int .i64 c.ex, .int .i64 c.fi, .int .i64 c.la, .int .i64 c.po] 24)).alloc (.cells #[.int .i64 a, .int .i64 b] 43) = W0 at *
  obtain ⟨_, c0, c1, c2, c3, c4, c5, c6, c7, c8, c9, c10, c11, c12, c13⟩ := id C
  obtain ⟨_, s0, s1, fs0, fs1⟩ := id S
  go_wp2_with fail
  refine (rlive_ok _ T).mono ?_
  rintro e w1 ⟨rfl, hb⟩
  replace C := C.kept hb
  replace B := bthen B hb
  replace T := T.kept hb
  replace S := S.kept hb
  clear hb c0 c1 c2 c3 c4 c5 c6 c7 c8 c9 c10 c11 c12 c13 s0 s1 fs0 fs1
  obtain ⟨_, c0, c1, c2, c3, c4, c5, c6, c7, c8, c9, c10, c11, c12, c13⟩ := id C
  obtain ⟨_, s0, s1, fs0, fs1⟩ := id S
  go_wp2_with fail
  refine (rbrief_any c a b _).mono ?_
  rintro e w2 ⟨r, rfl, hb, hr⟩
  replace C := C.kept hb
  replace B := bthen B hb
  replace T := T.kept hb
  replace S := S.kept hb
  clear hb c0 c1 c2 c3 c4 c5 c6 c7 c8 c9 c10 c11 c12 c13 s0 s1 fs0 fs1
  obtain ⟨_, c0, c1, c2, c3, c4, c5, c6, c7, c8, c9, c10, c11, c12, c13⟩ := id C
  obtain ⟨_, s0, s1, fs0, fs1⟩ := id S
  cases r
  · go_wp2
    go_ret
    exact ⟨by simp, B⟩
  clear hr
  go_wp2
  go_ret
  exact ⟨by simp, B⟩

set_option maxRecDepth 100000 in
theorem rlev_ee (c : CalZ) (L F a b er er2 : Int) (w : World) (tb : FTab w) (hm : c.nm.size ≤ maxLen) (dl : decide (F < L) = false) (R : MeetsA c L a b er) (ne : er ≠ 0) (R2 : MeetsA c F a b er2) (ne2 : er2 ≠ 0) :
    Calls Tryz.prog 13 #[.agg #[.string c.nm, .int .i64 c.k, .int .i64 c.d, .int .i64 c.m, .int .i64 c.s, .int .i64 c.sh, .int .i64 c.p0, .int .i64 c.p1, .int .i64 c.p2, .int .i64 c.cy, .int .i64 c.ex, .int .i64 c.fi, .int .i64 c.la, .int .i64 c.po], .int .i64 L, .int .i64 F, .agg #[.int .i64 a, .int .i64 b]] w fun e w' => e = .returned (.bool true) ∧ Below w.heap.size w w' := by
  have C := CalIn.new w c 24
  have S := Go.Proofs.YtoeifpeiogeenaaGreatDoor.Pr.Two.new (w.alloc (.cells #[.string c.nm, .int .i64 c.k, .int .i64 c.d, .int .i64 c.m, .int .i64 c.s, .int .i64 c.sh, .int .i64 c.p0, .int .i64 c.p1, .int .i64 c.p2, .int .i64 c.cy, .int .i64 c.ex, .int .i64 c.fi, .int .i64 c.la, .int .i64 c.po] 24)) (.int .i64 a) (.int .i64 b) 43
  rw [World.size_alloc] at S
  replace C := C.alloc (.cells #[.int .i64 a, .int .i64 b] 43)
  have B := balloc (balloc (Below.refl _ w) (.cells #[.string c.nm, .int .i64 c.k, .int .i64 c.d, .int .i64 c.m, .int .i64 c.s, .int .i64 c.sh, .int .i64 c.p0, .int .i64 c.p1, .int .i64 c.p2, .int .i64 c.cy, .int .i64 c.ex, .int .i64 c.fi, .int .i64 c.la, .int .i64 c.po] 24)) (.cells #[.int .i64 a, .int .i64 b] 43)
  have T := (tb.alloc (.cells #[.string c.nm, .int .i64 c.k, .int .i64 c.d, .int .i64 c.m, .int .i64 c.s, .int .i64 c.sh, .int .i64 c.p0, .int .i64 c.p1, .int .i64 c.p2, .int .i64 c.cy, .int .i64 c.ex, .int .i64 c.fi, .int .i64 c.la, .int .i64 c.po] 24)).alloc (.cells #[.int .i64 a, .int .i64 b] 43)
  have qd1 := fun w T => Days_er c L a b er w R ne hm T
  have qm1 := fun w T => Meets_er c L a b er w R hm T
  have n1 : (er != 0) = true := bne_iff_ne.2 ne
  have n2 : (er == er) = true := beq_self_eq_true er
  have qd2 := fun w T => Days_er c F a b er2 w R2 ne2 hm T
  have qm2 := fun w T => Meets_er c F a b er2 w R2 hm T
  have n3 : (er2 != 0) = true := bne_iff_ne.2 ne2
  have n4 : (er2 == er2) = true := beq_self_eq_true er2
  clear R ne R2 ne2
  go_enter Tryz.func13, Tryz.ntmps13
  go_upto_region 1 with fail
  generalize (w.alloc (.cells #[.string c.nm, .int .i64 c.k, .int .i64 c.d, .int .i64 c.m, .int .i64 c.s, .int .i64 c.sh, .int .i64 c.p0, .int .i64 c.p1, .int .i64 c.p2, .int .i64 c.cy, .int .i64 c.ex, .int .i64 c.fi, .int .i64 c.la, .int .i64 c.po] 24)).alloc (.cells #[.int .i64 a, .int .i64 b] 43) = W0 at *
  obtain ⟨_, c0, c1, c2, c3, c4, c5, c6, c7, c8, c9, c10, c11, c12, c13⟩ := id C
  obtain ⟨_, s0, s1, fs0, fs1⟩ := id S
  go_wp2_with fail
  refine (rlive_ok _ T).mono ?_
  rintro e w1 ⟨rfl, hb⟩
  replace C := C.kept hb
  replace B := bthen B hb
  replace T := T.kept hb
  replace S := S.kept hb
  clear hb c0 c1 c2 c3 c4 c5 c6 c7 c8 c9 c10 c11 c12 c13 s0 s1 fs0 fs1
  obtain ⟨_, c0, c1, c2, c3, c4, c5, c6, c7, c8, c9, c10, c11, c12, c13⟩ := id C
  obtain ⟨_, s0, s1, fs0, fs1⟩ := id S
  go_wp2_with fail
  refine (rbrief_any c a b _).mono ?_
  rintro e w2 ⟨r, rfl, hb, hr⟩
  replace C := C.kept hb
  replace B := bthen B hb
  replace T := T.kept hb
  replace S := S.kept hb
  clear hb c0 c1 c2 c3 c4 c5 c6 c7 c8 c9 c10 c11 c12 c13 s0 s1 fs0 fs1
  obtain ⟨_, c0, c1, c2, c3, c4, c5, c6, c7, c8, c9, c10, c11, c12, c13⟩ := id C
  obtain ⟨_, s0, s1, fs0, fs1⟩ := id S
  cases r
  · go_wp2
    go_ret
    exact ⟨by simp, B⟩
  clear hr
  go_wp2_with fail
  refine (qd1 _ T).mono ?_
  rintro e w3 ⟨rfl, hb⟩
  replace C := C.kept hb
  replace B := bthen B hb
  replace T := T.kept hb
  replace S := S.kept hb
  clear hb c0 c1 c2 c3 c4 c5 c6 c7 c8 c9 c10 c11 c12 c13 s0 s1 fs0 fs1
  obtain ⟨_, c0, c1, c2, c3, c4, c5, c6, c7, c8, c9, c10, c11, c12, c13⟩ := id C
  obtain ⟨_, s0, s1, fs0, fs1⟩ := id S
  go_wp2_with fail
  refine (qm1 _ T).mono ?_
  rintro e w4 ⟨rfl, hb⟩
  replace C := C.kept hb
  replace B := bthen B hb
  replace T := T.kept hb
  replace S := S.kept hb
  clear hb c0 c1 c2 c3 c4 c5 c6 c7 c8 c9 c10 c11 c12 c13 s0 s1 fs0 fs1
  obtain ⟨_, c0, c1, c2, c3, c4, c5, c6, c7, c8, c9, c10, c11, c12, c13⟩ := id C
  obtain ⟨_, s0, s1, fs0, fs1⟩ := id S
  go_wp2_with fail
  refine (qd2 _ T).mono ?_
  rintro e w5 ⟨rfl, hb⟩
  replace C := C.kept hb
  replace B := bthen B hb
  replace T := T.kept hb
  replace S := S.kept hb
  clear hb c0 c1 c2 c3 c4 c5 c6 c7 c8 c9 c10 c11 c12 c13 s0 s1 fs0 fs1
  obtain ⟨_, c0, c1, c2, c3, c4, c5, c6, c7, c8, c9, c10, c11, c12, c13⟩ := id C
  obtain ⟨_, s0, s1, fs0, fs1⟩ := id S
  go_wp2_with fail
  refine (qm2 _ T).mono ?_
  rintro e w6 ⟨rfl, hb⟩
  replace C := C.kept hb
  replace B := bthen B hb
  replace T := T.kept hb
  replace S := S.kept hb
  clear hb c0 c1 c2 c3 c4 c5 c6 c7 c8 c9 c10 c11 c12 c13 s0 s1 fs0 fs1
  obtain ⟨_, c0, c1, c2, c3, c4, c5, c6, c7, c8, c9, c10, c11, c12, c13⟩ := id C
  obtain ⟨_, s0, s1, fs0, fs1⟩ := id S
  go_wp2
  go_ret
  exact ⟨by simp, B⟩

set_option maxRecDepth 100000 in
theorem rlev_eo (c : CalZ) (L F a b er z0 j0 z m : Int) (N2 K : Nat) (w : World) (tb : FTab w) (hm : c.nm.size ≤ maxLen) (dl : decide (F < L) = false) (R : MeetsA c L a b er) (ne : er ≠ 0) (g : Cut c F a b z0 j0 z m N2) (hK : N2 + 1 = K) :
    Calls Tryz.prog 13 #[.agg #[.string c.nm, .int .i64 c.k, .int .i64 c.d, .int .i64 c.m, .int .i64 c.s, .int .i64 c.sh, .int .i64 c.p0, .int .i64 c.p1, .int .i64 c.p2, .int .i64 c.cy, .int .i64 c.ex, .int .i64 c.fi, .int .i64 c.la, .int .i64 c.po], .int .i64 L, .int .i64 F, .agg #[.int .i64 a, .int .i64 b]] w fun e w' => e = .returned (.bool true) ∧ Below w.heap.size w w' := by
  have C := CalIn.new w c 24
  have S := Go.Proofs.YtoeifpeiogeenaaGreatDoor.Pr.Two.new (w.alloc (.cells #[.string c.nm, .int .i64 c.k, .int .i64 c.d, .int .i64 c.m, .int .i64 c.s, .int .i64 c.sh, .int .i64 c.p0, .int .i64 c.p1, .int .i64 c.p2, .int .i64 c.cy, .int .i64 c.ex, .int .i64 c.fi, .int .i64 c.la, .int .i64 c.po] 24)) (.int .i64 a) (.int .i64 b) 43
  rw [World.size_alloc] at S
  replace C := C.alloc (.cells #[.int .i64 a, .int .i64 b] 43)
  have B := balloc (balloc (Below.refl _ w) (.cells #[.string c.nm, .int .i64 c.k, .int .i64 c.d, .int .i64 c.m, .int .i64 c.s, .int .i64 c.sh, .int .i64 c.p0, .int .i64 c.p1, .int .i64 c.p2, .int .i64 c.cy, .int .i64 c.ex, .int .i64 c.fi, .int .i64 c.la, .int .i64 c.po] 24)) (.cells #[.int .i64 a, .int .i64 b] 43)
  have T := (tb.alloc (.cells #[.string c.nm, .int .i64 c.k, .int .i64 c.d, .int .i64 c.m, .int .i64 c.s, .int .i64 c.sh, .int .i64 c.p0, .int .i64 c.p1, .int .i64 c.p2, .int .i64 c.cy, .int .i64 c.ex, .int .i64 c.fi, .int .i64 c.la, .int .i64 c.po] 24)).alloc (.cells #[.int .i64 a, .int .i64 b] 43)
  have qd1 := fun w T => Days_er c L a b er w R ne hm T
  have qm1 := fun w T => Meets_er c L a b er w R hm T
  have n1 : (er != 0) = true := bne_iff_ne.2 ne
  have n2 : (er == er) = true := beq_self_eq_true er
  have qd2 := fun (M1 : K ≤ 1000000) w T => Days_ok c F a b z0 j0 z m N2 K w g hK M1 hm T
  have qm2 := fun w T => Meets_ok c F a b z0 j0 z m N2 w g.way g.da g.db g.ab hm T
  rw [hK] at qm2
  have bd2 := g.bd
  have ab2 := g.ab
  have K0 : (K : Int) ≤ b - a + 1 := by omega
  clear R ne g hK
  go_enter Tryz.func13, Tryz.ntmps13
  go_upto_region 1 with fail
  generalize (w.alloc (.cells #[.string c.nm, .int .i64 c.k, .int .i64 c.d, .int .i64 c.m, .int .i64 c.s, .int .i64 c.sh, .int .i64 c.p0, .int .i64 c.p1, .int .i64 c.p2, .int .i64 c.cy, .int .i64 c.ex, .int .i64 c.fi, .int .i64 c.la, .int .i64 c.po] 24)).alloc (.cells #[.int .i64 a, .int .i64 b] 43) = W0 at *
  obtain ⟨_, c0, c1, c2, c3, c4, c5, c6, c7, c8, c9, c10, c11, c12, c13⟩ := id C
  obtain ⟨_, s0, s1, fs0, fs1⟩ := id S
  go_wp2_with fail
  refine (rlive_ok _ T).mono ?_
  rintro e w1 ⟨rfl, hb⟩
  replace C := C.kept hb
  replace B := bthen B hb
  replace T := T.kept hb
  replace S := S.kept hb
  clear hb c0 c1 c2 c3 c4 c5 c6 c7 c8 c9 c10 c11 c12 c13 s0 s1 fs0 fs1
  obtain ⟨_, c0, c1, c2, c3, c4, c5, c6, c7, c8, c9, c10, c11, c12, c13⟩ := id C
  obtain ⟨_, s0, s1, fs0, fs1⟩ := id S
  go_wp2_with fail
  refine (rbrief_any c a b _).mono ?_
  rintro e w2 ⟨r, rfl, hb, hr⟩
  replace C := C.kept hb
  replace B := bthen B hb
  replace T := T.kept hb
  replace S := S.kept hb
  clear hb c0 c1 c2 c3 c4 c5 c6 c7 c8 c9 c10 c11 c12 c13 s0 s1 fs0 fs1
  obtain ⟨_, c0, c1, c2, c3, c4, c5, c6, c7, c8, c9, c10, c11, c12, c13⟩ := id C
  obtain ⟨_, s0, s1, fs0, fs1⟩ := id S
  cases r
  · go_wp2
    go_ret
    exact ⟨by simp, B⟩
  have br := (hr rfl).2 ab2 bd2.1 bd2.2.1
  clear hr
  have K1 : K ≤ 1501 := by omega
  go_wp2_with fail
  refine (qd1 _ T).mono ?_
  rintro e w3 ⟨rfl, hb⟩
  replace C := C.kept hb
  replace B := bthen B hb
  replace T := T.kept hb
  replace S := S.kept hb
  clear hb c0 c1 c2 c3 c4 c5 c6 c7 c8 c9 c10 c11 c12 c13 s0 s1 fs0 fs1
  obtain ⟨_, c0, c1, c2, c3, c4, c5, c6, c7, c8, c9, c10, c11, c12, c13⟩ := id C
  obtain ⟨_, s0, s1, fs0, fs1⟩ := id S
  go_wp2_with fail
  refine (qm1 _ T).mono ?_
  rintro e w4 ⟨rfl, hb⟩
  replace C := C.kept hb
  replace B := bthen B hb
  replace T := T.kept hb
  replace S := S.kept hb
  clear hb c0 c1 c2 c3 c4 c5 c6 c7 c8 c9 c10 c11 c12 c13 s0 s1 fs0 fs1
  obtain ⟨_, c0, c1, c2, c3, c4, c5, c6, c7, c8, c9, c10, c11, c12, c13⟩ := id C
  obtain ⟨_, s0, s1, fs0, fs1⟩ := id S
  go_wp2_with fail
  refine (qd2 (by omega) _ T).mono ?_
  rintro e w5 ⟨gd2, rfl, D2, hg, hb⟩
  replace C := C.kept hb
  replace B := bthen B hb
  replace T := T.kept hb
  replace S := S.kept hb
  clear hb c0 c1 c2 c3 c4 c5 c6 c7 c8 c9 c10 c11 c12 c13 s0 s1 fs0 fs1
  obtain ⟨_, c0, c1, c2, c3, c4, c5, c6, c7, c8, c9, c10, c11, c12, c13⟩ := id C
  obtain ⟨_, s0, s1, fs0, fs1⟩ := id S
  obtain ⟨_, _, _⟩ := id D2
  clear hg
  go_wp2_with fail
  refine (qm2 _ T).mono ?_
  rintro e w6 ⟨gu2, cap2, rfl, R2, hg, hb, hcap⟩
  replace C := C.kept hb
  replace B := bthen B hb
  replace T := T.kept hb
  replace S := S.kept hb
  replace D2 := D2.kept hb
  clear hb c0 c1 c2 c3 c4 c5 c6 c7 c8 c9 c10 c11 c12 c13 s0 s1 fs0 fs1
  obtain ⟨_, c0, c1, c2, c3, c4, c5, c6, c7, c8, c9, c10, c11, c12, c13⟩ := id C
  obtain ⟨_, s0, s1, fs0, fs1⟩ := id S
  obtain ⟨_, _, _⟩ := id D2
  rw [ulist_len]
  clear hg hcap
  go_wp2
  go_ret
  exact ⟨by simp, B⟩

set_option maxRecDepth 100000 in
theorem rlev_oe (c : CalZ) (L F a b er2 y0 i0 y n : Int) (N M : Nat) (w : World) (tb : FTab w) (hm : c.nm.size ≤ maxLen) (dl : decide (F < L) = false) (R2 : MeetsA c F a b er2) (ne2 : er2 ≠ 0) (h : Cut c L a b y0 i0 y n N) (hM : N + 1 = M) :
    Calls Tryz.prog 13 #[.agg #[.string c.nm, .int .i64 c.k, .int .i64 c.d, .int .i64 c.m, .int .i64 c.s, .int .i64 c.sh, .int .i64 c.p0, .int .i64 c.p1, .int .i64 c.p2, .int .i64 c.cy, .int .i64 c.ex, .int .i64 c.fi, .int .i64 c.la, .int .i64 c.po], .int .i64 L, .int .i64 F, .agg #[.int .i64 a, .int .i64 b]] w fun e w' => e = .returned (.bool true) ∧ Below w.heap.size w w' := by
  have C := CalIn.new w c 24
  have S := Go.Proofs.YtoeifpeiogeenaaGreatDoor.Pr.Two.new (w.alloc (.cells #[.string c.nm, .int .i64 c.k, .int .i64 c.d, .int .i64 c.m, .int .i64 c.s, .int .i64 c.sh, .int .i64 c.p0, .int .i64 c.p1, .int .i64 c.p2, .int .i64 c.cy, .int .i64 c.ex, .int .i64 c.fi, .int .i64 c.la, .int .i64 c.po] 24)) (.int .i64 a) (.int .i64 b) 43
  rw [World.size_alloc] at S
  replace C := C.alloc (.cells #[.int .i64 a, .int .i64 b] 43)
  have B := balloc (balloc (Below.refl _ w) (.cells #[.string c.nm, .int .i64 c.k, .int .i64 c.d, .int .i64 c.m, .int .i64 c.s, .int .i64 c.sh, .int .i64 c.p0, .int .i64 c.p1, .int .i64 c.p2, .int .i64 c.cy, .int .i64 c.ex, .int .i64 c.fi, .int .i64 c.la, .int .i64 c.po] 24)) (.cells #[.int .i64 a, .int .i64 b] 43)
  have T := (tb.alloc (.cells #[.string c.nm, .int .i64 c.k, .int .i64 c.d, .int .i64 c.m, .int .i64 c.s, .int .i64 c.sh, .int .i64 c.p0, .int .i64 c.p1, .int .i64 c.p2, .int .i64 c.cy, .int .i64 c.ex, .int .i64 c.fi, .int .i64 c.la, .int .i64 c.po] 24)).alloc (.cells #[.int .i64 a, .int .i64 b] 43)
  have qd1 := fun (M1 : M ≤ 1000000) w T => Days_ok c L a b y0 i0 y n N M w h hM M1 hm T
  have qm1 := fun w T => Meets_ok c L a b y0 i0 y n N w h.way h.da h.db h.ab hm T
  rw [hM] at qm1
  have bd1 := h.bd
  have ab := h.ab
  have qd2 := fun w T => Days_er c F a b er2 w R2 ne2 hm T
  have qm2 := fun w T => Meets_er c F a b er2 w R2 hm T
  have n3 : (er2 != 0) = true := bne_iff_ne.2 ne2
  have n4 : (er2 == er2) = true := beq_self_eq_true er2
  have M0 : (M : Int) ≤ b - a + 1 := by omega
  clear R2 ne2 h hM
  go_enter Tryz.func13, Tryz.ntmps13
  go_upto_region 1 with fail
  generalize (w.alloc (.cells #[.string c.nm, .int .i64 c.k, .int .i64 c.d, .int .i64 c.m, .int .i64 c.s, .int .i64 c.sh, .int .i64 c.p0, .int .i64 c.p1, .int .i64 c.p2, .int .i64 c.cy, .int .i64 c.ex, .int .i64 c.fi, .int .i64 c.la, .int .i64 c.po] 24)).alloc (.cells #[.int .i64 a, .int .i64 b] 43) = W0 at *
  obtain ⟨_, c0, c1, c2, c3, c4, c5, c6, c7, c8, c9, c10, c11, c12, c13⟩ := id C
  obtain ⟨_, s0, s1, fs0, fs1⟩ := id S
  go_wp2_with fail
  refine (rlive_ok _ T).mono ?_
  rintro e w1 ⟨rfl, hb⟩
  replace C := C.kept hb
  replace B := bthen B hb
  replace T := T.kept hb
  replace S := S.kept hb
  clear hb c0 c1 c2 c3 c4 c5 c6 c7 c8 c9 c10 c11 c12 c13 s0 s1 fs0 fs1
  obtain ⟨_, c0, c1, c2, c3, c4, c5, c6, c7, c8, c9, c10, c11, c12, c13⟩ := id C
  obtain ⟨_, s0, s1, fs0, fs1⟩ := id S
  go_wp2_with fail
  refine (rbrief_any c a b _).mono ?_
  rintro e w2 ⟨r, rfl, hb, hr⟩
  replace C := C.kept hb
  replace B := bthen B hb
  replace T := T.kept hb
  replace S := S.kept hb
  clear hb c0 c1 c2 c3 c4 c5 c6 c7 c8 c9 c10 c11 c12 c13 s0 s1 fs0 fs1
  obtain ⟨_, c0, c1, c2, c3, c4, c5, c6, c7, c8, c9, c10, c11, c12, c13⟩ := id C
  obtain ⟨_, s0, s1, fs0, fs1⟩ := id S
  cases r
  · go_wp2
    go_ret
    exact ⟨by simp, B⟩
  have br := (hr rfl).2 ab bd1.1 bd1.2.1
  clear hr
  have M1 : M ≤ 1501 := by omega
  go_wp2_with fail
  refine (qd1 (by omega) _ T).mono ?_
  rintro e w3 ⟨gd, rfl, D, hg, hb⟩
  replace C := C.kept hb
  replace B := bthen B hb
  replace T := T.kept hb
  replace S := S.kept hb
  clear hb c0 c1 c2 c3 c4 c5 c6 c7 c8 c9 c10 c11 c12 c13 s0 s1 fs0 fs1
  obtain ⟨_, c0, c1, c2, c3, c4, c5, c6, c7, c8, c9, c10, c11, c12, c13⟩ := id C
  obtain ⟨_, s0, s1, fs0, fs1⟩ := id S
  obtain ⟨_, _, _⟩ := id D
  clear hg
  go_wp2_with fail
  refine (qm1 _ T).mono ?_
  rintro e w4 ⟨gu, cap, rfl, R1, hg, hb, hcap⟩
  replace C := C.kept hb
  replace B := bthen B hb
  replace T := T.kept hb
  replace S := S.kept hb
  replace D := D.kept hb
  clear hb c0 c1 c2 c3 c4 c5 c6 c7 c8 c9 c10 c11 c12 c13 s0 s1 fs0 fs1
  obtain ⟨_, c0, c1, c2, c3, c4, c5, c6, c7, c8, c9, c10, c11, c12, c13⟩ := id C
  obtain ⟨_, s0, s1, fs0, fs1⟩ := id S
  obtain ⟨_, _, _⟩ := id D
  rw [ulist_len]
  obtain ⟨_, _⟩ := id R1
  clear hg hcap
  go_wp2_with fail
  refine (qd2 _ T).mono ?_
  rintro e w5 ⟨rfl, hb⟩
  replace C := C.kept hb
  replace B := bthen B hb
  replace T := T.kept hb
  replace S := S.kept hb
  replace D := D.kept hb
  replace R1 := R1.kept hb
  clear hb c0 c1 c2 c3 c4 c5 c6 c7 c8 c9 c10 c11 c12 c13 s0 s1 fs0 fs1
  obtain ⟨_, c0, c1, c2, c3, c4, c5, c6, c7, c8, c9, c10, c11, c12, c13⟩ := id C
  obtain ⟨_, s0, s1, fs0, fs1⟩ := id S
  obtain ⟨_, _, _⟩ := id D
  obtain ⟨_, _⟩ := id R1
  go_wp2_with fail
  refine (qm2 _ T).mono ?_
  rintro e w6 ⟨rfl, hb⟩
  replace C := C.kept hb
  replace B := bthen B hb
  replace T := T.kept hb
  replace S := S.kept hb
  replace D := D.kept hb
  replace R1 := R1.kept hb
  clear hb c0 c1 c2 c3 c4 c5 c6 c7 c8 c9 c10 c11 c12 c13 s0 s1 fs0 fs1
  obtain ⟨_, c0, c1, c2, c3, c4, c5, c6, c7, c8, c9, c10, c11, c12, c13⟩ := id C
  obtain ⟨_, s0, s1, fs0, fs1⟩ := id S
  obtain ⟨_, _, _⟩ := id D
  obtain ⟨_, _⟩ := id R1
  go_wp2
  go_ret
  exact ⟨by simp, B⟩

set_option maxRecDepth 100000 in
theorem rlev_ok (c : CalZ) (L F a b y0 i0 y n z0 j0 z m : Int) (N M N2 K : Nat) (w : World) (tb : FTab w) (hm : c.nm.size ≤ maxLen) (dl : decide (F < L) = false) (h : Cut c L a b y0 i0 y n N) (hM : N + 1 = M) (g : Cut c F a b z0 j0 z m N2) (hK : N2 + 1 = K) :
    Calls Tryz.prog 13 #[.agg #[.string c.nm, .int .i64 c.k, .int .i64 c.d, .int .i64 c.m, .int .i64 c.s, .int .i64 c.sh, .int .i64 c.p0, .int .i64 c.p1, .int .i64 c.p2, .int .i64 c.cy, .int .i64 c.ex, .int .i64 c.fi, .int .i64 c.la, .int .i64 c.po], .int .i64 L, .int .i64 F, .agg #[.int .i64 a, .int .i64 b]] w fun e w' => e = .returned (.bool true) ∧ Below w.heap.size w w' := by
  have C := CalIn.new w c 24
  have S := Go.Proofs.YtoeifpeiogeenaaGreatDoor.Pr.Two.new (w.alloc (.cells #[.string c.nm, .int .i64 c.k, .int .i64 c.d, .int .i64 c.m, .int .i64 c.s, .int .i64 c.sh, .int .i64 c.p0, .int .i64 c.p1, .int .i64 c.p2, .int .i64 c.cy, .int .i64 c.ex, .int .i64 c.fi, .int .i64 c.la, .int .i64 c.po] 24)) (.int .i64 a) (.int .i64 b) 43
  rw [World.size_alloc] at S
  replace C := C.alloc (.cells #[.int .i64 a, .int .i64 b] 43)
  have B := balloc (balloc (Below.refl _ w) (.cells #[.string c.nm, .int .i64 c.k, .int .i64 c.d, .int .i64 c.m, .int .i64 c.s, .int .i64 c.sh, .int .i64 c.p0, .int .i64 c.p1, .int .i64 c.p2, .int .i64 c.cy, .int .i64 c.ex, .int .i64 c.fi, .int .i64 c.la, .int .i64 c.po] 24)) (.cells #[.int .i64 a, .int .i64 b] 43)
  have T := (tb.alloc (.cells #[.string c.nm, .int .i64 c.k, .int .i64 c.d, .int .i64 c.m, .int .i64 c.s, .int .i64 c.sh, .int .i64 c.p0, .int .i64 c.p1, .int .i64 c.p2, .int .i64 c.cy, .int .i64 c.ex, .int .i64 c.fi, .int .i64 c.la, .int .i64 c.po] 24)).alloc (.cells #[.int .i64 a, .int .i64 b] 43)
  have qd1 := fun (M1 : M ≤ 1000000) w T => Days_ok c L a b y0 i0 y n N M w h hM M1 hm T
  have qm1 := fun w T => Meets_ok c L a b y0 i0 y n N w h.way h.da h.db h.ab hm T
  rw [hM] at qm1
  have bd1 := h.bd
  have ab := h.ab
  have qd2 := fun (M1 : K ≤ 1000000) w T => Days_ok c F a b z0 j0 z m N2 K w g hK M1 hm T
  have qm2 := fun w T => Meets_ok c F a b z0 j0 z m N2 w g.way g.da g.db g.ab hm T
  rw [hK] at qm2
  have bd2 := g.bd
  have ab2 := g.ab
  obtain ⟨pd, hpd⟩ : ∃ pd, pday c L a b (y0, i0) = pd := ⟨_, rfl⟩
  obtain ⟨qd, hqd⟩ : ∃ qd, pday c F a b (z0, j0) = qd := ⟨_, rfl⟩
  have HQ : Hid (∀ k : Nat, k < K → ∃ p q r d : Int, ∃ j : Nat, (ulist c F (z0, j0) K)[k]? = some (F, p, q) ∧ qd k = d ∧ 1 ≤ d ∧ d ≤ 3068037 ∧ j < M ∧ (ulist c L (y0, i0) M)[j]? = some (L, p, r) ∧
      (∀ w, FTab w → Calls Tryz.prog 20 #[.agg #[.string c.nm, .int .i64 c.k, .int .i64 c.d, .int .i64 c.m, .int .i64 c.s, .int .i64 c.sh, .int .i64 c.p0, .int .i64 c.p1, .int .i64 c.p2, .int .i64 c.cy, .int .i64 c.ex, .int .i64 c.fi, .int .i64 c.la, .int .i64 c.po], .agg #[.int .i64 F, .int .i64 p, .int .i64 q], .int .i64 L] w fun e w' => e = .returned (.tuple #[.agg #[.int .i64 L, .int .i64 p, .int .i64 r], .int .i64 0]) ∧ Below w.heap.size w w') ∧
      ∀ (t : Nat) (s : Int), t < M → NestAt (sm pd) (sm qd) k t s → 0 ≤ s ∧ s ≤ b - a + 1 ∧ ((j = t ∧ NestAt (sm pd) (sm qd) (k + 1) t (s + d)) ∨ (j = t + 1 ∧ s = pd t ∧ (∃ p2 r2 : Int, (ulist c L (y0, i0) M)[t]? = some (L, p2, r2) ∧ ¬ (p = p2 ∧ r = r2)) ∧ NestAt (sm pd) (sm qd) (k + 1) (t + 1) d))) :=
    Lib.hid (fun k hk => by
      obtain ⟨j, hj, ⟨u, l1, l2, inu, e1⟩, s1, s2⟩ := nest h g (by have := of_decide_eq_false dl; omega) k (by omega)
      have dk := g.day k (by omega)
      have lk := g.way.long k (by omega)
      rw [hqd] at dk
      refine ⟨(itu c F (z0, j0) k).1, (itu c F (z0, j0) k).2, (itu c L (y0, i0) j).2, _, j, ulist_at c F (z0, j0) K k hk, rfl, dk.1, by omega, by omega, ?_, fun w T => Up_any c F _ _ L L _ _ 0 w (.inl ⟨u, l1, l2, inu, rfl, rfl, rfl⟩) hm T, fun t s ht I => ?_⟩
      · rw [← e1]
        exact ulist_at c L (y0, i0) M j (by omega)
      · rw [← hpd, ← hqd] at I ⊢
        have b1 := nest_bd h g (k := k) (by omega) (by omega) I
        refine ⟨b1.1, b1.2, ?_⟩
        rcases nest_step h g (by omega) (by omega) hj I s1 s2 with ⟨x1, x2⟩ | ⟨x1, x2, x3⟩
        · exact .inl ⟨x1, x2⟩
        · refine .inr ⟨x1, x2, ⟨_, _, ulist_at c L (y0, i0) M t ht, fun e => ?_⟩, x3⟩
          have ne := h.ne (j := t) (k := j) (by omega) hj
          apply ne
          apply Prod.ext
          · rw [e1]; exact e.1.symm
          · exact e.2.symm)
  have HE : Hid (∀ (t : Nat) (s : Int), t < M → NestAt (sm pd) (sm qd) K t s → (t : Int) = M - 1 ∧ s = pd t ∧ 0 ≤ s ∧ s ≤ b - a + 1) := Lib.hid (fun t s ht I => by
    rw [← hpd, ← hqd, ← hK] at I
    have e := nest_end h g (by omega) I
    have b1 := nest_bd h g (k := N2 + 1) (Nat.le_refl _) (by omega) I
    rw [hpd] at e
    exact ⟨by omega, e.2, b1⟩)
  have M0 : (M : Int) ≤ b - a + 1 ∧ 1 ≤ M := by omega
  have K0 : (K : Int) ≤ b - a + 1 := by omega
  rw [hpd] at qd1
  rw [hqd] at qd2
  clear h g hM hK hpd hqd
  go_enter Tryz.func13, Tryz.ntmps13
  go_upto_region 1 with fail
  generalize (w.alloc (.cells #[.string c.nm, .int .i64 c.k, .int .i64 c.d, .int .i64 c.m, .int .i64 c.s, .int .i64 c.sh, .int .i64 c.p0, .int .i64 c.p1, .int .i64 c.p2, .int .i64 c.cy, .int .i64 c.ex, .int .i64 c.fi, .int .i64 c.la, .int .i64 c.po] 24)).alloc (.cells #[.int .i64 a, .int .i64 b] 43) = W0 at *
  obtain ⟨_, c0, c1, c2, c3, c4, c5, c6, c7, c8, c9, c10, c11, c12, c13⟩ := id C
  obtain ⟨_, s0, s1, fs0, fs1⟩ := id S
  go_wp2_with fail
  refine (rlive_ok _ T).mono ?_
  rintro e w1 ⟨rfl, hb⟩
  replace C := C.kept hb
  replace B := bthen B hb
  replace T := T.kept hb
  replace S := S.kept hb
  clear hb c0 c1 c2 c3 c4 c5 c6 c7 c8 c9 c10 c11 c12 c13 s0 s1 fs0 fs1
  obtain ⟨_, c0, c1, c2, c3, c4, c5, c6, c7, c8, c9, c10, c11, c12, c13⟩ := id C
  obtain ⟨_, s0, s1, fs0, fs1⟩ := id S
  go_wp2_with fail
  refine (rbrief_any c a b _).mono ?_
  rintro e w2 ⟨r, rfl, hb, hr⟩
  replace C := C.kept hb
  replace B := bthen B hb
  replace T := T.kept hb
  replace S := S.kept hb
  clear hb c0 c1 c2 c3 c4 c5 c6 c7 c8 c9 c10 c11 c12 c13 s0 s1 fs0 fs1
  obtain ⟨_, c0, c1, c2, c3, c4, c5, c6, c7, c8, c9, c10, c11, c12, c13⟩ := id C
  obtain ⟨_, s0, s1, fs0, fs1⟩ := id S
  cases r
  · go_wp2
    go_ret
    exact ⟨by simp, B⟩
  have br := (hr rfl).2 ab bd1.1 bd1.2.1
  clear hr
  have M1 : M ≤ 1501 := by omega
  have K1 : K ≤ 1501 := by omega
  go_wp2_with fail
  refine (qd1 (by omega) _ T).mono ?_
  rintro e w3 ⟨gd, rfl, D, hg, hb⟩
  replace C := C.kept hb
  replace B := bthen B hb
  replace T := T.kept hb
  replace S := S.kept hb
  clear hb c0 c1 c2 c3 c4 c5 c6 c7 c8 c9 c10 c11 c12 c13 s0 s1 fs0 fs1
  obtain ⟨_, c0, c1, c2, c3, c4, c5, c6, c7, c8, c9, c10, c11, c12, c13⟩ := id C
  obtain ⟨_, s0, s1, fs0, fs1⟩ := id S
  obtain ⟨_, _, _⟩ := id D
  clear hg
  go_wp2_with fail
  refine (qm1 _ T).mono ?_
  rintro e w4 ⟨gu, cap, rfl, R1, hg, hb, hcap⟩
  replace C := C.kept hb
  replace B := bthen B hb
  replace T := T.kept hb
  replace S := S.kept hb
  replace D := D.kept hb
  clear hb c0 c1 c2 c3 c4 c5 c6 c7 c8 c9 c10 c11 c12 c13 s0 s1 fs0 fs1
  obtain ⟨_, c0, c1, c2, c3, c4, c5, c6, c7, c8, c9, c10, c11, c12, c13⟩ := id C
  obtain ⟨_, s0, s1, fs0, fs1⟩ := id S
  obtain ⟨_, _, _⟩ := id D
  rw [ulist_len]
  obtain ⟨_, _⟩ := id R1
  clear hg hcap
  go_wp2_with fail
  refine (qd2 (by omega) _ T).mono ?_
  rintro e w5 ⟨gd2, rfl, D2, hg, hb⟩
  replace C := C.kept hb
  replace B := bthen B hb
  replace T := T.kept hb
  replace S := S.kept hb
  replace D := D.kept hb
  replace R1 := R1.kept hb
  clear hb c0 c1 c2 c3 c4 c5 c6 c7 c8 c9 c10 c11 c12 c13 s0 s1 fs0 fs1
  obtain ⟨_, c0, c1, c2, c3, c4, c5, c6, c7, c8, c9, c10, c11, c12, c13⟩ := id C
  obtain ⟨_, s0, s1, fs0, fs1⟩ := id S
  obtain ⟨_, _, _⟩ := id D
  obtain ⟨_, _⟩ := id R1
  obtain ⟨_, _, _⟩ := id D2
  clear hg
  go_wp2_with fail
  refine (qm2 _ T).mono ?_
  rintro e w6 ⟨gu2, cap2, rfl, R2, hg, hb, hcap⟩
  replace C := C.kept hb
  replace B := bthen B hb
  replace T := T.kept hb
  replace S := S.kept hb
  replace D := D.kept hb
  replace R1 := R1.kept hb
  replace D2 := D2.kept hb
  clear hb c0 c1 c2 c3 c4 c5 c6 c7 c8 c9 c10 c11 c12 c13 s0 s1 fs0 fs1
  obtain ⟨_, c0, c1, c2, c3, c4, c5, c6, c7, c8, c9, c10, c11, c12, c13⟩ := id C
  obtain ⟨_, s0, s1, fs0, fs1⟩ := id S
  obtain ⟨_, _, _⟩ := id D
  obtain ⟨_, _⟩ := id R1
  obtain ⟨_, _, _⟩ := id D2
  rw [ulist_len]
  clear hg hcap
  clear qd1 qm1 qd2 qm2 s0 s1 fs0 fs1
  clear c0 c1 c2 c3 c4 c5 c6 c7 c8 c9 c10 c11 c12 c13 
  have M2 : (M : Int) ≤ 1501 := by omega
  have M3 : (1 : Int) ≤ (M : Int) := by omega
  have K2 : (K : Int) ≤ 1501 := by omega
  have M4 : ((M : Int) == 0) = false := beq_eq_false_iff_ne.2 (by omega)
  have M5 : (M == 0) = false := beq_eq_false_iff_ne.2 (by omega)
  go_wp2
  go_loopw [17, 18, 103] (fun P Z Y wr => ∃ k : Nat, k ≤ K ∧ Y = .int .i64 (k : Int) ∧ NestV (sm pd) (sm qd) M k P Z ∧ Below w6.heap.size w6 wr) (fun _ _ Y _ => K - (intOf Y).toNat)
  case atStart => exact ⟨0, by omega, rfl, ⟨0, 0, by omega, rfl, rfl, .inl ⟨rfl, rfl, rfl⟩⟩, Below.refl _ _⟩
  case round =>
    obtain ⟨k, kK, rfl, NV, B2⟩ := hrel
    obtain ⟨t, s, tM, rfl, rfl, I⟩ := NV
    have Rw := R2.kept B2
    by_cases hlt : k < K
    · obtain ⟨p, q, r, d, j, hu, hd, d1, d2, jM, hv, cs, st⟩ := HQ.out k hlt
      obtain ⟨s0, s1, OO⟩ := st t s tM I
      have HO := Lib.hid OO
      obtain ⟨rk0, rk1, rk2⟩ := Rw.c k _ hu
      simp only at rk0 rk1 rk2
      clear st I OO
      have kk : (k : Int) < (K : Int) := by omega
      have tk : (t : Int) < (M : Int) := by omega
      have B3 := balloc B2 (.cells #[.int .i64 F, .int .i64 p, .int .i64 q] 26)
      have V := Tri.new wr (.int .i64 F) (.int .i64 p) (.int .i64 q) 26
      go_upto_region 18 with fail
      clear rk0 rk1 rk2 Rw
      generalize wr.alloc (.cells #[.int .i64 F, .int .i64 p, .int .i64 q] 26) = W8 at *
      have C3 := C.kept B3
      have T3 := T.kept B3
      obtain ⟨_, v0, v1, v2, fv0, fv1, fv2⟩ := id V
      obtain ⟨_, c0, c1, c2, c3, c4, c5, c6, c7, c8, c9, c10, c11, c12, c13⟩ := id C3
      go_wp2_with fail
      refine (cs _ T3).mono ?_
      rintro e w9 ⟨rfl, hb⟩
      have B9 := balloc (bthen B3 hb) (.cells #[.int .i64 L, .int .i64 p, .int .i64 r] 26)
      have X := Tri.new w9 (.int .i64 L) (.int .i64 p) (.int .i64 r) 26
      go_upto_region 19 with fail
      clear hb C3 T3 B3 V cs
      clear c0 c1 c2 c3 c4 c5 c6 c7 c8 c9 c10 c11 c12 c13 v0 v1 v2 fv0 fv1 fv2
      generalize w9.alloc (.cells #[.int .i64 L, .int .i64 p, .int .i64 r] 26) = W10 at *
      obtain ⟨_, x0, x1, x2, fx0, fx1, fx2⟩ := id X
      have Ru := R1.kept B9
      rcases HO.out with ⟨rfl, I2⟩ | ⟨rfl, es, ⟨p2, r2, ht2, nt⟩, I2⟩
      · obtain ⟨rt0, rt1, rt2⟩ := Ru.c j _ hv
        simp only at rt0 rt1 rt2
        have HI := Lib.hid I2
        clear HO I2 Ru
        have hq := fun w => unit_neq L p r L p r w
        rw [show (!decide (L = L ∧ p = p ∧ r = r)) = false by simp] at hq
        go_upto_region 21 with fail
        go_quiet (fail)
        obtain ⟨WD, hWD⟩ : ∃ WD, W10.drewN nq = WD := ⟨_, rfl⟩
        have bD : Below W10.heap.size W10 WD := by rw [← hWD]; exact bdrewN (Below.refl _ _) _
        rw [hWD]
        clear hWD x0 x1 x2 fx0 fx1 fx2 rt0 rt1 rt2 hq X
        have B11 := bthen B9 bD
        have dc := (D2.kept B11).c k hlt
        rw [hd] at dc
        clear bD
        go_wp2
        go_roundw
        case rel => exact ⟨k + 1, by omega, by go_num, ⟨j, s + d, tM, rfl, rfl, HI.out⟩, B11⟩
        case measure => simp [intOf]; omega
      · obtain ⟨rt0, rt1, rt2⟩ := Ru.c t _ ht2
        simp only at rt0 rt1 rt2
        have HI := Lib.hid I2
        clear HO I2 Ru
        subst es
        generalize hz : pd t = s at *
        have HZ := Lib.hid hz
        clear hz
        have hq := fun w => unit_neq L p r L p2 r2 w
        rw [show (!decide (L = L ∧ p = p2 ∧ r = r2)) = true by simp only [true_and, Bool.not_eq_true', decide_eq_false_iff_not]; exact nt] at hq
        go_upto_region 21 with fail
        go_quiet (fail)
        obtain ⟨WD, hWD⟩ : ∃ WD, W10.drewN nq = WD := ⟨_, rfl⟩
        have bD : Below W10.heap.size W10 WD := by rw [← hWD]; exact bdrewN (Below.refl _ _) _
        rw [hWD]
        clear hWD x0 x1 x2 fx0 fx1 fx2 rt0 rt1 rt2 hq
        have B11 := bthen B9 bD
        have X2 := X.kept bD
        obtain ⟨_, x0, x1, x2, fx0, fx1, fx2⟩ := id X2
        have Ru := R1.kept B11
        obtain ⟨t1, ht1⟩ : ∃ t1, t + 1 = t1 := ⟨_, rfl⟩
        rw [ht1] at hv jM
        obtain ⟨rt0, rt1, rt2⟩ := Ru.c t1 _ hv
        simp only at rt0 rt1 rt2
        have pc := (D.kept B11).c t tM
        have hq := fun w => unit_neq L p r L p r w
        rw [show (!decide (L = L ∧ p = p ∧ r = r)) = false by simp] at hq
        rw [HZ.out] at pc
        have e1 : ((t1 : Int) == (M : Int)) = false := beq_eq_false_iff_ne.2 (by omega)
        have ew : IntKind.i64.wrap ((t : Int) + 1) = (t1 : Int) := by rw [IntWalk.i64_in _ (by omega)]; omega
        have e5 : (t1 == M) = false := beq_eq_false_iff_ne.2 (by omega)
        have e6 : decide (t1 = M) = false := decide_eq_false (by omega)
        have e7 : ¬ t1 = M := by omega
        have HT := Lib.hid ht1
        have e2 : (s != s) = false := by simp
        have e3 : (t1 : Int) < (M : Int) := by omega
        clear Ru bD X ht1
        go_upto_region 22 with fail
        go_quiet (fail)
        obtain ⟨WE, hWE⟩ : ∃ WE, WD.drewN nq = WE := ⟨_, rfl⟩
        have bE : Below WD.heap.size WD WE := by rw [← hWE]; exact bdrewN (Below.refl _ _) _
        rw [hWE]
        clear hWE x0 x1 x2 fx0 fx1 fx2 rt0 rt1 rt2 hq pc X2
        have B12 := bthen B11 bE
        have dc := (D2.kept B12).c k hlt
        rw [hd] at dc
        clear bE
        go_wp2
        go_roundw
        case rel => exact ⟨k + 1, by omega, by go_num, ⟨t1, d, jM, by have := HT.out; first | rfl | (congr 1; omega), rfl, by rw [← HT.out]; exact HI.out⟩, B12⟩
        case measure => simp [intOf]; omega
    · obtain rfl : k = K := by omega
      have kk : decide ((k : Int) < (k : Int)) = false := decide_eq_false (by omega)
      obtain ⟨e1, e2, s0, s1⟩ := HE.out t s tM I
      have pc := (D.kept B2).c t tM
      rw [← e2] at pc
      have tk : (t : Int) < (M : Int) := by omega
      have e3 : ((t : Int) == (M : Int) - 1) = true := beq_iff_eq.2 e1
      have e4 : (s == s) = true := beq_self_eq_true s
      have HE1 := Lib.hid e1
      clear e1 e2 I HE HQ
      go_wp2
      go_ret
      exact ⟨by simp, bthen B B2⟩

theorem rlev_walk (c : CalZ) (L F a b : Int) (w : World) (wf : CalWf c) (wL : (Lit.int .i64 L).wf = true) (wF : (Lit.int .i64 F).wf = true) (w1 : (Lit.int .i64 a).wf = true) (w2 : (Lit.int .i64 b).wf = true) (tb : FTab w) :
    Calls Tryz.prog 13 #[.agg #[.string c.nm, .int .i64 c.k, .int .i64 c.d, .int .i64 c.m, .int .i64 c.s, .int .i64 c.sh, .int .i64 c.p0, .int .i64 c.p1, .int .i64 c.p2, .int .i64 c.cy, .int .i64 c.ex, .int .i64 c.fi, .int .i64 c.la, .int .i64 c.po], .int .i64 L, .int .i64 F, .agg #[.int .i64 a, .int .i64 b]] w fun e w' => e = .returned (.bool true) ∧ Below w.heap.size w w' := by
  by_cases q : F < L
  · exact rlev_out c L F a b w tb (decide_eq_true q)
  have dl : decide (F < L) = false := decide_eq_false q
  rcases cut_ex c L a b with ⟨er, ne, R⟩ | ⟨y0, i0, y, n, N, h⟩ <;> rcases cut_ex c F a b with ⟨er2, ne2, R2⟩ | ⟨z0, j0, z, m, N2, g⟩
  · exact rlev_ee c L F a b er er2 w tb wf.1 dl R ne R2 ne2
  · exact rlev_eo c L F a b er z0 j0 z m N2 _ w tb wf.1 dl R ne g rfl
  · exact rlev_oe c L F a b er2 y0 i0 y n N _ w tb wf.1 dl R2 ne2 h rfl
  · exact rlev_ok c L F a b y0 i0 y n z0 j0 z m N _ N2 _ w tb wf.1 dl h rfl g rfl

end Go.Proofs.YtoeifpeiogeenaaGreatDoor.Pl
