/- UnitMoves' walk. -/
import Derived.Test.YtjiifmdjhdhabaaGreatDoorIrdn
import Derived.Test.YtjiifmdjhdhabaaGreatDoorIlive
import Derived.Test.YtjiifmdjhdhabaaGreatDoorFcal
namespace Go.Proofs.YtjiifmdjhdhabaaGreatDoor.Il
set_option linter.unusedSimpArgs false
set_option linter.unusedVariables false
open Go.RowKit Go.Maps Go.Proofs.YtjiifmdjhdhabaaGreatDoor.Bn Go.Proofs.YtjiifmdjhdhabaaGreatDoor.Bx Go.Proofs.YtjiifmdjhdhabaaGreatDoor.Cp Go.Proofs.YtjiifmdjhdhabaaGreatDoor.Am Go.Proofs.YtjiifmdjhdhabaaGreatDoor.Fp Go.Proofs.YtjiifmdjhdhabaaGreatDoor.Ap Go.Proofs.YtjiifmdjhdhabaaGreatDoor.Ar Go.Proofs.YtjiifmdjhdhabaaGreatDoor.Cm Go.Proofs.YtjiifmdjhdhabaaGreatDoor.Em Go.Proofs.YtjiifmdjhdhabaaGreatDoor.Ep Go.Proofs.YtjiifmdjhdhabaaGreatDoor.Rk Go.Proofs.YtjiifmdjhdhabaaGreatDoor.Hp Go.Proofs.YtjiifmdjhdhabaaGreatDoor.Hr Go.Proofs.YtjiifmdjhdhabaaGreatDoor.Ip Go.Proofs.YtjiifmdjhdhabaaGreatDoor.Ir

set_option maxHeartbeats 8000000

set_option maxRecDepth 100000 in
theorem umoves_long (c : CalZ) (L y i M : Int) (w : World) (tb : FTab w) (dl : decide ((100 : Int) < (c.nm.size : Int)) = true) :
    Calls Tryz.prog 4 #[.agg #[.string c.nm, .int .i64 c.k, .int .i64 c.d, .int .i64 c.m, .int .i64 c.s, .int .i64 c.sh, .int .i64 c.p0, .int .i64 c.p1, .int .i64 c.p2, .int .i64 c.cy, .int .i64 c.ex, .int .i64 c.fi, .int .i64 c.la, .int .i64 c.po], .agg #[.int .i64 L, .int .i64 y, .int .i64 i], .int .i64 M] w fun e w' => e = .returned (.bool true) ∧ Below w.heap.size w w' := by
  have T := tb
  have C := CalIn.new w c 24
  have B := balloc (Below.refl _ w) (.cells #[.string c.nm, .int .i64 c.k, .int .i64 c.d, .int .i64 c.m, .int .i64 c.s, .int .i64 c.sh, .int .i64 c.p0, .int .i64 c.p1, .int .i64 c.p2, .int .i64 c.cy, .int .i64 c.ex, .int .i64 c.fi, .int .i64 c.la, .int .i64 c.po] 24)
  replace T := T.alloc (.cells #[.string c.nm, .int .i64 c.k, .int .i64 c.d, .int .i64 c.m, .int .i64 c.s, .int .i64 c.sh, .int .i64 c.p0, .int .i64 c.p1, .int .i64 c.p2, .int .i64 c.cy, .int .i64 c.ex, .int .i64 c.fi, .int .i64 c.la, .int .i64 c.po] 24)
  have U := Go.Proofs.YtjiifmdjhdhabaaGreatDoor.Bx.Tri.new (w.alloc (.cells #[.string c.nm, .int .i64 c.k, .int .i64 c.d, .int .i64 c.m, .int .i64 c.s, .int .i64 c.sh, .int .i64 c.p0, .int .i64 c.p1, .int .i64 c.p2, .int .i64 c.cy, .int .i64 c.ex, .int .i64 c.fi, .int .i64 c.la, .int .i64 c.po] 24)) (.int .i64 L) (.int .i64 y) (.int .i64 i) 26
  rw [World.size_alloc] at U
  replace C := C.alloc (.cells #[.int .i64 L, .int .i64 y, .int .i64 i] 26)
  replace B := balloc B (.cells #[.int .i64 L, .int .i64 y, .int .i64 i] 26)
  replace T := T.alloc (.cells #[.int .i64 L, .int .i64 y, .int .i64 i] 26)
  go_enter Tryz.func4, Tryz.ntmps4
  go_upto_region 1 with fail
  generalize (w.alloc (.cells #[.string c.nm, .int .i64 c.k, .int .i64 c.d, .int .i64 c.m, .int .i64 c.s, .int .i64 c.sh, .int .i64 c.p0, .int .i64 c.p1, .int .i64 c.p2, .int .i64 c.cy, .int .i64 c.ex, .int .i64 c.fi, .int .i64 c.la, .int .i64 c.po] 24)).alloc (.cells #[.int .i64 L, .int .i64 y, .int .i64 i] 26) = W0 at *
  obtain ⟨_, c0, c1, c2, c3, c4, c5, c6, c7, c8, c9, c10, c11, c12, c13⟩ := id C
  obtain ⟨_, u0, u1, u2, fu0, fu1, fu2⟩ := id U
  go_wp2_with fail
  refine (ilive_ok _ T).mono ?_
  rintro e w1 ⟨rfl, hb⟩
  replace C := C.kept hb
  replace B := bthen B hb
  replace T := T.kept hb
  replace U := U.kept hb
  clear hb c0 c1 c2 c3 c4 c5 c6 c7 c8 c9 c10 c11 c12 c13 u0 u1 u2 fu0 fu1 fu2
  obtain ⟨_, c0, c1, c2, c3, c4, c5, c6, c7, c8, c9, c10, c11, c12, c13⟩ := id C
  obtain ⟨_, u0, u1, u2, fu0, fu1, fu2⟩ := id U
  go_wp2
  go_ret
  exact ⟨rfl, B⟩

set_option maxRecDepth 100000 in
theorem umoves_any (c : CalZ) (L y i M p q r e1 p2 q2 r2 s2 e2 : Int) (w : World) (tb : FTab w) (hm : c.nm.size ≤ maxLen) (dl : decide ((100 : Int) < (c.nm.size : Int)) = false) (R1 : UpA c L y i M p q r e1) (R2 : DownA c L y i M p2 q2 r2 s2 e2) (K : ChkSays c) :
    Calls Tryz.prog 4 #[.agg #[.string c.nm, .int .i64 c.k, .int .i64 c.d, .int .i64 c.m, .int .i64 c.s, .int .i64 c.sh, .int .i64 c.p0, .int .i64 c.p1, .int .i64 c.p2, .int .i64 c.cy, .int .i64 c.ex, .int .i64 c.fi, .int .i64 c.la, .int .i64 c.po], .agg #[.int .i64 L, .int .i64 y, .int .i64 i], .int .i64 M] w fun e w' => e = .returned (.bool true) ∧ Below w.heap.size w w' := by
  have T := tb
  have C := CalIn.new w c 24
  have B := balloc (Below.refl _ w) (.cells #[.string c.nm, .int .i64 c.k, .int .i64 c.d, .int .i64 c.m, .int .i64 c.s, .int .i64 c.sh, .int .i64 c.p0, .int .i64 c.p1, .int .i64 c.p2, .int .i64 c.cy, .int .i64 c.ex, .int .i64 c.fi, .int .i64 c.la, .int .i64 c.po] 24)
  replace T := T.alloc (.cells #[.string c.nm, .int .i64 c.k, .int .i64 c.d, .int .i64 c.m, .int .i64 c.s, .int .i64 c.sh, .int .i64 c.p0, .int .i64 c.p1, .int .i64 c.p2, .int .i64 c.cy, .int .i64 c.ex, .int .i64 c.fi, .int .i64 c.la, .int .i64 c.po] 24)
  have U := Go.Proofs.YtjiifmdjhdhabaaGreatDoor.Bx.Tri.new (w.alloc (.cells #[.string c.nm, .int .i64 c.k, .int .i64 c.d, .int .i64 c.m, .int .i64 c.s, .int .i64 c.sh, .int .i64 c.p0, .int .i64 c.p1, .int .i64 c.p2, .int .i64 c.cy, .int .i64 c.ex, .int .i64 c.fi, .int .i64 c.la, .int .i64 c.po] 24)) (.int .i64 L) (.int .i64 y) (.int .i64 i) 26
  rw [World.size_alloc] at U
  replace C := C.alloc (.cells #[.int .i64 L, .int .i64 y, .int .i64 i] 26)
  replace B := balloc B (.cells #[.int .i64 L, .int .i64 y, .int .i64 i] 26)
  replace T := T.alloc (.cells #[.int .i64 L, .int .i64 y, .int .i64 i] 26)
  have q1 := fun w T => Up_any c L y i M p q r e1 w R1 hm T
  have q3 := fun w T => rUp_any c L y i M p q r e1 w R1 K hm T
  have q4 := fun w T => Down_any c L y i M p2 q2 r2 s2 e2 w R2 hm T
  have q5 := fun w T => rDown_any c L y i M p2 q2 r2 s2 e2 w R2 K hm T
  have n0 : (p == p) = true := beq_self_eq_true p
  have n1 : (q == q) = true := beq_self_eq_true q
  have n2 : (r == r) = true := beq_self_eq_true r
  have n3 : (e1 == e1) = true := beq_self_eq_true e1
  have n4 : (p2 == p2) = true := beq_self_eq_true p2
  have n5 : (q2 == q2) = true := beq_self_eq_true q2
  have n6 : (r2 == r2) = true := beq_self_eq_true r2
  have n7 : (s2 == s2) = true := beq_self_eq_true s2
  have n8 : (e2 == e2) = true := beq_self_eq_true e2
  clear R1 R2 K
  go_enter Tryz.func4, Tryz.ntmps4
  go_upto_region 1 with fail
  generalize (w.alloc (.cells #[.string c.nm, .int .i64 c.k, .int .i64 c.d, .int .i64 c.m, .int .i64 c.s, .int .i64 c.sh, .int .i64 c.p0, .int .i64 c.p1, .int .i64 c.p2, .int .i64 c.cy, .int .i64 c.ex, .int .i64 c.fi, .int .i64 c.la, .int .i64 c.po] 24)).alloc (.cells #[.int .i64 L, .int .i64 y, .int .i64 i] 26) = W0 at *
  obtain ⟨_, c0, c1, c2, c3, c4, c5, c6, c7, c8, c9, c10, c11, c12, c13⟩ := id C
  obtain ⟨_, u0, u1, u2, fu0, fu1, fu2⟩ := id U
  go_wp2_with fail
  refine (ilive_ok _ T).mono ?_
  rintro e w1 ⟨rfl, hb⟩
  replace C := C.kept hb
  replace B := bthen B hb
  replace T := T.kept hb
  replace U := U.kept hb
  clear hb c0 c1 c2 c3 c4 c5 c6 c7 c8 c9 c10 c11 c12 c13 u0 u1 u2 fu0 fu1 fu2
  obtain ⟨_, c0, c1, c2, c3, c4, c5, c6, c7, c8, c9, c10, c11, c12, c13⟩ := id C
  obtain ⟨_, u0, u1, u2, fu0, fu1, fu2⟩ := id U
  go_wp2_with fail
  refine (q1 _ T).mono ?_
  rintro e w21 ⟨rfl, hb⟩
  replace C := C.kept hb
  replace T := T.kept hb
  replace U := U.kept hb
  replace B := bthen B hb
  have X1 := Go.Proofs.YtjiifmdjhdhabaaGreatDoor.Bx.Tri.new (w21) (.int .i64 p) (.int .i64 q) (.int .i64 r) 26
  replace C := C.alloc (.cells #[.int .i64 p, .int .i64 q, .int .i64 r] 26)
  replace T := T.alloc (.cells #[.int .i64 p, .int .i64 q, .int .i64 r] 26)
  replace U := U.alloc (.cells #[.int .i64 p, .int .i64 q, .int .i64 r] 26)
  replace B := balloc B (.cells #[.int .i64 p, .int .i64 q, .int .i64 r] 26)
  clear hb c0 c1 c2 c3 c4 c5 c6 c7 c8 c9 c10 c11 c12 c13 u0 u1 u2 fu0 fu1 fu2 q1
  go_upto_region 6 with fail
  generalize (w21).alloc (.cells #[.int .i64 p, .int .i64 q, .int .i64 r] 26) = W21 at *
  obtain ⟨_, c0, c1, c2, c3, c4, c5, c6, c7, c8, c9, c10, c11, c12, c13⟩ := id C
  obtain ⟨_, u0, u1, u2, fu0, fu1, fu2⟩ := id U
  go_wp2_with fail
  refine (q3 _ T).mono ?_
  rintro e w22 ⟨rfl, hb⟩
  replace C := C.kept hb
  replace T := T.kept hb
  replace U := U.kept hb
  replace X1 := X1.kept hb
  replace B := bthen B hb
  have X2 := Go.Proofs.YtjiifmdjhdhabaaGreatDoor.Bx.Tri.new (w22) (.int .i64 p) (.int .i64 q) (.int .i64 r) 26
  replace C := C.alloc (.cells #[.int .i64 p, .int .i64 q, .int .i64 r] 26)
  replace T := T.alloc (.cells #[.int .i64 p, .int .i64 q, .int .i64 r] 26)
  replace U := U.alloc (.cells #[.int .i64 p, .int .i64 q, .int .i64 r] 26)
  replace X1 := X1.alloc (.cells #[.int .i64 p, .int .i64 q, .int .i64 r] 26)
  replace B := balloc B (.cells #[.int .i64 p, .int .i64 q, .int .i64 r] 26)
  clear hb c0 c1 c2 c3 c4 c5 c6 c7 c8 c9 c10 c11 c12 c13 u0 u1 u2 fu0 fu1 fu2 q3
  go_upto_region 7 with fail
  generalize (w22).alloc (.cells #[.int .i64 p, .int .i64 q, .int .i64 r] 26) = W22 at *
  obtain ⟨_, c0, c1, c2, c3, c4, c5, c6, c7, c8, c9, c10, c11, c12, c13⟩ := id C
  obtain ⟨_, u0, u1, u2, fu0, fu1, fu2⟩ := id U
  go_wp2_with fail
  refine (q4 _ T).mono ?_
  rintro e w23 ⟨rfl, hb⟩
  replace C := C.kept hb
  replace T := T.kept hb
  replace U := U.kept hb
  replace X1 := X1.kept hb
  replace X2 := X2.kept hb
  replace B := bthen B hb
  have X3 := Go.Proofs.YtjiifmdjhdhabaaGreatDoor.Bx.Tri.new (w23) (.int .i64 p2) (.int .i64 q2) (.int .i64 r2) 26
  replace C := C.alloc (.cells #[.int .i64 p2, .int .i64 q2, .int .i64 r2] 26)
  replace T := T.alloc (.cells #[.int .i64 p2, .int .i64 q2, .int .i64 r2] 26)
  replace U := U.alloc (.cells #[.int .i64 p2, .int .i64 q2, .int .i64 r2] 26)
  replace X1 := X1.alloc (.cells #[.int .i64 p2, .int .i64 q2, .int .i64 r2] 26)
  replace X2 := X2.alloc (.cells #[.int .i64 p2, .int .i64 q2, .int .i64 r2] 26)
  replace B := balloc B (.cells #[.int .i64 p2, .int .i64 q2, .int .i64 r2] 26)
  have X4 := Go.Proofs.YtjiifmdjhdhabaaGreatDoor.Bx.Tri.new ((w23).alloc (.cells #[.int .i64 p2, .int .i64 q2, .int .i64 r2] 26)) (.int .i64 p2) (.int .i64 q2) (.int .i64 s2) 26
  rw [World.size_alloc] at X4
  replace C := C.alloc (.cells #[.int .i64 p2, .int .i64 q2, .int .i64 s2] 26)
  replace T := T.alloc (.cells #[.int .i64 p2, .int .i64 q2, .int .i64 s2] 26)
  replace U := U.alloc (.cells #[.int .i64 p2, .int .i64 q2, .int .i64 s2] 26)
  replace X1 := X1.alloc (.cells #[.int .i64 p2, .int .i64 q2, .int .i64 s2] 26)
  replace X2 := X2.alloc (.cells #[.int .i64 p2, .int .i64 q2, .int .i64 s2] 26)
  replace X3 := X3.alloc (.cells #[.int .i64 p2, .int .i64 q2, .int .i64 s2] 26)
  replace B := balloc B (.cells #[.int .i64 p2, .int .i64 q2, .int .i64 s2] 26)
  clear hb c0 c1 c2 c3 c4 c5 c6 c7 c8 c9 c10 c11 c12 c13 u0 u1 u2 fu0 fu1 fu2 q4
  go_upto_region 8 with fail
  generalize ((w23).alloc (.cells #[.int .i64 p2, .int .i64 q2, .int .i64 r2] 26)).alloc (.cells #[.int .i64 p2, .int .i64 q2, .int .i64 s2] 26) = W23 at *
  obtain ⟨_, c0, c1, c2, c3, c4, c5, c6, c7, c8, c9, c10, c11, c12, c13⟩ := id C
  obtain ⟨_, u0, u1, u2, fu0, fu1, fu2⟩ := id U
  go_wp2_with fail
  refine (q5 _ T).mono ?_
  rintro e w24 ⟨rfl, hb⟩
  replace C := C.kept hb
  replace T := T.kept hb
  replace U := U.kept hb
  replace X1 := X1.kept hb
  replace X2 := X2.kept hb
  replace X3 := X3.kept hb
  replace X4 := X4.kept hb
  replace B := bthen B hb
  have X5 := Go.Proofs.YtjiifmdjhdhabaaGreatDoor.Bx.Tri.new (w24) (.int .i64 p2) (.int .i64 q2) (.int .i64 r2) 26
  replace C := C.alloc (.cells #[.int .i64 p2, .int .i64 q2, .int .i64 r2] 26)
  replace T := T.alloc (.cells #[.int .i64 p2, .int .i64 q2, .int .i64 r2] 26)
  replace U := U.alloc (.cells #[.int .i64 p2, .int .i64 q2, .int .i64 r2] 26)
  replace X1 := X1.alloc (.cells #[.int .i64 p2, .int .i64 q2, .int .i64 r2] 26)
  replace X2 := X2.alloc (.cells #[.int .i64 p2, .int .i64 q2, .int .i64 r2] 26)
  replace X3 := X3.alloc (.cells #[.int .i64 p2, .int .i64 q2, .int .i64 r2] 26)
  replace X4 := X4.alloc (.cells #[.int .i64 p2, .int .i64 q2, .int .i64 r2] 26)
  replace B := balloc B (.cells #[.int .i64 p2, .int .i64 q2, .int .i64 r2] 26)
  have X6 := Go.Proofs.YtjiifmdjhdhabaaGreatDoor.Bx.Tri.new ((w24).alloc (.cells #[.int .i64 p2, .int .i64 q2, .int .i64 r2] 26)) (.int .i64 p2) (.int .i64 q2) (.int .i64 s2) 26
  rw [World.size_alloc] at X6
  replace C := C.alloc (.cells #[.int .i64 p2, .int .i64 q2, .int .i64 s2] 26)
  replace T := T.alloc (.cells #[.int .i64 p2, .int .i64 q2, .int .i64 s2] 26)
  replace U := U.alloc (.cells #[.int .i64 p2, .int .i64 q2, .int .i64 s2] 26)
  replace X1 := X1.alloc (.cells #[.int .i64 p2, .int .i64 q2, .int .i64 s2] 26)
  replace X2 := X2.alloc (.cells #[.int .i64 p2, .int .i64 q2, .int .i64 s2] 26)
  replace X3 := X3.alloc (.cells #[.int .i64 p2, .int .i64 q2, .int .i64 s2] 26)
  replace X4 := X4.alloc (.cells #[.int .i64 p2, .int .i64 q2, .int .i64 s2] 26)
  replace X5 := X5.alloc (.cells #[.int .i64 p2, .int .i64 q2, .int .i64 s2] 26)
  replace B := balloc B (.cells #[.int .i64 p2, .int .i64 q2, .int .i64 s2] 26)
  clear hb c0 c1 c2 c3 c4 c5 c6 c7 c8 c9 c10 c11 c12 c13 u0 u1 u2 fu0 fu1 fu2 q5
  go_upto_region 9 with fail
  generalize ((w24).alloc (.cells #[.int .i64 p2, .int .i64 q2, .int .i64 r2] 26)).alloc (.cells #[.int .i64 p2, .int .i64 q2, .int .i64 s2] 26) = W24 at *
  obtain ⟨_, c0, c1, c2, c3, c4, c5, c6, c7, c8, c9, c10, c11, c12, c13⟩ := id C
  obtain ⟨_, u0, u1, u2, fu0, fu1, fu2⟩ := id U
  obtain ⟨_, x10, x11, x12, fx10, fx11, fx12⟩ := id X1
  obtain ⟨_, x20, x21, x22, fx20, fx21, fx22⟩ := id X2
  obtain ⟨_, x30, x31, x32, fx30, fx31, fx32⟩ := id X3
  obtain ⟨_, x40, x41, x42, fx40, fx41, fx42⟩ := id X4
  obtain ⟨_, x50, x51, x52, fx50, fx51, fx52⟩ := id X5
  obtain ⟨_, x60, x61, x62, fx60, fx61, fx62⟩ := id X6
  go_wp2
  go_ret
  exact ⟨by simp, B⟩

theorem umoves_walk (c : CalZ) (L y i M : Int) (w : World) (wf : CalWf c) (wL : (Lit.int .i64 L).wf = true) (wy : (Lit.int .i64 y).wf = true) (wi : (Lit.int .i64 i).wf = true) (wM : (Lit.int .i64 M).wf = true) (tb : FTab w) :
    Calls Tryz.prog 4 #[.agg #[.string c.nm, .int .i64 c.k, .int .i64 c.d, .int .i64 c.m, .int .i64 c.s, .int .i64 c.sh, .int .i64 c.p0, .int .i64 c.p1, .int .i64 c.p2, .int .i64 c.cy, .int .i64 c.ex, .int .i64 c.fi, .int .i64 c.la, .int .i64 c.po], .agg #[.int .i64 L, .int .i64 y, .int .i64 i], .int .i64 M] w fun e w' => e = .returned (.bool true) ∧ Below w.heap.size w w' := by
  have K : ChkSays c := fun h w R => Go.Proofs.YtjiifmdjhdhabaaGreatDoor.Fr.rCheck_any c h w R wf.1
  by_cases hl : 100 < c.nm.size
  · exact umoves_long c L y i M w tb (decide_eq_true (by omega))
  have dl : decide ((100 : Int) < (c.nm.size : Int)) = false := decide_eq_false (by omega)
  obtain ⟨p, q, r, e1, R1⟩ := upa_ex c L y i M
  obtain ⟨p2, q2, r2, s2, e2, R2⟩ := downa_ex c L y i M
  exact umoves_any c L y i M p q r e1 p2 q2 r2 s2 e2 w tb wf.1 dl R1 R2 K

end Go.Proofs.YtjiifmdjhdhabaaGreatDoor.Il
