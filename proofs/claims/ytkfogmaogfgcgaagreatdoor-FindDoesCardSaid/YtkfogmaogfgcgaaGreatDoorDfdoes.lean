/- FindDoes' walk. -/
import Derived.Test.YtkfogmaogfgcgaaGreatDoorIrf
import Derived.Test.YtkfogmaogfgcgaaGreatDoorDlive
import Derived.Test.YtkfogmaogfgcgaaGreatDoorDnext
import Derived.Test.YtkfogmaogfgcgaaGreatDoorFcal
import Derived.Test.YtkfogmaogfgcgaaGreatDoorFrcheck
namespace Go.Proofs.YtkfogmaogfgcgaaGreatDoor.Dl
set_option linter.unusedSimpArgs false
set_option linter.unusedVariables false
open Go.RowKit Go.Maps Go.Proofs.YtkfogmaogfgcgaaGreatDoor.Bn Go.Proofs.YtkfogmaogfgcgaaGreatDoor.Bx Go.Proofs.YtkfogmaogfgcgaaGreatDoor.Cp Go.Proofs.YtkfogmaogfgcgaaGreatDoor.Am Go.Proofs.YtkfogmaogfgcgaaGreatDoor.Fp Go.Proofs.YtkfogmaogfgcgaaGreatDoor.Ap Go.Proofs.YtkfogmaogfgcgaaGreatDoor.Ar Go.Proofs.YtkfogmaogfgcgaaGreatDoor.Cm Go.Proofs.YtkfogmaogfgcgaaGreatDoor.Em Go.Proofs.YtkfogmaogfgcgaaGreatDoor.Ep Go.Proofs.YtkfogmaogfgcgaaGreatDoor.Rk Go.Proofs.YtkfogmaogfgcgaaGreatDoor.Hp Go.Proofs.YtkfogmaogfgcgaaGreatDoor.Hr Go.Proofs.YtkfogmaogfgcgaaGreatDoor.Ip Go.Proofs.YtkfogmaogfgcgaaGreatDoor.Dp Go.Proofs.YtkfogmaogfgcgaaGreatDoor.Jr Go.Proofs.YtkfogmaogfgcgaaGreatDoor.Ir Go.Proofs.YtkfogmaogfgcgaaGreatDoor.Rf

set_option maxHeartbeats 8000000

set_option maxRecDepth 100000 in
theorem fdoes_long (c : CalZ) (d L m y i : Int) (w : World) (tb : FTab w) (dl : decide ((100 : Int) < (c.nm.size : Int)) = true) :
    Calls Tryz.prog 3 #[.agg #[.string c.nm, .int .i64 c.k, .int .i64 c.d, .int .i64 c.m, .int .i64 c.s, .int .i64 c.sh, .int .i64 c.p0, .int .i64 c.p1, .int .i64 c.p2, .int .i64 c.cy, .int .i64 c.ex, .int .i64 c.fi, .int .i64 c.la, .int .i64 c.po], .int .i64 d, .int .i64 L, .agg #[.int .i64 m, .int .i64 y, .int .i64 i]] w fun e w' => e = .returned (.bool true) ∧ Below w.heap.size w w' := by
  have T := tb
  have C := CalIn.new w c 24
  have B := balloc (Below.refl _ w) (.cells #[.string c.nm, .int .i64 c.k, .int .i64 c.d, .int .i64 c.m, .int .i64 c.s, .int .i64 c.sh, .int .i64 c.p0, .int .i64 c.p1, .int .i64 c.p2, .int .i64 c.cy, .int .i64 c.ex, .int .i64 c.fi, .int .i64 c.la, .int .i64 c.po] 24)
  replace T := T.alloc (.cells #[.string c.nm, .int .i64 c.k, .int .i64 c.d, .int .i64 c.m, .int .i64 c.s, .int .i64 c.sh, .int .i64 c.p0, .int .i64 c.p1, .int .i64 c.p2, .int .i64 c.cy, .int .i64 c.ex, .int .i64 c.fi, .int .i64 c.la, .int .i64 c.po] 24)
  have U := Go.Proofs.YtkfogmaogfgcgaaGreatDoor.Bx.Tri.new (w.alloc (.cells #[.string c.nm, .int .i64 c.k, .int .i64 c.d, .int .i64 c.m, .int .i64 c.s, .int .i64 c.sh, .int .i64 c.p0, .int .i64 c.p1, .int .i64 c.p2, .int .i64 c.cy, .int .i64 c.ex, .int .i64 c.fi, .int .i64 c.la, .int .i64 c.po] 24)) (.int .i64 m) (.int .i64 y) (.int .i64 i) 26
  rw [World.size_alloc] at U
  replace C := C.alloc (.cells #[.int .i64 m, .int .i64 y, .int .i64 i] 26)
  replace B := balloc B (.cells #[.int .i64 m, .int .i64 y, .int .i64 i] 26)
  replace T := T.alloc (.cells #[.int .i64 m, .int .i64 y, .int .i64 i] 26)
  go_enter Tryz.func3, Tryz.ntmps3
  go_upto_region 1 with fail
  generalize (w.alloc (.cells #[.string c.nm, .int .i64 c.k, .int .i64 c.d, .int .i64 c.m, .int .i64 c.s, .int .i64 c.sh, .int .i64 c.p0, .int .i64 c.p1, .int .i64 c.p2, .int .i64 c.cy, .int .i64 c.ex, .int .i64 c.fi, .int .i64 c.la, .int .i64 c.po] 24)).alloc (.cells #[.int .i64 m, .int .i64 y, .int .i64 i] 26) = W0 at *
  obtain ⟨_, c0, c1, c2, c3, c4, c5, c6, c7, c8, c9, c10, c11, c12, c13⟩ := id C
  obtain ⟨_, u0, u1, u2, fu0, fu1, fu2⟩ := id U
  go_wp2_with fail
  refine (dlive_ok _ T).mono ?_
  rintro e w1 ⟨rfl, hb⟩
  replace C := C.kept hb
  replace B := bthen B hb
  replace T := T.kept hb
  replace U := U.kept hb
  clear hb c0 c1 c2 c3 c4 c5 c6 c7 c8 c9 c10 c11 c12 c13 u0 u1 u2 fu0 fu1 fu2
  obtain ⟨_, c0, c1, c2, c3, c4, c5, c6, c7, c8, c9, c10, c11, c12, c13⟩ := id C
  obtain ⟨_, u0, u1, u2, fu0, fu1, fu2⟩ := id U
  go_wp2
  go_ret
  exact ⟨rfl, B⟩

set_option maxRecDepth 100000 in
theorem fdoes_any (c : CalZ) (d L m y i p q r e1 p2 q2 r2 e2 p3 q3 r3 e3 : Int) (w : World) (tb : FTab w) (dl : decide ((100 : Int) < (c.nm.size : Int)) = false)
    (k1 : ∀ w, FTab w → Calls Tryz.prog 9 #[.agg #[.string c.nm, .int .i64 c.k, .int .i64 c.d, .int .i64 c.m, .int .i64 c.s, .int .i64 c.sh, .int .i64 c.p0, .int .i64 c.p1, .int .i64 c.p2, .int .i64 c.cy, .int .i64 c.ex, .int .i64 c.fi, .int .i64 c.la, .int .i64 c.po], .int .i64 d, .int .i64 L] w fun e w' => e = .returned (.tuple #[.agg #[.int .i64 p, .int .i64 q, .int .i64 r], .int .i64 e1]) ∧ Below w.heap.size w w')
    (k2 : ∀ w, FTab w → Calls Tryz.prog 10 #[.agg #[.string c.nm, .int .i64 c.k, .int .i64 c.d, .int .i64 c.m, .int .i64 c.s, .int .i64 c.sh, .int .i64 c.p0, .int .i64 c.p1, .int .i64 c.p2, .int .i64 c.cy, .int .i64 c.ex, .int .i64 c.fi, .int .i64 c.la, .int .i64 c.po], .int .i64 d, .int .i64 L] w fun e w' => e = .returned (.tuple #[.agg #[.int .i64 p, .int .i64 q, .int .i64 r], .int .i64 e1]) ∧ Below w.heap.size w w')
    (k3 : ∀ w, FTab w → Calls Tryz.prog 11 #[.agg #[.string c.nm, .int .i64 c.k, .int .i64 c.d, .int .i64 c.m, .int .i64 c.s, .int .i64 c.sh, .int .i64 c.p0, .int .i64 c.p1, .int .i64 c.p2, .int .i64 c.cy, .int .i64 c.ex, .int .i64 c.fi, .int .i64 c.la, .int .i64 c.po], .agg #[.int .i64 m, .int .i64 y, .int .i64 i]] w fun e w' => e = .returned (.tuple #[.agg #[.int .i64 p2, .int .i64 q2, .int .i64 r2], .int .i64 e2]) ∧ Below w.heap.size w w')
    (k4 : ∀ w, FTab w → Calls Tryz.prog 12 #[.agg #[.string c.nm, .int .i64 c.k, .int .i64 c.d, .int .i64 c.m, .int .i64 c.s, .int .i64 c.sh, .int .i64 c.p0, .int .i64 c.p1, .int .i64 c.p2, .int .i64 c.cy, .int .i64 c.ex, .int .i64 c.fi, .int .i64 c.la, .int .i64 c.po], .agg #[.int .i64 m, .int .i64 y, .int .i64 i]] w fun e w' => e = .returned (.tuple #[.agg #[.int .i64 p2, .int .i64 q2, .int .i64 r2], .int .i64 e2]) ∧ Below w.heap.size w w')
    (k5 : ∀ w, FTab w → Calls Tryz.prog 13 #[.agg #[.string c.nm, .int .i64 c.k, .int .i64 c.d, .int .i64 c.m, .int .i64 c.s, .int .i64 c.sh, .int .i64 c.p0, .int .i64 c.p1, .int .i64 c.p2, .int .i64 c.cy, .int .i64 c.ex, .int .i64 c.fi, .int .i64 c.la, .int .i64 c.po], .agg #[.int .i64 m, .int .i64 y, .int .i64 i]] w fun e w' => e = .returned (.tuple #[.agg #[.int .i64 p3, .int .i64 q3, .int .i64 r3], .int .i64 e3]) ∧ Below w.heap.size w w')
    (k6 : ∀ w, FTab w → Calls Tryz.prog 14 #[.agg #[.string c.nm, .int .i64 c.k, .int .i64 c.d, .int .i64 c.m, .int .i64 c.s, .int .i64 c.sh, .int .i64 c.p0, .int .i64 c.p1, .int .i64 c.p2, .int .i64 c.cy, .int .i64 c.ex, .int .i64 c.fi, .int .i64 c.la, .int .i64 c.po], .agg #[.int .i64 m, .int .i64 y, .int .i64 i]] w fun e w' => e = .returned (.tuple #[.agg #[.int .i64 p3, .int .i64 q3, .int .i64 r3], .int .i64 e3]) ∧ Below w.heap.size w w') :
    Calls Tryz.prog 3 #[.agg #[.string c.nm, .int .i64 c.k, .int .i64 c.d, .int .i64 c.m, .int .i64 c.s, .int .i64 c.sh, .int .i64 c.p0, .int .i64 c.p1, .int .i64 c.p2, .int .i64 c.cy, .int .i64 c.ex, .int .i64 c.fi, .int .i64 c.la, .int .i64 c.po], .int .i64 d, .int .i64 L, .agg #[.int .i64 m, .int .i64 y, .int .i64 i]] w fun e w' => e = .returned (.bool true) ∧ Below w.heap.size w w' := by
  have T := tb
  have C := CalIn.new w c 24
  have B := balloc (Below.refl _ w) (.cells #[.string c.nm, .int .i64 c.k, .int .i64 c.d, .int .i64 c.m, .int .i64 c.s, .int .i64 c.sh, .int .i64 c.p0, .int .i64 c.p1, .int .i64 c.p2, .int .i64 c.cy, .int .i64 c.ex, .int .i64 c.fi, .int .i64 c.la, .int .i64 c.po] 24)
  replace T := T.alloc (.cells #[.string c.nm, .int .i64 c.k, .int .i64 c.d, .int .i64 c.m, .int .i64 c.s, .int .i64 c.sh, .int .i64 c.p0, .int .i64 c.p1, .int .i64 c.p2, .int .i64 c.cy, .int .i64 c.ex, .int .i64 c.fi, .int .i64 c.la, .int .i64 c.po] 24)
  have U := Go.Proofs.YtkfogmaogfgcgaaGreatDoor.Bx.Tri.new (w.alloc (.cells #[.string c.nm, .int .i64 c.k, .int .i64 c.d, .int .i64 c.m, .int .i64 c.s, .int .i64 c.sh, .int .i64 c.p0, .int .i64 c.p1, .int .i64 c.p2, .int .i64 c.cy, .int .i64 c.ex, .int .i64 c.fi, .int .i64 c.la, .int .i64 c.po] 24)) (.int .i64 m) (.int .i64 y) (.int .i64 i) 26
  rw [World.size_alloc] at U
  replace C := C.alloc (.cells #[.int .i64 m, .int .i64 y, .int .i64 i] 26)
  replace B := balloc B (.cells #[.int .i64 m, .int .i64 y, .int .i64 i] 26)
  replace T := T.alloc (.cells #[.int .i64 m, .int .i64 y, .int .i64 i] 26)
  have n0 : (p == p) = true := beq_self_eq_true p
  have n1 : (q == q) = true := beq_self_eq_true q
  have n2 : (r == r) = true := beq_self_eq_true r
  have n3 : (e1 == e1) = true := beq_self_eq_true e1
  have n4 : (p2 == p2) = true := beq_self_eq_true p2
  have n5 : (q2 == q2) = true := beq_self_eq_true q2
  have n6 : (r2 == r2) = true := beq_self_eq_true r2
  have n7 : (e2 == e2) = true := beq_self_eq_true e2
  have n8 : (p3 == p3) = true := beq_self_eq_true p3
  have n9 : (q3 == q3) = true := beq_self_eq_true q3
  have n10 : (r3 == r3) = true := beq_self_eq_true r3
  have n11 : (e3 == e3) = true := beq_self_eq_true e3
  go_enter Tryz.func3, Tryz.ntmps3
  go_upto_region 1 with fail
  generalize (w.alloc (.cells #[.string c.nm, .int .i64 c.k, .int .i64 c.d, .int .i64 c.m, .int .i64 c.s, .int .i64 c.sh, .int .i64 c.p0, .int .i64 c.p1, .int .i64 c.p2, .int .i64 c.cy, .int .i64 c.ex, .int .i64 c.fi, .int .i64 c.la, .int .i64 c.po] 24)).alloc (.cells #[.int .i64 m, .int .i64 y, .int .i64 i] 26) = W0 at *
  obtain ⟨_, c0, c1, c2, c3, c4, c5, c6, c7, c8, c9, c10, c11, c12, c13⟩ := id C
  obtain ⟨_, u0, u1, u2, fu0, fu1, fu2⟩ := id U
  go_wp2_with fail
  refine (dlive_ok _ T).mono ?_
  rintro e w1 ⟨rfl, hb⟩
  replace C := C.kept hb
  replace B := bthen B hb
  replace T := T.kept hb
  replace U := U.kept hb
  clear hb c0 c1 c2 c3 c4 c5 c6 c7 c8 c9 c10 c11 c12 c13 u0 u1 u2 fu0 fu1 fu2
  obtain ⟨_, c0, c1, c2, c3, c4, c5, c6, c7, c8, c9, c10, c11, c12, c13⟩ := id C
  obtain ⟨_, u0, u1, u2, fu0, fu1, fu2⟩ := id U
  go_wp2_with fail
  refine (k1 _ T).mono ?_
  rintro e w21 ⟨rfl, hb⟩
  replace C := C.kept hb
  replace T := T.kept hb
  replace U := U.kept hb
  replace B := bthen B hb
  have X1 := Go.Proofs.YtkfogmaogfgcgaaGreatDoor.Bx.Tri.new (w21) (.int .i64 p) (.int .i64 q) (.int .i64 r) 26
  replace C := C.alloc (.cells #[.int .i64 p, .int .i64 q, .int .i64 r] 26)
  replace T := T.alloc (.cells #[.int .i64 p, .int .i64 q, .int .i64 r] 26)
  replace U := U.alloc (.cells #[.int .i64 p, .int .i64 q, .int .i64 r] 26)
  replace B := balloc B (.cells #[.int .i64 p, .int .i64 q, .int .i64 r] 26)
  clear hb c0 c1 c2 c3 c4 c5 c6 c7 c8 c9 c10 c11 c12 c13 u0 u1 u2 fu0 fu1 fu2 k1
  go_upto_region 6 with fail
  generalize (w21).alloc (.cells #[.int .i64 p, .int .i64 q, .int .i64 r] 26) = W21 at *
  obtain ⟨_, c0, c1, c2, c3, c4, c5, c6, c7, c8, c9, c10, c11, c12, c13⟩ := id C
  obtain ⟨_, u0, u1, u2, fu0, fu1, fu2⟩ := id U
  go_wp2_with fail
  refine (k2 _ T).mono ?_
  rintro e w22 ⟨rfl, hb⟩
  replace C := C.kept hb
  replace T := T.kept hb
  replace U := U.kept hb
  replace X1 := X1.kept hb
  replace B := bthen B hb
  have X2 := Go.Proofs.YtkfogmaogfgcgaaGreatDoor.Bx.Tri.new (w22) (.int .i64 p) (.int .i64 q) (.int .i64 r) 26
  replace C := C.alloc (.cells #[.int .i64 p, .int .i64 q, .int .i64 r] 26)
  replace T := T.alloc (.cells #[.int .i64 p, .int .i64 q, .int .i64 r] 26)
  replace U := U.alloc (.cells #[.int .i64 p, .int .i64 q, .int .i64 r] 26)
  replace X1 := X1.alloc (.cells #[.int .i64 p, .int .i64 q, .int .i64 r] 26)
  replace B := balloc B (.cells #[.int .i64 p, .int .i64 q, .int .i64 r] 26)
  clear hb c0 c1 c2 c3 c4 c5 c6 c7 c8 c9 c10 c11 c12 c13 u0 u1 u2 fu0 fu1 fu2 k2
  go_upto_region 7 with fail
  generalize (w22).alloc (.cells #[.int .i64 p, .int .i64 q, .int .i64 r] 26) = W22 at *
  obtain ⟨_, c0, c1, c2, c3, c4, c5, c6, c7, c8, c9, c10, c11, c12, c13⟩ := id C
  obtain ⟨_, u0, u1, u2, fu0, fu1, fu2⟩ := id U
  go_wp2_with fail
  refine (k3 _ T).mono ?_
  rintro e w23 ⟨rfl, hb⟩
  replace C := C.kept hb
  replace T := T.kept hb
  replace U := U.kept hb
  replace X1 := X1.kept hb
  replace X2 := X2.kept hb
  replace B := bthen B hb
  have X3 := Go.Proofs.YtkfogmaogfgcgaaGreatDoor.Bx.Tri.new (w23) (.int .i64 p2) (.int .i64 q2) (.int .i64 r2) 26
  replace C := C.alloc (.cells #[.int .i64 p2, .int .i64 q2, .int .i64 r2] 26)
  replace T := T.alloc (.cells #[.int .i64 p2, .int .i64 q2, .int .i64 r2] 26)
  replace U := U.alloc (.cells #[.int .i64 p2, .int .i64 q2, .int .i64 r2] 26)
  replace X1 := X1.alloc (.cells #[.int .i64 p2, .int .i64 q2, .int .i64 r2] 26)
  replace X2 := X2.alloc (.cells #[.int .i64 p2, .int .i64 q2, .int .i64 r2] 26)
  replace B := balloc B (.cells #[.int .i64 p2, .int .i64 q2, .int .i64 r2] 26)
  clear hb c0 c1 c2 c3 c4 c5 c6 c7 c8 c9 c10 c11 c12 c13 u0 u1 u2 fu0 fu1 fu2 k3
  go_upto_region 8 with fail
  generalize (w23).alloc (.cells #[.int .i64 p2, .int .i64 q2, .int .i64 r2] 26) = W23 at *
  obtain ⟨_, c0, c1, c2, c3, c4, c5, c6, c7, c8, c9, c10, c11, c12, c13⟩ := id C
  obtain ⟨_, u0, u1, u2, fu0, fu1, fu2⟩ := id U
  go_wp2_with fail
  refine (k4 _ T).mono ?_
  rintro e w24 ⟨rfl, hb⟩
  replace C := C.kept hb
  replace T := T.kept hb
  replace U := U.kept hb
  replace X1 := X1.kept hb
  replace X2 := X2.kept hb
  replace X3 := X3.kept hb
  replace B := bthen B hb
  have X4 := Go.Proofs.YtkfogmaogfgcgaaGreatDoor.Bx.Tri.new (w24) (.int .i64 p2) (.int .i64 q2) (.int .i64 r2) 26
  replace C := C.alloc (.cells #[.int .i64 p2, .int .i64 q2, .int .i64 r2] 26)
  replace T := T.alloc (.cells #[.int .i64 p2, .int .i64 q2, .int .i64 r2] 26)
  replace U := U.alloc (.cells #[.int .i64 p2, .int .i64 q2, .int .i64 r2] 26)
  replace X1 := X1.alloc (.cells #[.int .i64 p2, .int .i64 q2, .int .i64 r2] 26)
  replace X2 := X2.alloc (.cells #[.int .i64 p2, .int .i64 q2, .int .i64 r2] 26)
  replace X3 := X3.alloc (.cells #[.int .i64 p2, .int .i64 q2, .int .i64 r2] 26)
  replace B := balloc B (.cells #[.int .i64 p2, .int .i64 q2, .int .i64 r2] 26)
  clear hb c0 c1 c2 c3 c4 c5 c6 c7 c8 c9 c10 c11 c12 c13 u0 u1 u2 fu0 fu1 fu2 k4
  go_upto_region 9 with fail
  generalize (w24).alloc (.cells #[.int .i64 p2, .int .i64 q2, .int .i64 r2] 26) = W24 at *
  obtain ⟨_, c0, c1, c2, c3, c4, c5, c6, c7, c8, c9, c10, c11, c12, c13⟩ := id C
  obtain ⟨_, u0, u1, u2, fu0, fu1, fu2⟩ := id U
  go_wp2_with fail
  refine (k5 _ T).mono ?_
  rintro e w25 ⟨rfl, hb⟩
  replace C := C.kept hb
  replace T := T.kept hb
  replace U := U.kept hb
  replace X1 := X1.kept hb
  replace X2 := X2.kept hb
  replace X3 := X3.kept hb
  replace X4 := X4.kept hb
  replace B := bthen B hb
  have X5 := Go.Proofs.YtkfogmaogfgcgaaGreatDoor.Bx.Tri.new (w25) (.int .i64 p3) (.int .i64 q3) (.int .i64 r3) 26
  replace C := C.alloc (.cells #[.int .i64 p3, .int .i64 q3, .int .i64 r3] 26)
  replace T := T.alloc (.cells #[.int .i64 p3, .int .i64 q3, .int .i64 r3] 26)
  replace U := U.alloc (.cells #[.int .i64 p3, .int .i64 q3, .int .i64 r3] 26)
  replace X1 := X1.alloc (.cells #[.int .i64 p3, .int .i64 q3, .int .i64 r3] 26)
  replace X2 := X2.alloc (.cells #[.int .i64 p3, .int .i64 q3, .int .i64 r3] 26)
  replace X3 := X3.alloc (.cells #[.int .i64 p3, .int .i64 q3, .int .i64 r3] 26)
  replace X4 := X4.alloc (.cells #[.int .i64 p3, .int .i64 q3, .int .i64 r3] 26)
  replace B := balloc B (.cells #[.int .i64 p3, .int .i64 q3, .int .i64 r3] 26)
  clear hb c0 c1 c2 c3 c4 c5 c6 c7 c8 c9 c10 c11 c12 c13 u0 u1 u2 fu0 fu1 fu2 k5
  go_upto_region 10 with fail
  generalize (w25).alloc (.cells #[.int .i64 p3, .int .i64 q3, .int .i64 r3] 26) = W25 at *
  obtain ⟨_, c0, c1, c2, c3, c4, c5, c6, c7, c8, c9, c10, c11, c12, c13⟩ := id C
  obtain ⟨_, u0, u1, u2, fu0, fu1, fu2⟩ := id U
  go_wp2_with fail
  refine (k6 _ T).mono ?_
  rintro e w26 ⟨rfl, hb⟩
  replace C := C.kept hb
  replace T := T.kept hb
  replace U := U.kept hb
  replace X1 := X1.kept hb
  replace X2 := X2.kept hb
  replace X3 := X3.kept hb
  replace X4 := X4.kept hb
  replace X5 := X5.kept hb
  replace B := bthen B hb
  have X6 := Go.Proofs.YtkfogmaogfgcgaaGreatDoor.Bx.Tri.new (w26) (.int .i64 p3) (.int .i64 q3) (.int .i64 r3) 26
  replace C := C.alloc (.cells #[.int .i64 p3, .int .i64 q3, .int .i64 r3] 26)
  replace T := T.alloc (.cells #[.int .i64 p3, .int .i64 q3, .int .i64 r3] 26)
  replace U := U.alloc (.cells #[.int .i64 p3, .int .i64 q3, .int .i64 r3] 26)
  replace X1 := X1.alloc (.cells #[.int .i64 p3, .int .i64 q3, .int .i64 r3] 26)
  replace X2 := X2.alloc (.cells #[.int .i64 p3, .int .i64 q3, .int .i64 r3] 26)
  replace X3 := X3.alloc (.cells #[.int .i64 p3, .int .i64 q3, .int .i64 r3] 26)
  replace X4 := X4.alloc (.cells #[.int .i64 p3, .int .i64 q3, .int .i64 r3] 26)
  replace X5 := X5.alloc (.cells #[.int .i64 p3, .int .i64 q3, .int .i64 r3] 26)
  replace B := balloc B (.cells #[.int .i64 p3, .int .i64 q3, .int .i64 r3] 26)
  clear hb c0 c1 c2 c3 c4 c5 c6 c7 c8 c9 c10 c11 c12 c13 u0 u1 u2 fu0 fu1 fu2 k6
  go_upto_region 11 with fail
  generalize (w26).alloc (.cells #[.int .i64 p3, .int .i64 q3, .int .i64 r3] 26) = W26 at *
  obtain ⟨_, c0, c1, c2, c3, c4, c5, c6, c7, c8, c9, c10, c11, c12, c13⟩ := id C
  obtain ⟨_, u0, u1, u2, fu0, fu1, fu2⟩ := id U
  obtain ⟨_, x10, x11, x12, fx10, fx11, fx12⟩ := id X1
  obtain ⟨_, x20, x21, x22, fx20, fx21, fx22⟩ := id X2
  obtain ⟨_, x30, x31, x32, fx30, fx31, fx32⟩ := id X3
  obtain ⟨_, x40, x41, x42, fx40, fx41, fx42⟩ := id X4
  obtain ⟨_, x50, x51, x52, fx50, fx51, fx52⟩ := id X5
  obtain ⟨_, x60, x61, x62, fx60, fx61, fx62⟩ := id X6
  go_wp2
  go_ret
  exact ⟨by simp, B⟩

theorem fdoes_walk (c : CalZ) (d L m y i : Int) (w : World) (wf : CalWf c) (wd : (Lit.int .i64 d).wf = true) (wL : (Lit.int .i64 L).wf = true) (wm : (Lit.int .i64 m).wf = true) (wy : (Lit.int .i64 y).wf = true) (wi : (Lit.int .i64 i).wf = true) (tb : FTab w) :
    Calls Tryz.prog 3 #[.agg #[.string c.nm, .int .i64 c.k, .int .i64 c.d, .int .i64 c.m, .int .i64 c.s, .int .i64 c.sh, .int .i64 c.p0, .int .i64 c.p1, .int .i64 c.p2, .int .i64 c.cy, .int .i64 c.ex, .int .i64 c.fi, .int .i64 c.la, .int .i64 c.po], .int .i64 d, .int .i64 L, .agg #[.int .i64 m, .int .i64 y, .int .i64 i]] w fun e w' => e = .returned (.bool true) ∧ Below w.heap.size w w' := by
  have hm := wf.1
  have K : ChkSays c := fun h w R => Go.Proofs.YtkfogmaogfgcgaaGreatDoor.Fr.rCheck_any c h w R hm
  have O : OfSays c := fun n y er w R => Go.Proofs.YtkfogmaogfgcgaaGreatDoor.Jr.rOf_any c n y er w R K
  by_cases hl : 100 < c.nm.size
  · exact fdoes_long c d L m y i w tb (decide_eq_true (by omega))
  have dl : decide ((100 : Int) < (c.nm.size : Int)) = false := decide_eq_false (by omega)
  obtain ⟨p, q, r, e1, R1⟩ := daya_ex c d L
  obtain ⟨p2, q2, r2, e2, R2, S2⟩ := next_cases c m y i
  obtain ⟨p3, q3, r3, e3, R3, S3⟩ := back_cases c m y i
  exact fdoes_any c d L m y i p q r e1 p2 q2 r2 e2 p3 q3 r3 e3 w tb dl (fun w T => Day_any c d L p q r e1 w R1 hm T) (fun w T => rDay17_any c d L p q r e1 w R1 K O hm T) (fun w T => Next_any c m y i p2 q2 r2 e2 w R2 hm T) (fun w T => rNext_any c m y i p2 q2 r2 e2 w S2 K hm T) (fun w T => Back_any c m y i p3 q3 r3 e3 w R3 hm T) (fun w T => rBack_any c m y i p3 q3 r3 e3 w S3 K hm T)

end Go.Proofs.YtkfogmaogfgcgaaGreatDoor.Dl
