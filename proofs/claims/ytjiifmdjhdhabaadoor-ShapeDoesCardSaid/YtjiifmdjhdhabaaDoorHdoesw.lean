/- ShapeDoes' walk. -/
import Derived.Test.YtjiifmdjhdhabaaDoorHrwk
import Derived.Test.YtjiifmdjhdhabaaDoorHlive
import Derived.Test.YtjiifmdjhdhabaaDoorFcal
namespace Go.Proofs.YtjiifmdjhdhabaaDoor.Hl
set_option linter.unusedSimpArgs false
set_option linter.unusedVariables false
open Go.Proofs.YtjiifmdjhdhabaaDoor.Hp Go.Proofs.YtjiifmdjhdhabaaDoor.Hr Go.RowKit Go.Proofs.YtjiifmdjhdhabaaDoor.Bn Go.Proofs.YtjiifmdjhdhabaaDoor.Bx Go.Proofs.YtjiifmdjhdhabaaDoor.Cp Go.Proofs.YtjiifmdjhdhabaaDoor.Am Go.Proofs.YtjiifmdjhdhabaaDoor.Fp Go.Proofs.YtjiifmdjhdhabaaDoor.Ap Go.Proofs.YtjiifmdjhdhabaaDoor.Ar Go.Proofs.YtjiifmdjhdhabaaDoor.Cm Go.Proofs.YtjiifmdjhdhabaaDoor.Em Go.Proofs.YtjiifmdjhdhabaaDoor.Ep Go.Proofs.YtjiifmdjhdhabaaDoor.Rk

set_option maxHeartbeats 8000000

set_option maxRecDepth 100000 in
theorem sdoes_long (c : CalZ) (y : Int) (w : World) (tb : FTab w) (dl : decide ((100 : Int) < (c.nm.size : Int)) = true) :
    Calls Tryd.prog 3 #[.agg #[.string c.nm, .int .i64 c.k, .int .i64 c.d, .int .i64 c.m, .int .i64 c.s, .int .i64 c.sh, .int .i64 c.p0, .int .i64 c.p1, .int .i64 c.p2, .int .i64 c.cy, .int .i64 c.ex, .int .i64 c.fi, .int .i64 c.la, .int .i64 c.po], .int .i64 y] w fun e w' => e = .returned (.bool true) ∧ Below w.heap.size w w' := by
  have T := tb
  have C := CalIn.new w c 24
  have B := balloc (Below.refl _ w) (.cells #[.string c.nm, .int .i64 c.k, .int .i64 c.d, .int .i64 c.m, .int .i64 c.s, .int .i64 c.sh, .int .i64 c.p0, .int .i64 c.p1, .int .i64 c.p2, .int .i64 c.cy, .int .i64 c.ex, .int .i64 c.fi, .int .i64 c.la, .int .i64 c.po] 24)
  replace T := T.alloc (.cells #[.string c.nm, .int .i64 c.k, .int .i64 c.d, .int .i64 c.m, .int .i64 c.s, .int .i64 c.sh, .int .i64 c.p0, .int .i64 c.p1, .int .i64 c.p2, .int .i64 c.cy, .int .i64 c.ex, .int .i64 c.fi, .int .i64 c.la, .int .i64 c.po] 24)
  go_enter Tryd.func3, Tryd.ntmps3
  go_upto_region 1 with fail
  generalize w.alloc (.cells #[.string c.nm, .int .i64 c.k, .int .i64 c.d, .int .i64 c.m, .int .i64 c.s, .int .i64 c.sh, .int .i64 c.p0, .int .i64 c.p1, .int .i64 c.p2, .int .i64 c.cy, .int .i64 c.ex, .int .i64 c.fi, .int .i64 c.la, .int .i64 c.po] 24) = W0 at *
  obtain ⟨_, c0, c1, c2, c3, c4, c5, c6, c7, c8, c9, c10, c11, c12, c13⟩ := id C
  go_wp2_with fail
  refine (hlive_ok _ T).mono ?_
  rintro e w1 ⟨rfl, hb⟩
  replace C := C.kept hb
  replace B := bthen B hb
  replace T := T.kept hb
  clear hb c0 c1 c2 c3 c4 c5 c6 c7 c8 c9 c10 c11 c12 c13 
  obtain ⟨_, c0, c1, c2, c3, c4, c5, c6, c7, c8, c9, c10, c11, c12, c13⟩ := id C
  go_wp2
  go_ret
  exact ⟨rfl, B⟩

set_option maxRecDepth 100000 in
theorem sdoes_no (c : CalZ) (y er v ea : Int) (w : World) (tb : FTab w) (hm : c.nm.size ≤ maxLen) (dl : decide ((100 : Int) < (c.nm.size : Int)) = false) (N : NoYear c y er) (R : AddedA c y v ea) (K : ChkSays c) :
    Calls Tryd.prog 3 #[.agg #[.string c.nm, .int .i64 c.k, .int .i64 c.d, .int .i64 c.m, .int .i64 c.s, .int .i64 c.sh, .int .i64 c.p0, .int .i64 c.p1, .int .i64 c.p2, .int .i64 c.cy, .int .i64 c.ex, .int .i64 c.fi, .int .i64 c.la, .int .i64 c.po], .int .i64 y] w fun e w' => e = .returned (.bool true) ∧ Below w.heap.size w w' := by
  have T := tb
  have C := CalIn.new w c 24
  have B := balloc (Below.refl _ w) (.cells #[.string c.nm, .int .i64 c.k, .int .i64 c.d, .int .i64 c.m, .int .i64 c.s, .int .i64 c.sh, .int .i64 c.p0, .int .i64 c.p1, .int .i64 c.p2, .int .i64 c.cy, .int .i64 c.ex, .int .i64 c.fi, .int .i64 c.la, .int .i64 c.po] 24)
  replace T := T.alloc (.cells #[.string c.nm, .int .i64 c.k, .int .i64 c.d, .int .i64 c.m, .int .i64 c.s, .int .i64 c.sh, .int .i64 c.p0, .int .i64 c.p1, .int .i64 c.p2, .int .i64 c.cy, .int .i64 c.ex, .int .i64 c.fi, .int .i64 c.la, .int .i64 c.po] 24)
  have q1 := fun w T => Weeks_no c y er w N hm T
  have q2 := fun w T => rWeeks15_no c y er w N K T
  have q3 := fun w T => Ends_no c y er w N hm T
  have q4 := fun w T => rEnds_no c y er w N K T
  have q5 := fun w T => Added_any c y v ea w R hm T
  have q6 := fun w T => rAdded_any c y v ea w R K hm T
  have n1 : (er == er) = true := beq_self_eq_true er
  have n2 : (v == v) = true := beq_self_eq_true v
  have n3 : (ea == ea) = true := beq_self_eq_true ea
  clear N R K
  go_enter Tryd.func3, Tryd.ntmps3
  go_upto_region 1 with fail
  generalize w.alloc (.cells #[.string c.nm, .int .i64 c.k, .int .i64 c.d, .int .i64 c.m, .int .i64 c.s, .int .i64 c.sh, .int .i64 c.p0, .int .i64 c.p1, .int .i64 c.p2, .int .i64 c.cy, .int .i64 c.ex, .int .i64 c.fi, .int .i64 c.la, .int .i64 c.po] 24) = W0 at *
  obtain ⟨_, c0, c1, c2, c3, c4, c5, c6, c7, c8, c9, c10, c11, c12, c13⟩ := id C
  go_wp2_with fail
  refine (hlive_ok _ T).mono ?_
  rintro e w1 ⟨rfl, hb⟩
  replace C := C.kept hb
  replace B := bthen B hb
  replace T := T.kept hb
  clear hb c0 c1 c2 c3 c4 c5 c6 c7 c8 c9 c10 c11 c12 c13 
  obtain ⟨_, c0, c1, c2, c3, c4, c5, c6, c7, c8, c9, c10, c11, c12, c13⟩ := id C
  go_wp2_with fail
  refine (q1 _ T).mono ?_
  rintro e w2 ⟨rfl, hb⟩
  replace C := C.kept hb
  replace B := bthen B hb
  replace T := T.kept hb
  clear hb c0 c1 c2 c3 c4 c5 c6 c7 c8 c9 c10 c11 c12 c13 
  obtain ⟨_, c0, c1, c2, c3, c4, c5, c6, c7, c8, c9, c10, c11, c12, c13⟩ := id C
  go_wp2_with fail
  refine (q2 _ T).mono ?_
  rintro e w3 ⟨rfl, hb⟩
  replace C := C.kept hb
  replace B := bthen B hb
  replace T := T.kept hb
  clear hb c0 c1 c2 c3 c4 c5 c6 c7 c8 c9 c10 c11 c12 c13 
  obtain ⟨_, c0, c1, c2, c3, c4, c5, c6, c7, c8, c9, c10, c11, c12, c13⟩ := id C
  go_wp2_with fail
  refine (q3 _ T).mono ?_
  rintro e w4 ⟨rfl, hb⟩
  replace C := C.kept hb
  replace B := bthen B hb
  replace T := T.kept hb
  clear hb c0 c1 c2 c3 c4 c5 c6 c7 c8 c9 c10 c11 c12 c13 
  obtain ⟨_, c0, c1, c2, c3, c4, c5, c6, c7, c8, c9, c10, c11, c12, c13⟩ := id C
  go_wp2_with fail
  refine (q4 _ T).mono ?_
  rintro e w5 ⟨rfl, hb⟩
  replace C := C.kept hb
  replace B := bthen B hb
  replace T := T.kept hb
  clear hb c0 c1 c2 c3 c4 c5 c6 c7 c8 c9 c10 c11 c12 c13 
  obtain ⟨_, c0, c1, c2, c3, c4, c5, c6, c7, c8, c9, c10, c11, c12, c13⟩ := id C
  go_wp2_with fail
  refine (q5 _ T).mono ?_
  rintro e w6 ⟨rfl, hb⟩
  replace C := C.kept hb
  replace B := bthen B hb
  replace T := T.kept hb
  clear hb c0 c1 c2 c3 c4 c5 c6 c7 c8 c9 c10 c11 c12 c13 
  obtain ⟨_, c0, c1, c2, c3, c4, c5, c6, c7, c8, c9, c10, c11, c12, c13⟩ := id C
  go_wp2_with fail
  refine (q6 _ T).mono ?_
  rintro e w7 ⟨rfl, hb⟩
  replace C := C.kept hb
  replace B := bthen B hb
  replace T := T.kept hb
  clear hb c0 c1 c2 c3 c4 c5 c6 c7 c8 c9 c10 c11 c12 c13 
  obtain ⟨_, c0, c1, c2, c3, c4, c5, c6, c7, c8, c9, c10, c11, c12, c13⟩ := id C
  go_wp2_with fail
  refine (rSame15_nil _).mono ?_
  rintro e w8 ⟨rfl, hb⟩
  replace C := C.kept hb
  replace B := bthen B hb
  replace T := T.kept hb
  clear hb c0 c1 c2 c3 c4 c5 c6 c7 c8 c9 c10 c11 c12 c13 
  obtain ⟨_, c0, c1, c2, c3, c4, c5, c6, c7, c8, c9, c10, c11, c12, c13⟩ := id C
  go_wp2_with fail
  refine (rSame15_nil _).mono ?_
  rintro e w9 ⟨rfl, hb⟩
  replace C := C.kept hb
  replace B := bthen B hb
  replace T := T.kept hb
  clear hb c0 c1 c2 c3 c4 c5 c6 c7 c8 c9 c10 c11 c12 c13 
  obtain ⟨_, c0, c1, c2, c3, c4, c5, c6, c7, c8, c9, c10, c11, c12, c13⟩ := id C
  go_wp2
  go_ret
  exact ⟨by simp, B⟩

set_option maxRecDepth 100000 in
theorem sdoes_ok (c : CalZ) (y v ea : Int) (n : Nat) (w : World) (tb : FTab w) (hm : c.nm.size ≤ maxLen) (dl : decide ((100 : Int) < (c.nm.size : Int)) = false) (ok : CalOk c) (y0 : 1601 ≤ y) (y1 : y ≤ 9997) (hn : (n : Int) = per c) (n52 : n ≤ 52) (R : AddedA c y v ea) (K : ChkSays c) :
    Calls Tryd.prog 3 #[.agg #[.string c.nm, .int .i64 c.k, .int .i64 c.d, .int .i64 c.m, .int .i64 c.s, .int .i64 c.sh, .int .i64 c.p0, .int .i64 c.p1, .int .i64 c.p2, .int .i64 c.cy, .int .i64 c.ex, .int .i64 c.fi, .int .i64 c.la, .int .i64 c.po], .int .i64 y] w fun e w' => e = .returned (.bool true) ∧ Below w.heap.size w w' := by
  have T := tb
  have C := CalIn.new w c 24
  have B := balloc (Below.refl _ w) (.cells #[.string c.nm, .int .i64 c.k, .int .i64 c.d, .int .i64 c.m, .int .i64 c.s, .int .i64 c.sh, .int .i64 c.p0, .int .i64 c.p1, .int .i64 c.p2, .int .i64 c.cy, .int .i64 c.ex, .int .i64 c.fi, .int .i64 c.la, .int .i64 c.po] 24)
  replace T := T.alloc (.cells #[.string c.nm, .int .i64 c.k, .int .i64 c.d, .int .i64 c.m, .int .i64 c.s, .int .i64 c.sh, .int .i64 c.p0, .int .i64 c.p1, .int .i64 c.p2, .int .i64 c.cy, .int .i64 c.ex, .int .i64 c.fi, .int .i64 c.la, .int .i64 c.po] 24)
  have q1 := fun w T => Weeks_ok c y n w ok y0 y1 hn hm T
  have q2 := fun w T => rWeeks15_ok c y n w ok y0 y1 hn K hm T
  have q3 := fun w T => Ends_ok c y n w ok y0 y1 hn hm T
  have q4 := fun w T => rEnds_ok c y n w ok y0 y1 hn K hm T
  have q5 := fun w T => Added_any c y v ea w R hm T
  have q6 := fun w T => rAdded_any c y v ea w R K hm T
  have n2 : (v == v) = true := beq_self_eq_true v
  have n3 : (ea == ea) = true := beq_self_eq_true ea
  clear R K ok hn
  go_enter Tryd.func3, Tryd.ntmps3
  go_upto_region 1 with fail
  generalize w.alloc (.cells #[.string c.nm, .int .i64 c.k, .int .i64 c.d, .int .i64 c.m, .int .i64 c.s, .int .i64 c.sh, .int .i64 c.p0, .int .i64 c.p1, .int .i64 c.p2, .int .i64 c.cy, .int .i64 c.ex, .int .i64 c.fi, .int .i64 c.la, .int .i64 c.po] 24) = W0 at *
  obtain ⟨_, c0, c1, c2, c3, c4, c5, c6, c7, c8, c9, c10, c11, c12, c13⟩ := id C
  go_wp2_with fail
  refine (hlive_ok _ T).mono ?_
  rintro e w1 ⟨rfl, hb⟩
  replace C := C.kept hb
  replace B := bthen B hb
  replace T := T.kept hb
  clear hb c0 c1 c2 c3 c4 c5 c6 c7 c8 c9 c10 c11 c12 c13 
  obtain ⟨_, c0, c1, c2, c3, c4, c5, c6, c7, c8, c9, c10, c11, c12, c13⟩ := id C
  go_wp2_with fail
  refine (q1 _ T).mono ?_
  rintro e w2 ⟨g1, a1, rfl, R1, h1, hb⟩
  replace C := C.kept hb
  replace B := bthen B hb
  replace T := T.kept hb
  clear hb c0 c1 c2 c3 c4 c5 c6 c7 c8 c9 c10 c11 c12 c13 
  obtain ⟨_, c0, c1, c2, c3, c4, c5, c6, c7, c8, c9, c10, c11, c12, c13⟩ := id C
  obtain ⟨_, _, _⟩ := id R1
  go_wp2_with fail
  refine (q2 _ T).mono ?_
  rintro e w3 ⟨g2, a2, rfl, R2, h2, hb, hc2⟩
  replace C := C.kept hb
  replace B := bthen B hb
  replace T := T.kept hb
  replace R1 := R1.kept hb
  clear hb c0 c1 c2 c3 c4 c5 c6 c7 c8 c9 c10 c11 c12 c13 
  obtain ⟨_, c0, c1, c2, c3, c4, c5, c6, c7, c8, c9, c10, c11, c12, c13⟩ := id C
  obtain ⟨_, _, _⟩ := id R1
  obtain ⟨_, _, _⟩ := id R2
  go_wp2_with fail
  refine (q3 _ T).mono ?_
  rintro e w4 ⟨g3, a3, rfl, R3, h3, hb⟩
  replace C := C.kept hb
  replace B := bthen B hb
  replace T := T.kept hb
  replace R1 := R1.kept hb
  replace R2 := R2.kept hb
  clear hb c0 c1 c2 c3 c4 c5 c6 c7 c8 c9 c10 c11 c12 c13 
  obtain ⟨_, c0, c1, c2, c3, c4, c5, c6, c7, c8, c9, c10, c11, c12, c13⟩ := id C
  obtain ⟨_, _, _⟩ := id R1
  obtain ⟨_, _, _⟩ := id R2
  obtain ⟨_, _, _⟩ := id R3
  go_wp2_with fail
  refine (q4 _ T).mono ?_
  rintro e w5 ⟨g4, a4, rfl, R4, h4, hb⟩
  replace C := C.kept hb
  replace B := bthen B hb
  replace T := T.kept hb
  replace R1 := R1.kept hb
  replace R2 := R2.kept hb
  replace R3 := R3.kept hb
  clear hb c0 c1 c2 c3 c4 c5 c6 c7 c8 c9 c10 c11 c12 c13 
  obtain ⟨_, c0, c1, c2, c3, c4, c5, c6, c7, c8, c9, c10, c11, c12, c13⟩ := id C
  obtain ⟨_, _, _⟩ := id R1
  obtain ⟨_, _, _⟩ := id R2
  obtain ⟨_, _, _⟩ := id R3
  obtain ⟨_, _, _⟩ := id R4
  go_wp2_with fail
  refine (q5 _ T).mono ?_
  rintro e w6 ⟨rfl, hb⟩
  replace C := C.kept hb
  replace B := bthen B hb
  replace T := T.kept hb
  replace R1 := R1.kept hb
  replace R2 := R2.kept hb
  replace R3 := R3.kept hb
  replace R4 := R4.kept hb
  clear hb c0 c1 c2 c3 c4 c5 c6 c7 c8 c9 c10 c11 c12 c13 
  obtain ⟨_, c0, c1, c2, c3, c4, c5, c6, c7, c8, c9, c10, c11, c12, c13⟩ := id C
  obtain ⟨_, _, _⟩ := id R1
  obtain ⟨_, _, _⟩ := id R2
  obtain ⟨_, _, _⟩ := id R3
  obtain ⟨_, _, _⟩ := id R4
  go_wp2_with fail
  refine (q6 _ T).mono ?_
  rintro e w7 ⟨rfl, hb⟩
  replace C := C.kept hb
  replace B := bthen B hb
  replace T := T.kept hb
  replace R1 := R1.kept hb
  replace R2 := R2.kept hb
  replace R3 := R3.kept hb
  replace R4 := R4.kept hb
  clear hb c0 c1 c2 c3 c4 c5 c6 c7 c8 c9 c10 c11 c12 c13 
  obtain ⟨_, c0, c1, c2, c3, c4, c5, c6, c7, c8, c9, c10, c11, c12, c13⟩ := id C
  obtain ⟨_, _, _⟩ := id R1
  obtain ⟨_, _, _⟩ := id R2
  obtain ⟨_, _, _⟩ := id R3
  obtain ⟨_, _, _⟩ := id R4
  clear h1 h2 h3 h4 q1 q2 q3 q4 q5 q6
  go_wp2_with fail
  refine (rSame15 g1 g2 n a1 a2 _ _ (by omega) R1 R2).mono ?_
  rintro e w8 ⟨rfl, hb⟩
  replace C := C.kept hb
  replace B := bthen B hb
  replace T := T.kept hb
  replace R1 := R1.kept hb
  replace R2 := R2.kept hb
  replace R3 := R3.kept hb
  replace R4 := R4.kept hb
  clear hb c0 c1 c2 c3 c4 c5 c6 c7 c8 c9 c10 c11 c12 c13 
  obtain ⟨_, c0, c1, c2, c3, c4, c5, c6, c7, c8, c9, c10, c11, c12, c13⟩ := id C
  obtain ⟨_, _, _⟩ := id R1
  obtain ⟨_, _, _⟩ := id R2
  obtain ⟨_, _, _⟩ := id R3
  obtain ⟨_, _, _⟩ := id R4
  go_wp2_with fail
  refine (rSame15 g3 g4 n a3 a4 _ _ (by omega) R3 R4).mono ?_
  rintro e w9 ⟨rfl, hb⟩
  replace C := C.kept hb
  replace B := bthen B hb
  replace T := T.kept hb
  replace R1 := R1.kept hb
  replace R2 := R2.kept hb
  replace R3 := R3.kept hb
  replace R4 := R4.kept hb
  clear hb c0 c1 c2 c3 c4 c5 c6 c7 c8 c9 c10 c11 c12 c13 
  obtain ⟨_, c0, c1, c2, c3, c4, c5, c6, c7, c8, c9, c10, c11, c12, c13⟩ := id C
  obtain ⟨_, _, _⟩ := id R1
  obtain ⟨_, _, _⟩ := id R2
  obtain ⟨_, _, _⟩ := id R3
  obtain ⟨_, _, _⟩ := id R4
  go_wp2
  go_ret
  exact ⟨by simp, B⟩

theorem sdoes_walk (c : CalZ) (y : Int) (w : World) (wf : CalWf c) (wy : (Lit.int .i64 y).wf = true) (tb : FTab w) :
    Calls Tryd.prog 3 #[.agg #[.string c.nm, .int .i64 c.k, .int .i64 c.d, .int .i64 c.m, .int .i64 c.s, .int .i64 c.sh, .int .i64 c.p0, .int .i64 c.p1, .int .i64 c.p2, .int .i64 c.cy, .int .i64 c.ex, .int .i64 c.fi, .int .i64 c.la, .int .i64 c.po], .int .i64 y] w fun e w' => e = .returned (.bool true) ∧ Below w.heap.size w w' := by
  have K : ChkSays c := fun h w R => Go.Proofs.YtjiifmdjhdhabaaDoor.Fr.rCheck_any c h w R wf.1
  by_cases hl : 100 < c.nm.size
  · exact sdoes_long c y w tb (decide_eq_true (by omega))
  have dl : decide ((100 : Int) < (c.nm.size : Int)) = false := decide_eq_false (by omega)
  obtain ⟨v, ea, R⟩ := addeda_ex c y
  rcases year_cases c y with ⟨ok, y0, y1⟩ | ⟨er, N⟩
  · have pb := per_bd ok.1
    exact sdoes_ok c y v ea (per c).toNat w tb wf.1 dl ok y0 y1 (by omega) (by omega) R K
  · exact sdoes_no c y er v ea w tb wf.1 dl N R K

end Go.Proofs.YtjiifmdjhdhabaaDoor.Hl
