/- CompWeeks' walk. -/
import Derived.Test.YtjiifmdjhdhabaaGreatDoorMrwk
import Derived.Test.YtjiifmdjhdhabaaGreatDoorJM
import Derived.Test.YtjiifmdjhdhabaaGreatDoorMlive
import Derived.Test.YtjiifmdjhdhabaaGreatDoorFcal
import Derived.Test.YtjiifmdjhdhabaaGreatDoorHquar
namespace Go.Proofs.YtjiifmdjhdhabaaGreatDoor.Ml
set_option linter.unusedSimpArgs false
set_option linter.unusedVariables false
open Go.RowKit Go.Maps Go.Proofs.YtjiifmdjhdhabaaGreatDoor.Bn Go.Proofs.YtjiifmdjhdhabaaGreatDoor.Bx Go.Proofs.YtjiifmdjhdhabaaGreatDoor.Cp Go.Proofs.YtjiifmdjhdhabaaGreatDoor.Am Go.Proofs.YtjiifmdjhdhabaaGreatDoor.Fp Go.Proofs.YtjiifmdjhdhabaaGreatDoor.Ap Go.Proofs.YtjiifmdjhdhabaaGreatDoor.Ar Go.Proofs.YtjiifmdjhdhabaaGreatDoor.Cm Go.Proofs.YtjiifmdjhdhabaaGreatDoor.Em Go.Proofs.YtjiifmdjhdhabaaGreatDoor.Ep Go.Proofs.YtjiifmdjhdhabaaGreatDoor.Rk Go.Proofs.YtjiifmdjhdhabaaGreatDoor.Hp Go.Proofs.YtjiifmdjhdhabaaGreatDoor.Hr Go.Proofs.YtjiifmdjhdhabaaGreatDoor.Mr Go.Proofs.YtjiifmdjhdhabaaGreatDoor.Mp

set_option maxHeartbeats 8000000

set_option maxRecDepth 100000 in
theorem cw_long (c : CalZ) (y t x : Int) (w : World) (tb : FTab w) (dl : decide ((100 : Int) < (c.nm.size : Int)) = true) :
    Calls Tryz.prog 5 #[.agg #[.string c.nm, .int .i64 c.k, .int .i64 c.d, .int .i64 c.m, .int .i64 c.s, .int .i64 c.sh, .int .i64 c.p0, .int .i64 c.p1, .int .i64 c.p2, .int .i64 c.cy, .int .i64 c.ex, .int .i64 c.fi, .int .i64 c.la, .int .i64 c.po], .int .i64 y, .int .i64 t, .int .i64 x] w fun e w' => e = .returned (.bool true) ∧ Below w.heap.size w w' := by
  have T := tb
  have C := CalIn.new w c 24
  have B := balloc (Below.refl _ w) (.cells #[.string c.nm, .int .i64 c.k, .int .i64 c.d, .int .i64 c.m, .int .i64 c.s, .int .i64 c.sh, .int .i64 c.p0, .int .i64 c.p1, .int .i64 c.p2, .int .i64 c.cy, .int .i64 c.ex, .int .i64 c.fi, .int .i64 c.la, .int .i64 c.po] 24)
  replace T := T.alloc (.cells #[.string c.nm, .int .i64 c.k, .int .i64 c.d, .int .i64 c.m, .int .i64 c.s, .int .i64 c.sh, .int .i64 c.p0, .int .i64 c.p1, .int .i64 c.p2, .int .i64 c.cy, .int .i64 c.ex, .int .i64 c.fi, .int .i64 c.la, .int .i64 c.po] 24)
  go_enter Tryz.func5, Tryz.ntmps5
  go_upto_region 1 with fail
  generalize w.alloc (.cells #[.string c.nm, .int .i64 c.k, .int .i64 c.d, .int .i64 c.m, .int .i64 c.s, .int .i64 c.sh, .int .i64 c.p0, .int .i64 c.p1, .int .i64 c.p2, .int .i64 c.cy, .int .i64 c.ex, .int .i64 c.fi, .int .i64 c.la, .int .i64 c.po] 24) = W0 at *
  obtain ⟨_, c0, c1, c2, c3, c4, c5, c6, c7, c8, c9, c10, c11, c12, c13⟩ := id C
  go_wp2_with fail
  refine (mlive_ok _ T).mono ?_
  rintro e w1 ⟨rfl, hb⟩
  replace C := C.kept hb
  replace B := bthen B hb
  replace T := T.kept hb
  clear hb c0 c1 c2 c3 c4 c5 c6 c7 c8 c9 c10 c11 c12 c13 
  obtain ⟨_, c0, c1, c2, c3, c4, c5, c6, c7, c8, c9, c10, c11, c12, c13⟩ := id C
  go_wp2
  go_ret
  exact ⟨rfl, B⟩

set_option maxRecDepth 100000 in
theorem cw_any (c : CalZ) (y t x v er : Int) (w : World) (tb : FTab w) (hm : c.nm.size ≤ maxLen) (dl : decide ((100 : Int) < (c.nm.size : Int)) = false) (R : CWeekA c y t x v er) (K : ChkSays c) :
    Calls Tryz.prog 5 #[.agg #[.string c.nm, .int .i64 c.k, .int .i64 c.d, .int .i64 c.m, .int .i64 c.s, .int .i64 c.sh, .int .i64 c.p0, .int .i64 c.p1, .int .i64 c.p2, .int .i64 c.cy, .int .i64 c.ex, .int .i64 c.fi, .int .i64 c.la, .int .i64 c.po], .int .i64 y, .int .i64 t, .int .i64 x] w fun e w' => e = .returned (.bool true) ∧ Below w.heap.size w w' := by
  have T := tb
  have C := CalIn.new w c 24
  have B := balloc (Below.refl _ w) (.cells #[.string c.nm, .int .i64 c.k, .int .i64 c.d, .int .i64 c.m, .int .i64 c.s, .int .i64 c.sh, .int .i64 c.p0, .int .i64 c.p1, .int .i64 c.p2, .int .i64 c.cy, .int .i64 c.ex, .int .i64 c.fi, .int .i64 c.la, .int .i64 c.po] 24)
  replace T := T.alloc (.cells #[.string c.nm, .int .i64 c.k, .int .i64 c.d, .int .i64 c.m, .int .i64 c.s, .int .i64 c.sh, .int .i64 c.p0, .int .i64 c.p1, .int .i64 c.p2, .int .i64 c.cy, .int .i64 c.ex, .int .i64 c.fi, .int .i64 c.la, .int .i64 c.po] 24)
  have q1 := fun w T => Week_any c y t x v er w R hm T
  have q2 := fun w T => rWeek_any c y t x v er w R K hm T
  have n2 : (v == v) = true := beq_self_eq_true v
  have n3 : (er == er) = true := beq_self_eq_true er
  clear R K
  go_enter Tryz.func5, Tryz.ntmps5
  go_upto_region 1 with fail
  generalize w.alloc (.cells #[.string c.nm, .int .i64 c.k, .int .i64 c.d, .int .i64 c.m, .int .i64 c.s, .int .i64 c.sh, .int .i64 c.p0, .int .i64 c.p1, .int .i64 c.p2, .int .i64 c.cy, .int .i64 c.ex, .int .i64 c.fi, .int .i64 c.la, .int .i64 c.po] 24) = W0 at *
  obtain ⟨_, c0, c1, c2, c3, c4, c5, c6, c7, c8, c9, c10, c11, c12, c13⟩ := id C
  go_wp2_with fail
  refine (mlive_ok _ T).mono ?_
  rintro e w1 ⟨rfl, hb⟩
  replace C := C.kept hb
  replace B := bthen B hb
  replace T := T.kept hb
  clear hb c0 c1 c2 c3 c4 c5 c6 c7 c8 c9 c10 c11 c12 c13 
  obtain ⟨_, c0, c1, c2, c3, c4, c5, c6, c7, c8, c9, c10, c11, c12, c13⟩ := id C
  go_wp2_with fail
  refine (q1 _ T).mono ?_
  rintro e w2 ⟨rfl, hb⟩
  replace C := C.kept hb
  replace B := bthen B hb
  replace T := T.kept hb
  clear hb c0 c1 c2 c3 c4 c5 c6 c7 c8 c9 c10 c11 c12 c13 
  obtain ⟨_, c0, c1, c2, c3, c4, c5, c6, c7, c8, c9, c10, c11, c12, c13⟩ := id C
  go_wp2_with fail
  refine (q2 _ T).mono ?_
  rintro e w3 ⟨rfl, hb⟩
  replace C := C.kept hb
  replace B := bthen B hb
  replace T := T.kept hb
  clear hb c0 c1 c2 c3 c4 c5 c6 c7 c8 c9 c10 c11 c12 c13 
  obtain ⟨_, c0, c1, c2, c3, c4, c5, c6, c7, c8, c9, c10, c11, c12, c13⟩ := id C
  go_wp2
  go_ret
  exact ⟨by simp, B⟩

theorem cweeks_walk (c : CalZ) (y t x : Int) (w : World) (wf : CalWf c) (wy : (Lit.int .i64 y).wf = true) (wt : (Lit.int .i64 t).wf = true) (wx : (Lit.int .i64 x).wf = true) (tb : FTab w) :
    Calls Tryz.prog 5 #[.agg #[.string c.nm, .int .i64 c.k, .int .i64 c.d, .int .i64 c.m, .int .i64 c.s, .int .i64 c.sh, .int .i64 c.p0, .int .i64 c.p1, .int .i64 c.p2, .int .i64 c.cy, .int .i64 c.ex, .int .i64 c.fi, .int .i64 c.la, .int .i64 c.po], .int .i64 y, .int .i64 t, .int .i64 x] w fun e w' => e = .returned (.bool true) ∧ Below w.heap.size w w' := by
  have K : ChkSays c := fun h w R => Go.Proofs.YtjiifmdjhdhabaaGreatDoor.Fr.rCheck_any c h w R wf.1
  by_cases hl : 100 < c.nm.size
  · exact cw_long c y t x w tb (decide_eq_true (by omega))
  have dl : decide ((100 : Int) < (c.nm.size : Int)) = false := decide_eq_false (by omega)
  obtain ⟨v, er, R⟩ := cweek_ex c y t x
  exact cw_any c y t x v er w tb wf.1 dl R K

end Go.Proofs.YtjiifmdjhdhabaaGreatDoor.Ml
