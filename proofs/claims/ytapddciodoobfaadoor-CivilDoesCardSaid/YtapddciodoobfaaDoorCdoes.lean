/- CivilDoes' walk: the program and the reference come to the same. -/
import Derived.Test.YtapddciodoobfaaDoorClive
namespace Go.Proofs.YtapddciodoobfaaDoor.Cl
set_option linter.unusedSimpArgs false
set_option linter.unusedVariables false
open Go.RowKit Go.Proofs.YtapddciodoobfaaDoor.Bx Go.Proofs.YtapddciodoobfaaDoor.Cm Go.Proofs.YtapddciodoobfaaDoor.Cp Go.Proofs.YtapddciodoobfaaDoor.Cr

set_option maxHeartbeats 1000000

theorem does_walk (y m d k n : Int) (w : World) (wy : (Lit.int .i64 y).wf = true) (wm : (Lit.int .i64 m).wf = true) (wd : (Lit.int .i64 d).wf = true) (wk : (Lit.int .i64 k).wf = true) (wn : (Lit.int .i64 n).wf = true) (tb : Tab w) :
    Calls Tryd.prog 3 #[.agg #[.int .i64 y, .int .i64 m, .int .i64 d], .int .i64 k, .int .i64 n] w fun e w' => e = .returned (.bool true) ∧ Below w.heap.size w w' := by
  have fy := bounds_i64 wy
  have fm := bounds_i64 wm
  have fd := bounds_i64 wd
  have fk := bounds_i64 wk
  have fn := bounds_i64 wn
  clear wy wm wd wk wn
  have cl := live_ok
  obtain ⟨v, e, r1⟩ := dayres_ex y m d
  obtain ⟨a, b, c, g, r2⟩ := ofres_ex k
  obtain ⟨s, i, r3⟩ := wkdres_ex k
  obtain ⟨u, j, r4⟩ := addres_ex k n
  have cd := fun w => Day_b y m d v e w r1
  have rd := fun w => rDay_any y m d v e w r1
  have co := fun w => Of_b k a b c g w r2
  have ro := fun w => rOf_any k a b c g w r2
  have cw := fun w => Weekday_b k s i w r3
  have rw' := fun w => rWeekday_any k s i w r3
  have ca := fun w => Add_b k n u j w fk fn r4
  have ra := fun w => rAdd_b k n u j w fk fn r4
  clear r1 r2 r3 r4 fy fm fd fk fn
  go_enter Tryd.func3, Tryd.ntmps3
  go_wp2_with fail
  refine (cl _ (by with_reducible first | exact tb.kept B1 | exact (tb.kept B1).alloc _ | exact ((tb.kept B1).alloc _).alloc _ | exact tb | exact tb.alloc _ | exact (tb.alloc _).alloc _ | exact tb.kept (bthen B1 (by first | assumption | exact Below.refl _ _ | exact (Below.refl _ _).drew)))).mono ?_
  rintro e w1 ⟨rfl, hb⟩
  have P1 := (Tri.new w (.int .i64 y) (.int .i64 m) (.int .i64 d) 23).kept hb
  have B1 := bthen (balloc (Below.refl _ w) _) hb
  try simp only [World.size_alloc] at P1
  clear hb
  obtain ⟨z0, c00, c01, c02, _, _, _⟩ := id P1
  go_wp2_with fail
  refine (cd _ (by with_reducible first | exact tb.kept B1 | exact (tb.kept B1).alloc _ | exact ((tb.kept B1).alloc _).alloc _ | exact tb | exact tb.alloc _ | exact (tb.alloc _).alloc _ | exact tb.kept (bthen B1 (by first | assumption | exact Below.refl _ _ | exact (Below.refl _ _).drew)))).mono ?_
  rintro e w2 ⟨rfl, hb⟩
  replace P1 := (P1).kept hb
  replace B1 := bthen (B1) hb
  clear hb z0 c00 c01 c02
  obtain ⟨z0, c00, c01, c02, _, _, _⟩ := id P1
  go_wp2_with fail
  refine (rd _).mono ?_
  rintro e w3 ⟨rfl, hb⟩
  replace P1 := (P1).kept hb
  replace B1 := bthen (B1) hb
  clear hb z0 c00 c01 c02
  obtain ⟨z0, c00, c01, c02, _, _, _⟩ := id P1
  go_wp2_with fail
  refine (co _ (by with_reducible first | exact tb.kept B1 | exact (tb.kept B1).alloc _ | exact ((tb.kept B1).alloc _).alloc _ | exact tb | exact tb.alloc _ | exact (tb.alloc _).alloc _ | exact tb.kept (bthen B1 (by first | assumption | exact Below.refl _ _ | exact (Below.refl _ _).drew)))).mono ?_
  rintro e w4 ⟨rfl, hb⟩
  replace P1 := (P1).kept hb
  replace B1 := bthen (B1) hb
  clear hb z0 c00 c01 c02
  obtain ⟨z0, c00, c01, c02, _, _, _⟩ := id P1
  go_wp2_with fail
  refine (ro _).mono ?_
  rintro e w5 ⟨rfl, hb⟩
  replace P1 := ((P1).alloc (.cells #[.int .i64 a, .int .i64 b, .int .i64 c] 23)).kept hb
  have Q1 := (Tri.new w4 (.int .i64 a) (.int .i64 b) (.int .i64 c) 23).kept hb
  replace B1 := bthen (balloc (B1) _) hb
  try simp only [World.size_alloc] at P1 Q1
  clear hb z0 c00 c01 c02
  obtain ⟨z0, c00, c01, c02, _, _, _⟩ := id P1
  obtain ⟨z1, c10, c11, c12, _, _, _⟩ := id Q1
  go_wp2_with fail
  refine (cw _ (by with_reducible first | exact tb.kept B1 | exact (tb.kept B1).alloc _ | exact ((tb.kept B1).alloc _).alloc _ | exact tb | exact tb.alloc _ | exact (tb.alloc _).alloc _ | exact tb.kept (bthen B1 (by first | assumption | exact Below.refl _ _ | exact (Below.refl _ _).drew)))).mono ?_
  rintro e w6 ⟨rfl, hb⟩
  replace P1 := ((P1).alloc (.cells #[.int .i64 a, .int .i64 b, .int .i64 c] 23)).kept hb
  replace Q1 := ((Q1).alloc (.cells #[.int .i64 a, .int .i64 b, .int .i64 c] 23)).kept hb
  have Q2 := (Tri.new w5 (.int .i64 a) (.int .i64 b) (.int .i64 c) 23).kept hb
  replace B1 := bthen (balloc (B1) _) hb
  try simp only [World.size_alloc] at P1 Q1 Q2
  clear hb z0 c00 c01 c02 z1 c10 c11 c12
  obtain ⟨z0, c00, c01, c02, _, _, _⟩ := id P1
  obtain ⟨z1, c10, c11, c12, _, _, _⟩ := id Q1
  obtain ⟨z2, c20, c21, c22, _, _, _⟩ := id Q2
  go_wp2_with fail
  refine (rw' _).mono ?_
  rintro e w7 ⟨rfl, hb⟩
  replace P1 := (P1).kept hb
  replace Q1 := (Q1).kept hb
  replace Q2 := (Q2).kept hb
  replace B1 := bthen (B1) hb
  clear hb z0 c00 c01 c02 z1 c10 c11 c12 z2 c20 c21 c22
  obtain ⟨z0, c00, c01, c02, _, _, _⟩ := id P1
  obtain ⟨z1, c10, c11, c12, _, _, _⟩ := id Q1
  obtain ⟨z2, c20, c21, c22, _, _, _⟩ := id Q2
  go_wp2_with fail
  refine (ca _ (by with_reducible first | exact tb.kept B1 | exact (tb.kept B1).alloc _ | exact ((tb.kept B1).alloc _).alloc _ | exact tb | exact tb.alloc _ | exact (tb.alloc _).alloc _ | exact tb.kept (bthen B1 (by first | assumption | exact Below.refl _ _ | exact (Below.refl _ _).drew)))).mono ?_
  rintro e w8 ⟨rfl, hb⟩
  replace P1 := (P1).kept hb
  replace Q1 := (Q1).kept hb
  replace Q2 := (Q2).kept hb
  replace B1 := bthen (B1) hb
  clear hb z0 c00 c01 c02 z1 c10 c11 c12 z2 c20 c21 c22
  obtain ⟨z0, c00, c01, c02, _, _, _⟩ := id P1
  obtain ⟨z1, c10, c11, c12, _, _, _⟩ := id Q1
  obtain ⟨z2, c20, c21, c22, _, _, _⟩ := id Q2
  go_wp2_with fail
  refine (ra _).mono ?_
  rintro e w9 ⟨rfl, hb⟩
  replace P1 := (P1).kept hb
  replace Q1 := (Q1).kept hb
  replace Q2 := (Q2).kept hb
  replace B1 := bthen (B1) hb
  clear hb z0 c00 c01 c02 z1 c10 c11 c12 z2 c20 c21 c22
  obtain ⟨z0, c00, c01, c02, _, _, _⟩ := id P1
  obtain ⟨z1, c10, c11, c12, _, _, _⟩ := id Q1
  obtain ⟨z2, c20, c21, c22, _, _, _⟩ := id Q2
  go_wp2
  go_ret
  exact ⟨by simp <;> omega, B1⟩

end Go.Proofs.YtapddciodoobfaaDoor.Cl
