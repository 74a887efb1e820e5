/- WeekDoes' walk: the program and the reference come to the same. -/
import Derived.Test.YtodpmdmfdnbehaaDoorElive
import Derived.Test.YtodpmdmfdnbehaaDoorEref
namespace Go.Proofs.YtodpmdmfdnbehaaDoor.El
set_option linter.unusedSimpArgs false
set_option linter.unusedVariables false
open Go.Proofs.YtodpmdmfdnbehaaDoor.Er Go.RowKit Go.Proofs.YtodpmdmfdnbehaaDoor.Bx Go.Proofs.YtodpmdmfdnbehaaDoor.Cm Go.Proofs.YtodpmdmfdnbehaaDoor.Cp Go.Proofs.YtodpmdmfdnbehaaDoor.Em Go.Proofs.YtodpmdmfdnbehaaDoor.Ep

set_option maxHeartbeats 1000000

set_option maxRecDepth 100000 in
theorem wdoes_walk (n y k d z : Int) (w : World) (wn : (Lit.int .i64 n).wf = true) (wy : (Lit.int .i64 y).wf = true) (wk : (Lit.int .i64 k).wf = true) (wd : (Lit.int .i64 d).wf = true) (wz : (Lit.int .i64 z).wf = true) (tb : Tab w) :
    Calls Tryd.prog 3 #[.int .i64 n, .agg #[.int .i64 y, .int .i64 k, .int .i64 d], .int .i64 z] w fun e w' => e = .returned (.bool true) ∧ Below w.heap.size w w' := by
  have cl := wlive_ok
  clear wn wy wk wd wz
  obtain ⟨a, b, c, e, r1⟩ := isores_ex n
  obtain ⟨v, g, r2⟩ := idayres_ex y k d
  obtain ⟨s, i, r3⟩ := manyres_ex z
  have c1 := fun w => Iso_any n a b c e w r1
  have d1 := fun w => rIso_any n a b c e w r1
  have c2 := fun w => IDay_any y k d v g w r2
  have d2 := fun w => rIDay_any y k d v g w r2
  have c3 := fun w => Many_any z s i w r3
  have d3 := fun w => rMany_any z s i w r3
  clear r1 r2 r3
  go_enter Tryd.func3, Tryd.ntmps3
  go_wp2_with fail
  refine (cl _ (by with_reducible first | exact tb.kept B1 | exact (tb.kept B1).alloc _ | exact ((tb.kept B1).alloc _).alloc _ | exact tb | exact tb.alloc _ | exact (tb.alloc _).alloc _)).mono ?_
  rintro e w1 ⟨rfl, hb⟩
  have P1 := (Tri.new w (.int .i64 y) (.int .i64 k) (.int .i64 d) 23).kept hb
  have B1 := bthen (balloc (Below.refl _ w) _) hb
  try simp only [World.size_alloc] at P1
  clear hb
  obtain ⟨z0, c00, c01, c02, _, _, _⟩ := id P1
  go_wp2_with fail
  refine (c1 _ (by with_reducible first | exact tb.kept B1 | exact (tb.kept B1).alloc _ | exact ((tb.kept B1).alloc _).alloc _ | exact tb | exact tb.alloc _ | exact (tb.alloc _).alloc _)).mono ?_
  rintro e w2 ⟨rfl, hb⟩
  replace P1 := (P1).kept hb
  replace B1 := bthen (B1) hb
  clear hb z0 c00 c01 c02
  obtain ⟨z0, c00, c01, c02, _, _, _⟩ := id P1
  go_wp2_with fail
  refine (d1 _).mono ?_
  rintro e w3 ⟨rfl, hb⟩
  replace P1 := ((P1).alloc (.cells #[.int .i64 a, .int .i64 b, .int .i64 c] 23)).kept hb
  have Q1 := (Tri.new w2 (.int .i64 a) (.int .i64 b) (.int .i64 c) 23).kept hb
  replace B1 := bthen (balloc (B1) _) hb
  try simp only [World.size_alloc] at P1 Q1
  clear hb z0 c00 c01 c02
  obtain ⟨z0, c00, c01, c02, _, _, _⟩ := id P1
  obtain ⟨z1, c10, c11, c12, _, _, _⟩ := id Q1
  go_wp2_with fail
  refine (c2 _ (by with_reducible first | exact tb.kept B1 | exact (tb.kept B1).alloc _ | exact ((tb.kept B1).alloc _).alloc _ | exact tb | exact tb.alloc _ | exact (tb.alloc _).alloc _)).mono ?_
  rintro e w4 ⟨rfl, hb⟩
  replace P1 := ((P1).alloc (.cells #[.int .i64 a, .int .i64 b, .int .i64 c] 23)).kept hb
  replace Q1 := ((Q1).alloc (.cells #[.int .i64 a, .int .i64 b, .int .i64 c] 23)).kept hb
  have Q2 := (Tri.new w3 (.int .i64 a) (.int .i64 b) (.int .i64 c) 23).kept hb
  replace B1 := bthen (balloc (B1) _) hb
  try simp only [World.size_alloc] at P1 Q1 Q2
  clear hb z0 c00 c01 c02 z1 c10 c11 c12
  obtain ⟨z0, c00, c01, c02, _, _, _⟩ := id P1
  obtain ⟨z1, c10, c11, c12, _, _, _⟩ := id Q1
  obtain ⟨z2, c20, c21, c22, _, _, _⟩ := id Q2
  go_wp2_with fail
  refine (d2 _).mono ?_
  rintro e w5 ⟨rfl, hb⟩
  replace P1 := (P1).kept hb
  replace Q1 := (Q1).kept hb
  replace Q2 := (Q2).kept hb
  replace B1 := bthen (B1) hb
  clear hb z0 c00 c01 c02 z1 c10 c11 c12 z2 c20 c21 c22
  obtain ⟨z0, c00, c01, c02, _, _, _⟩ := id P1
  obtain ⟨z1, c10, c11, c12, _, _, _⟩ := id Q1
  obtain ⟨z2, c20, c21, c22, _, _, _⟩ := id Q2
  go_wp2_with fail
  refine (c3 _ (by with_reducible first | exact tb.kept B1 | exact (tb.kept B1).alloc _ | exact ((tb.kept B1).alloc _).alloc _ | exact tb | exact tb.alloc _ | exact (tb.alloc _).alloc _)).mono ?_
  rintro e w6 ⟨rfl, hb⟩
  replace P1 := (P1).kept hb
  replace Q1 := (Q1).kept hb
  replace Q2 := (Q2).kept hb
  replace B1 := bthen (B1) hb
  clear hb z0 c00 c01 c02 z1 c10 c11 c12 z2 c20 c21 c22
  obtain ⟨z0, c00, c01, c02, _, _, _⟩ := id P1
  obtain ⟨z1, c10, c11, c12, _, _, _⟩ := id Q1
  obtain ⟨z2, c20, c21, c22, _, _, _⟩ := id Q2
  go_wp2_with fail
  refine (d3 _).mono ?_
  rintro e w7 ⟨rfl, hb⟩
  replace P1 := (P1).kept hb
  replace Q1 := (Q1).kept hb
  replace Q2 := (Q2).kept hb
  replace B1 := bthen (B1) hb
  clear hb z0 c00 c01 c02 z1 c10 c11 c12 z2 c20 c21 c22
  obtain ⟨z0, c00, c01, c02, _, _, _⟩ := id P1
  obtain ⟨z1, c10, c11, c12, _, _, _⟩ := id Q1
  obtain ⟨z2, c20, c21, c22, _, _, _⟩ := id Q2
  go_wp2
  go_ret
  exact ⟨by simp <;> omega, B1⟩

end Go.Proofs.YtodpmdmfdnbehaaDoor.El
