/- WeekEnds' walk: the program and the reference come to the same. -/
import Derived.Test.YtodpmdmfdnbehaaDoorElive
import Derived.Test.YtodpmdmfdnbehaaDoorEref2
namespace Go.Proofs.YtodpmdmfdnbehaaDoor.El
set_option linter.unusedSimpArgs false
set_option linter.unusedVariables false
open Go.Proofs.YtodpmdmfdnbehaaDoor.Er Go.RowKit Go.Proofs.YtodpmdmfdnbehaaDoor.Bx Go.Proofs.YtodpmdmfdnbehaaDoor.Cm Go.Proofs.YtodpmdmfdnbehaaDoor.Cp Go.Proofs.YtodpmdmfdnbehaaDoor.Em Go.Proofs.YtodpmdmfdnbehaaDoor.Ep

set_option maxHeartbeats 1000000

set_option maxRecDepth 100000 in
theorem wends_walk (y m wd : Int) (w : World) (wy : (Lit.int .i64 y).wf = true) (wm : (Lit.int .i64 m).wf = true) (wdd : (Lit.int .i64 wd).wf = true) (tb : Tab w) :
    Calls Tryd.prog 4 #[.int .i64 y, .int .i64 m, .int .i64 wd] w fun e w' => e = .returned (.bool true) ∧ Below w.heap.size w w' := by
  have cl := wlive_ok
  clear wy wm wdd
  obtain ⟨v, g, r1⟩ := lastres_ex y m wd
  obtain ⟨s, i, r2⟩ := nearres_ex y m wd
  have c1 := fun w => Last_any y m wd v g w r1
  have d1 := fun w => rLast_any y m wd v g w r1
  have c2 := fun w => Near_any y m wd s i w r2
  have d2 := fun w => rNear_any y m wd s i w r2
  clear r1 r2
  go_enter Tryd.func4, Tryd.ntmps4
  go_wp2_with fail
  refine (cl _ (by with_reducible first | exact tb.kept B1 | exact (tb.kept B1).alloc _ | exact ((tb.kept B1).alloc _).alloc _ | exact tb | exact tb.alloc _ | exact (tb.alloc _).alloc _)).mono ?_
  rintro e w1 ⟨rfl, hb⟩
  have B1 := bthen (Below.refl _ w) hb
  clear hb
  go_wp2_with fail
  refine (c1 _ (by with_reducible first | exact tb.kept B1 | exact (tb.kept B1).alloc _ | exact ((tb.kept B1).alloc _).alloc _ | exact tb | exact tb.alloc _ | exact (tb.alloc _).alloc _)).mono ?_
  rintro e w2 ⟨rfl, hb⟩
  replace B1 := bthen (B1) hb
  clear hb
  go_wp2_with fail
  refine (d1 _).mono ?_
  rintro e w3 ⟨rfl, hb⟩
  replace B1 := bthen (B1) hb
  clear hb
  go_wp2_with fail
  refine (c2 _ (by with_reducible first | exact tb.kept B1 | exact (tb.kept B1).alloc _ | exact ((tb.kept B1).alloc _).alloc _ | exact tb | exact tb.alloc _ | exact (tb.alloc _).alloc _)).mono ?_
  rintro e w4 ⟨rfl, hb⟩
  replace B1 := bthen (B1) hb
  clear hb
  go_wp2_with fail
  refine (d2 _).mono ?_
  rintro e w5 ⟨rfl, hb⟩
  replace B1 := bthen (B1) hb
  clear hb
  go_wp2
  go_ret
  exact ⟨by simp <;> omega, B1⟩

end Go.Proofs.YtodpmdmfdnbehaaDoor.El
