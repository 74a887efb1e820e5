/- live of layer 6. -/
import Derived.Test.YtodpmdmfdnbehaaDoorEcode2
import Derived.OpenShut
namespace Go.Proofs.YtodpmdmfdnbehaaDoor.El
set_option linter.unusedSimpArgs false
set_option linter.unusedVariables false
open Go.RowKit Go.Proofs.YtodpmdmfdnbehaaDoor.Bx Go.Proofs.YtodpmdmfdnbehaaDoor.Cm Go.Proofs.YtodpmdmfdnbehaaDoor.Cp Go.Proofs.YtodpmdmfdnbehaaDoor.Em Go.Proofs.YtodpmdmfdnbehaaDoor.Ep

set_option maxHeartbeats 1000000

theorem wlive_ok (w : World) (tb : Tab w) : Calls Tryd.prog 15 #[] w fun e w' => e = .returned (.bool true) ∧ Below w.heap.size w w' := by
  have ok : IsoOk 2025 1 1 := ⟨by omega, by omega, by omega, by decide, by omega, by omega, by decide, by decide⟩
  have c1 := fun w => IDay_any 2025 1 1 155227 0 w (.inl ⟨ok, by decide, rfl⟩)
  have c2 := fun w => Iso_any 155227 2025 1 1 0 w (.inl ⟨by omega, by omega, ok, by decide, rfl⟩)
  have c3 := fun w => Many_any 2020 53 0 w (.inl ⟨by omega, by omega, by decide, rfl⟩)
  clear ok
  go_enter Tryd.func15, Tryd.ntmps15
  go_wp2_with fail
  refine (c1 _ (by with_reducible first | exact tb.kept B1 | exact (tb.kept B1).alloc _ | exact ((tb.kept B1).alloc _).alloc _ | exact tb | exact tb.alloc _ | exact (tb.alloc _).alloc _)).mono ?_
  rintro e w1 ⟨rfl, hb⟩
  have B1 := bthen (Below.refl _ w) hb
  clear hb
  go_wp2_with fail
  refine (c2 _ (by with_reducible first | exact tb.kept B1 | exact (tb.kept B1).alloc _ | exact ((tb.kept B1).alloc _).alloc _ | exact tb | exact tb.alloc _ | exact (tb.alloc _).alloc _)).mono ?_
  rintro e w2 ⟨rfl, hb⟩
  replace B1 := bthen (B1) hb
  clear hb
  go_wp2_with fail
  refine (c3 _ (by with_reducible first | exact tb.kept B1 | exact (tb.kept B1).alloc _ | exact ((tb.kept B1).alloc _).alloc _ | exact tb | exact tb.alloc _ | exact (tb.alloc _).alloc _)).mono ?_
  rintro e w3 ⟨rfl, hb⟩
  have Q1 := (Tri.new w2 (.int .i64 2025) (.int .i64 1) (.int .i64 1) 23).kept hb
  replace B1 := bthen (balloc (B1) _) hb
  try simp only [World.size_alloc] at Q1
  clear hb
  obtain ⟨z0, c00, c01, c02, _, _, _⟩ := id Q1
  go_wp2
  go_ret
  exact ⟨by simp <;> omega, B1⟩

end Go.Proofs.YtodpmdmfdnbehaaDoor.El
