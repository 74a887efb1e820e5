/- live of layer 5, and what the laws' walks go by. -/
import Derived.Test.YtapddciodoobfaaDoorCcode2
import Derived.Test.YtapddciodoobfaaDoorCref2
import Derived.Test.YtapddciodoobfaaDoorClaw
import Derived.OpenShut
namespace Go.Proofs.YtapddciodoobfaaDoor.Cl
set_option linter.unusedSimpArgs false
set_option linter.unusedVariables false
open Go.RowKit Go.Proofs.YtapddciodoobfaaDoor.Bx Go.Proofs.YtapddciodoobfaaDoor.Cm Go.Proofs.YtapddciodoobfaaDoor.Cp

theorem live_ok (w : World) (tb : Tab w) : Calls Tryd.prog 8 #[] w fun e w' => e = .returned (.bool true) ∧ Below w.heap.size w w' := by
  have c1 := fun w => Day_b 2000 2 29 146156 0 w (.inl ⟨⟨⟨by omega, by omega, by omega, by omega⟩, by omega, by decide⟩, by decide, rfl⟩)
  have c2 := fun w => Weekday_b 146156 2 0 w (.inl ⟨by omega, by omega, by decide, rfl⟩)
  go_enter Tryd.func8, Tryd.ntmps8
  go_wp2_with fail
  refine (c1 _ (by with_reducible first | exact tb.kept B1 | exact (tb.kept B1).alloc _ | exact ((tb.kept B1).alloc _).alloc _ | exact tb | exact tb.alloc _ | exact (tb.alloc _).alloc _ | exact tb.kept (bthen B1 (by first | assumption | exact Below.refl _ _ | exact (Below.refl _ _).drew)))).mono ?_
  rintro e w1 ⟨rfl, hb⟩
  have B1 := bthen (Below.refl _ w) hb
  clear hb
  go_wp2_with fail
  refine (c2 _ (by with_reducible first | exact tb.kept B1 | exact (tb.kept B1).alloc _ | exact ((tb.kept B1).alloc _).alloc _ | exact tb | exact tb.alloc _ | exact (tb.alloc _).alloc _ | exact tb.kept (bthen B1 (by first | assumption | exact Below.refl _ _ | exact (Below.refl _ _).drew)))).mono ?_
  rintro e w2 ⟨rfl, hb⟩
  replace B1 := bthen (B1) hb
  clear hb
  go_wp2
  go_ret
  exact ⟨by simp, B1⟩

end Go.Proofs.YtapddciodoobfaaDoor.Cl
