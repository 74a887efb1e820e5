/- live of layer 3. -/
import Derived.Test.YtmngbhkokglmjaaQops2
import Derived.OpenShut
import Derived.Test.YtmngbhkokglmjaaQcmp
import Derived.Test.YtmngbhkokglmjaaQlaw
namespace Go.Proofs.Ytmngbhkokglmjaa.Ql
open Go.RowKit Go.Proofs.Ytmngbhkokglmjaa.Vm Go.Proofs.Ytmngbhkokglmjaa.Vc Go.Proofs.Ytmngbhkokglmjaa.Pr Go.Proofs.Ytmngbhkokglmjaa.Qm Go.Proofs.Ytmngbhkokglmjaa.Qc

set_option maxHeartbeats 400000

theorem live_ok (w : World) : Calls Try.prog 11 #[] w fun e w' => e = .returned (.bool true) ∧ Below w.heap.size w w' := by
  have L : Low (-3) 2 := ⟨by omega, by decide⟩
  have c1 := fun w => Make_any 6 (-4) (-3) 2 0 w (by unfold Fit1; omega) (by unfold Fit1; omega) (.inr ⟨by omega, .inl ⟨rfl, L, by omega, by unfold Fit1; omega, by unfold Fit1; omega⟩⟩)
  have c2 := fun w => Floor_any (-3) 2 (-2) 0 w (by unfold Fit1; omega) (by unfold Fit1; omega) (.inl ⟨L, by decide, rfl⟩)
  have c3 := fun w => Ceil_any (-3) 2 (-1) 0 w (by unfold Fit1; omega) (by unfold Fit1; omega) (.inl ⟨L, by decide, rfl⟩)
  clear L
  go_enter Try.func11, Try.ntmps11
  go_wp2_with fail
  refine (c1 _).mono ?_
  rintro e w1 ⟨rfl, hb⟩
  have B1 := bthen (Below.refl _ w) hb
  clear hb
  go_wp2_with fail
  refine (c2 _).mono ?_
  rintro e w2 ⟨rfl, hb⟩
  have Q1 := (Two.new w1 (.int .i64 (-3)) (.int .i64 2) 23).kept hb
  replace B1 := bthen (balloc (B1) _) hb
  try simp only [World.size_alloc] at Q1
  clear hb
  obtain ⟨z0, c00, c01, _, _⟩ := id Q1
  go_wp2_with fail
  refine (c3 _).mono ?_
  rintro e w3 ⟨rfl, hb⟩
  replace Q1 := (Q1).kept hb
  replace B1 := bthen (B1) hb
  clear hb z0 c00 c01
  obtain ⟨z0, c00, c01, _, _⟩ := id Q1
  go_wp2
  go_ret
  exact ⟨by simp, B1⟩

end Go.Proofs.Ytmngbhkokglmjaa.Ql
