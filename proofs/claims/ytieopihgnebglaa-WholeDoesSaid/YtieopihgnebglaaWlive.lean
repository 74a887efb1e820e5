/- The example of the chapter holds (live). -/
import Derived.OpenShut
import Derived.Test.YtieopihgnebglaaWcode
namespace Go.Proofs.Ytieopihgnebglaa.Wl
open Go.RowKit Go.Proofs.Ytieopihgnebglaa.Wm Go.Proofs.Ytieopihgnebglaa.Wc

set_option maxHeartbeats 400000

theorem grown_drew (w : World) (n : Nat) : Grown w (w.drewN n) := (Grown.refl w : Grown w w)

theorem fit_wf {a : Int} (h : (Lit.int .i64 a).wf = true) : Fit a := by
  have := bounds_i64 h
  unfold Fit; omega

theorem live_ok (w : World) :
    Calls Try.prog 9 #[] w fun e w' => e = .returned (.bool true) ∧ Drew w w' := by
  have ct : ∀ w, Calls Try.prog 18 #[.int .i64 (-7), .int .i64 2] w fun e w' => e = .returned (.tuple #[.int .i64 (-4), .int .i64 1, .int .i64 0]) ∧ Drew w w' :=
    fun w => div_yes (-7) 2 w (by decide) (by decide) (by decide) (by decide)
  go_enter Try.func9, Try.ntmps9
  go_wp2_with fail
  refine (ct _).mono ?_
  rintro e w' ⟨rfl, n, rfl⟩
  go_wp2
  go_ret
  exact ⟨rfl, n, rfl⟩

end Go.Proofs.Ytieopihgnebglaa.Wl
