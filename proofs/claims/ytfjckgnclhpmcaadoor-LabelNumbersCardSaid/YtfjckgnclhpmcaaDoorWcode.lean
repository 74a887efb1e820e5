/- What the functions of package whole come to: XUcode (Add, Neg, Mul, Div), XGcode (Gcd), and Sub. -/
import Derived.Test.YtfjckgnclhpmcaaDoorGcode
namespace Go.Proofs.YtfjckgnclhpmcaaDoor.Wc
set_option linter.unusedSimpArgs false
set_option linter.unusedVariables false
open Go.RowKit Go.Proofs.YtfjckgnclhpmcaaDoor.Wm

set_option maxHeartbeats 400000

theorem sub_yes (a b : Int) (w : World) (ha : Fit a) (hb : Fit b) (h : Fit (a - b)) :
    Calls Tryd.prog 40 #[.int .i64 a, .int .i64 b] w fun e w' => e = .returned (.tuple #[.int .i64 (a - b), .int .i64 0]) ∧ w = w' := by
  unfold Fit at ha hb h
  by_cases c1 : a < 0 <;> by_cases c2 : b < 0 <;> by_cases c3 : a - b < 0
  all_goals first | (exfalso; omega) | skip
  all_goals
    go_enter Tryd.func40, Tryd.ntmps40
    go_wp2
    go_ret2
    exact ⟨rfl, rfl⟩

theorem sub_no (a b : Int) (w : World) (ha : Fit a) (hb : Fit b) (h : ¬ Fit (a - b)) :
    Calls Tryd.prog 40 #[.int .i64 a, .int .i64 b] w fun e w' => e = .returned (.tuple #[.int .i64 0, .int .i64 2]) ∧ w = w' := by
  by_cases c1 : 0 ≤ a
  · obtain ⟨c2, c3⟩ := sub_high ha hb h c1
    clear ha hb h
    have d1 : decide (a < 0) = false := decide_eq_false (by omega)
    have d2 : decide (b < 0) = true := decide_eq_true (by omega)
    have d3 : decide (wrap64 (a - b) < 0) = true := decide_eq_true c3
    go_enter Tryd.func40, Tryd.ntmps40
    go_wp2
    go_ret2
    exact ⟨rfl, rfl⟩
  · obtain ⟨c2, c3⟩ := sub_low ha hb h (by omega)
    clear ha hb h
    have d1 : decide (a < 0) = true := decide_eq_true (by omega)
    have d2 : decide (b < 0) = false := decide_eq_false (by omega)
    have d3 : decide (wrap64 (a - b) < 0) = false := decide_eq_false (by omega)
    go_enter Tryd.func40, Tryd.ntmps40
    go_wp2
    go_ret2
    exact ⟨rfl, rfl⟩

end Go.Proofs.YtfjckgnclhpmcaaDoor.Wc
