/- What Add, Neg and Fit of package wide come to. -/
import Derived.Test.YtodpmdmfdnbehabVcode
import Derived.Deep.RegionHeld3
import Derived.Deep.DeepCutAuto
import Derived.Deep.DrawnRows
namespace Go.Proofs.Ytodpmdmfdnbehab.Vc
set_option linter.unusedSimpArgs false
set_option linter.unusedVariables false
open Go.RowKit Go.Proofs.Ytodpmdmfdnbehab.Vm
attribute [local go_sem ↓] Go.wp_at_zero Go.wp_at_succ

set_option maxHeartbeats 400000

/-- 'wordsOf', with the world written out -/
theorem wordsOf_at (h l : Int) (w : World) :
    Calls Try.prog 48 #[.agg #[.int .i64 h, .int .u64 l]] w fun e w' => e = .returned (.agg #[.int .u64 l, .int .u64 (h % 18446744073709551616)]) ∧
      w' = (w.alloc (.cells #[.int .i64 h, .int .u64 l] 44)).alloc (.cells #[.int .u64 l, .int .u64 (h % 18446744073709551616)] 81) := by
  have e1 := IntKind.wrap_u64 h
  go_enter Try.func48, Try.ntmps48
  go_wp2
  refine bodyPost_ret (v := .agg #[.int .u64 l, .int .u64 (h % 18446744073709551616)]) (by simp [results, Try.results48, go_sem]) rfl ⟨rfl, rfl⟩

theorem plus_at (a0 a1 b0 b1 : Int) (w : World) (h1 : 0 ≤ a0) (h2 : a0 ≤ 18446744073709551615) (h3 : 0 ≤ b0) (h4 : b0 ≤ 18446744073709551615) :
    Calls Try.prog 47 #[.agg #[.int .u64 a0, .int .u64 a1], .agg #[.int .u64 b0, .int .u64 b1]] w fun e w' =>
      e = .returned (.agg #[.int .u64 ((a0 + b0) % 18446744073709551616), .int .u64 ((a1 + b1 + (a0 + b0) / 18446744073709551616) % 18446744073709551616)]) ∧
      w' = (((w.alloc (.cells #[.int .u64 a0, .int .u64 a1] 81)).alloc (.cells #[.int .u64 b0, .int .u64 b1] 81)).alloc
        (.cells #[.int .u64 ((a0 + b0) % 18446744073709551616), .int .u64 ((a1 + b1 + (a0 + b0) / 18446744073709551616) % 18446744073709551616)] 81)).alloc
        (.cells #[.int .u64 ((a0 + b0) % 18446744073709551616), .int .u64 ((a1 + b1 + (a0 + b0) / 18446744073709551616) % 18446744073709551616)] 81) := by
  by_cases c : a0 + b0 ≤ 18446744073709551615
  · have d : decide (a0 + b0 < a0) = false := decide_eq_false (by omega)
    have e0 : (a0 + b0) % 18446744073709551616 = a0 + b0 := by omega
    have e1 : (a1 + b1 + (a0 + b0) / 18446744073709551616) % 18446744073709551616 = IntKind.u64.wrap (a1 + b1) := by rw [IntKind.wrap_u64]; omega
    rw [e0, e1]
    clear e0 e1
    go_enter Try.func47, Try.ntmps47
    go_wp2
    refine bodyPost_ret (v := .agg #[.int .u64 (a0 + b0), .int .u64 (IntKind.u64.wrap (a1 + b1))]) (by simp [results, Try.results47, go_sem]) rfl ⟨rfl, rfl⟩
  · have d : decide (IntKind.u64.wrap (a0 + b0) < a0) = true := decide_eq_true (by rw [IntKind.wrap_u64]; omega)
    have e0 : (a0 + b0) % 18446744073709551616 = IntKind.u64.wrap (a0 + b0) := (IntKind.wrap_u64 _).symm
    have e1 : (a1 + b1 + (a0 + b0) / 18446744073709551616) % 18446744073709551616 = IntKind.u64.wrap (IntKind.u64.wrap (a1 + b1) + 1) := by rw [IntKind.wrap_u64, IntKind.wrap_u64]; omega
    rw [e0, e1]
    clear e0 e1
    go_enter Try.func47, Try.ntmps47
    go_wp2
    refine bodyPost_ret (v := .agg #[.int .u64 (IntKind.u64.wrap (a0 + b0)), .int .u64 (IntKind.u64.wrap (IntKind.u64.wrap (a1 + b1) + 1))]) (by simp [results, Try.results47, go_sem]) rfl ⟨rfl, rfl⟩

theorem wide_at (a0 a1 : Int) (w : World) :
    Calls Try.prog 50 #[.agg #[.int .u64 a0, .int .u64 a1]] w fun e w' =>
      e = .returned (.agg #[.int .i64 (wrap64 a1), .int .u64 a0]) ∧
      w' = (w.alloc (.cells #[.int .u64 a0, .int .u64 a1] 81)).alloc (.cells #[.int .i64 (wrap64 a1), .int .u64 a0] 44) := by
  go_enter Try.func50, Try.ntmps50
  go_wp2
  refine bodyPost_ret (v := .agg #[.int .i64 (wrap64 a1), .int .u64 a0]) (by simp [results, Try.results50, go_sem]) rfl ⟨rfl, rfl⟩

/-- a call that tells a Wide, or that there is none -/
def Tells (x : Int) (w : World) (e : Ending) (w' : World) : Prop := ∃ h l er : Int, e = .returned (.tuple #[.agg #[.int .i64 h, .int .u64 l], .int .i64 er]) ∧ Res x h l er ∧ Below w.heap.size w w'

end Go.Proofs.Ytodpmdmfdnbehab.Vc
