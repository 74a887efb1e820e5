/- Plain facts on quotients of two words, and what fits; nothing of the program. -/
import Derived.Test.YtfjckgnclhpmcaaDoorVmath5
namespace Go.Proofs.YtfjckgnclhpmcaaDoor.Vm
set_option linter.unusedSimpArgs false
set_option linter.unusedVariables false
open Go.RowKit (wrap32 wrap64)

theorem words_ex {x : Int} (f : Fits x) : ∃ h l, num h l = x ∧ Bd h l :=
  ⟨x / 18446744073709551616, x % 18446744073709551616, by unfold num; omega, by unfold Fits at f; unfold Bd; omega⟩

theorem quot_fits {x c : Int} (f : Fits x) (hc : 0 < c) : Fits (x / c) := by
  unfold Fits at *
  constructor
  · refine Int.le_ediv_of_mul_le hc ?_
    have : -170141183460469231731687303715884105728 * c ≤ -170141183460469231731687303715884105728 * 1 := Int.mul_le_mul_of_nonpos_left (by omega) (by omega)
    omega
  · have : x / c < 170141183460469231731687303715884105728 := by
      refine Int.ediv_lt_of_lt_mul hc ?_
      have : 170141183460469231731687303715884105728 * 1 ≤ 170141183460469231731687303715884105728 * c := Int.mul_le_mul_of_nonneg_left (by omega) (by omega)
      omega
    omega

theorem prod_fits {a b : Int} (ha : Fit1 a) (hb : Fit1 b) : -85070591730234615865843651857942052864 ≤ a * b ∧ a * b ≤ 85070591730234615865843651857942052864 := by
  have h := prod_size ha hb
  have e : ((a * b).natAbs : Int) = (a.natAbs : Int) * (b.natAbs : Int) := by rw [Int.natAbs_mul, Int.natCast_mul]
  omega

end Go.Proofs.YtfjckgnclhpmcaaDoor.Vm
