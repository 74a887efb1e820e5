/- From what a row lists of the tables to what the walks ask for. -/
import Derived.Test.YtodpmdmfdnbehaaDoorCtab
import Derived.Test.YtodpmdmfdnbehaaDoorTcode
import Derived.Stop.LaidErr
namespace Go.Proofs.YtodpmdmfdnbehaaDoor.Tp
set_option linter.unusedSimpArgs false
set_option linter.unusedVariables false
open Go.RowKit

theorem gPowType : (Tryd.prog.globals[1]?).map (·.type) = some 95 := by kernel_rfl
theorem cellsPow : Tryd.prog.cellsOf 95 = 20 := by kernel_rfl
theorem cellsU64 : Tryd.prog.cellsOf 82 = 1 := by kernel_rfl
theorem laid_pow : (Rows.laid_internal_strconv_uint64pow10 : DataW Unit) = Lib.tabData .u64 Lib.pow10Tab := by rfl

theorem tabs_of_laid {W : World} (h : laidMetH Tryd.prog [("math/bits.deBruijn32tab", Rows.laid_math_bits_deBruijn32tab), ("math/bits.deBruijn64tab", Rows.laid_math_bits_deBruijn64tab), ("internal/strconv.uint64pow10", Rows.laid_internal_strconv_uint64pow10), ("quarterday/civil.beforeMonth", Rows.laid_quarterday_civil_beforeMonth)] W) : Tabs W := by
  rw [MakeChecks.laidMetH_plain _ _ _ (by kernel_rfl)] at h
  have h3 := h.tail.tail
  refine ⟨Cp.tab_of_laid ?_, ?_⟩
  · rw [MakeChecks.laidMetH_plain _ _ _ (by kernel_rfl)]
    exact h3.tail
  · rw [laid_pow] at h3
    exact Lib.tabIs_of_head gPow gPowType Tryd.underlying95 Tryd.underlying82 cellsU64 cellsPow h3

end Go.Proofs.YtodpmdmfdnbehaaDoor.Tp
