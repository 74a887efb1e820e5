/- From what a row lists of the library's variables to the table of powers of ten. -/
import Derived.Test.YtjebdoecigmkhaaDoorRows
import Derived.Test.YtjebdoecigmkhaaDoorZjoin
import Derived.Lib.LaidTab
import Derived.LaidMore
import Derived.Stop.LaidErr
namespace Go.Proofs.YtjebdoecigmkhaaDoor.Zp
set_option linter.unusedSimpArgs false
set_option linter.unusedVariables false
open Go.RowKit

theorem gPowType : (Tryd.prog.globals[2]?).map (·.type) = some 146 := by kernel_rfl
theorem cellsPow : Tryd.prog.cellsOf 146 = 20 := by kernel_rfl
theorem cellsU64 : Tryd.prog.cellsOf 123 = 1 := by kernel_rfl
theorem laid_pow : (Rows.laid_internal_strconv_uint64pow10 : DataW Unit) = Lib.tabData .u64 Lib.pow10Tab := by rfl

theorem pows_of_laid {W : World} (h : laidMetH Tryd.prog [("math/bits.deBruijn32tab", Rows.laid_math_bits_deBruijn32tab), ("math/bits.deBruijn64tab", Rows.laid_math_bits_deBruijn64tab), ("internal/strconv.uint64pow10", Rows.laid_internal_strconv_uint64pow10), ("strconv.ErrRange", Rows.laid_strconv_ErrRange), ("strconv.ErrSyntax", Rows.laid_strconv_ErrSyntax)] W) : Pows W := by
  rw [MakeChecks.laidMetH_plain _ _ _ (by kernel_rfl)] at h
  have h3 := h.tail.tail
  rw [laid_pow] at h3
  exact ⟨Lib.tabIs_of_head gPow gPowType Tryd.underlying146 Tryd.underlying123 cellsU64 cellsPow h3⟩

end Go.Proofs.YtjebdoecigmkhaaDoor.Zp
