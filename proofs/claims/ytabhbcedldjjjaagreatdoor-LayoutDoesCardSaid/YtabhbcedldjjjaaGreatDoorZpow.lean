/- From what a row lists of the library's variables to the table of powers of ten. -/
import Derived.Test.YtabhbcedldjjjaaGreatDoorRows
import Derived.Test.YtabhbcedldjjjaaGreatDoorZjoin
import Derived.Lib.LaidTab
import Derived.LaidMore
import Derived.Stop.LaidErr
namespace Go.Proofs.YtabhbcedldjjjaaGreatDoor.Zp
set_option linter.unusedSimpArgs false
set_option linter.unusedVariables false
open Go.RowKit

theorem gPowType : (Tryz.prog.globals[1]?).map (·.type) = some 131 := by kernel_rfl
theorem cellsPow : Tryz.prog.cellsOf 131 = 20 := by kernel_rfl
theorem cellsU64 : Tryz.prog.cellsOf 109 = 1 := by kernel_rfl
theorem laid_pow : (Rows.laid_internal_strconv_uint64pow10 : DataW Unit) = Lib.tabData .u64 Lib.pow10Tab := by rfl

theorem pows_of_laid {W : World} (h : laidMetH Tryz.prog [("math/bits.deBruijn32tab", Rows.laid_math_bits_deBruijn32tab), ("math/bits.deBruijn64tab", Rows.laid_math_bits_deBruijn64tab), ("internal/strconv.uint64pow10", Rows.laid_internal_strconv_uint64pow10), ("strconv.ErrRange", Rows.laid_strconv_ErrRange), ("strconv.ErrSyntax", Rows.laid_strconv_ErrSyntax)] W) : Pows W := by
  rw [MakeChecks.laidMetH_plain _ _ _ (by kernel_rfl)] at h
  have h3 := h.tail.tail
  rw [laid_pow] at h3
  exact ⟨Lib.tabIs_of_head gPow gPowType Tryz.underlying131 Tryz.underlying109 cellsU64 cellsPow h3⟩

end Go.Proofs.YtabhbcedldjjjaaGreatDoor.Zp
