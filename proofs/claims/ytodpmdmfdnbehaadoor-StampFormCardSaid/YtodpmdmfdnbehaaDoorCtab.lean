/- From what a row lists of package civil's table to what the walks ask for. -/
import Derived.Test.YtodpmdmfdnbehaaDoorRows
import Derived.Test.YtodpmdmfdnbehaaDoorCcode
import Derived.Lib.LaidTab
import Derived.LaidMore
namespace Go.Proofs.YtodpmdmfdnbehaaDoor.Cp
set_option linter.unusedSimpArgs false
set_option linter.unusedVariables false
open Go.RowKit

theorem lt_of_cell {W : World} {g n : Nat} {v : Value} (h : W.cell? ⟨g, n, none⟩ = some v) : g < W.heap.size := by
  unfold World.cell? at h
  rcases hh : W.heap[g]? with _ | o
  · rw [hh] at h; simp at h
  · exact (Array.getElem?_eq_some_iff.1 hh).1

theorem gTab : Tryd.prog.globalNamed "quarterday/civil.beforeMonth" = some 0 := by kernel_rfl
theorem gTabType : (Tryd.prog.globals[0]?).map (·.type) = some 61 := by kernel_rfl
theorem cellsTab : Tryd.prog.cellsOf 61 = 13 := by kernel_rfl
theorem cellsInt : Tryd.prog.cellsOf 3 = 1 := by kernel_rfl

theorem tab_of_laid {W : World} (h : laidMetH Tryd.prog [("quarterday/civil.beforeMonth", Rows.laid_quarterday_civil_beforeMonth)] W) : Tab W := by
  rw [MakeChecks.laidMetH_plain _ _ _ (by kernel_rfl)] at h
  have h' : laidMet Tryd.prog (("quarterday/civil.beforeMonth", Lib.tabData .i64 [0, 31, 59, 90, 120, 151, 181, 212, 243, 273, 304, 334, 365]) :: []) W := h
  have hT := Lib.tabIs_of_head gTab gTabType Tryd.underlying61 Tryd.underlying3 cellsInt cellsTab h'
  have c : ∀ i, (hi : i < 13) → W.cell? ⟨0, i, none⟩ = some (.int .i64 ([0, 31, 59, 90, 120, 151, 181, 212, 243, 273, 304, 334, 365].getD i 0)) := fun i hi => hT.cell gTab i hi
  exact ⟨lt_of_cell (c 0 (by omega)), c 0 (by omega), c 1 (by omega), c 2 (by omega), c 3 (by omega), c 4 (by omega), c 5 (by omega), c 6 (by omega), c 7 (by omega), c 8 (by omega), c 9 (by omega), c 10 (by omega), c 11 (by omega), c 12 (by omega)⟩

end Go.Proofs.YtodpmdmfdnbehaaDoor.Cp
