/- One byte of a text, and a text that grows by it. -/
import Derived.Test.YtjebdoecigmkhaaDoorYlive
namespace Go.Proofs.YtjebdoecigmkhaaDoor.Yl
set_option linter.unusedSimpArgs false
set_option linter.unusedVariables false
open Go Go.RowKit Go.Proofs.YtjebdoecigmkhaaDoor.Zm Go.Proofs.YtjebdoecigmkhaaDoor.Zr Go.Proofs.YtjebdoecigmkhaaDoor.Zp Go.Proofs.YtjebdoecigmkhaaDoor.Zk Go.Proofs.YtjebdoecigmkhaaDoor.Ym Go.Proofs.YtjebdoecigmkhaaDoor.Yp

theorem slice_one (s : ByteArray) (i : Nat) (h : i < s.size) : ∃ t : ByteArray, by_ t = [s[i]] ∧ t.size = 1 ∧
    ∀ w, (Instr.slice 9 (.string s) (some (.int .i64 (i : Int))) (some (.int .i64 ((i : Int) + 1))) none).run Tryd.prog w = .ok (.string t) w := by
  have hl : (by_ s).length = s.size := by_len s
  refine ⟨s.extract i (i + 1), ?_, ?_, fun w => ?_⟩
  · rw [by_extract s i (i + 1) (by omega) (by omega)]
    have := drop_at s i h
    rw [List.drop_take, this]
    simp [show i + 1 - i = 1 by omega]
  · rw [ByteArray.size_extract]; omega
  · rw [run_slice_string _ _ _ _ _ _ _ Tryd.underlying9 (by omega) (by omega) (by omega)]
    rw [show ((i : Int) + 1).toNat = i + 1 by omega, show ((i : Int)).toNat = i by omega]

end Go.Proofs.YtjebdoecigmkhaaDoor.Yl
