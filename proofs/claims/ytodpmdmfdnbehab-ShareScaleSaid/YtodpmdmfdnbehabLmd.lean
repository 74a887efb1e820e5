/- MulDiv of package wide by its numbers alone. -/
import Derived.Test.YtodpmdmfdnbehabLlive
import Derived.Test.YtodpmdmfdnbehabVmath6
namespace Go.Proofs.Ytodpmdmfdnbehab.Vl
set_option linter.unusedSimpArgs false
set_option linter.unusedVariables false
open Go.RowKit Go.Proofs.Ytodpmdmfdnbehab.Vm Go.Proofs.Ytodpmdmfdnbehab.Vc

theorem muldiv_to (a b c v r er : Int) (w : World) (fa : Fit1 a) (fb : Fit1 b) (fc : Fit1 c) (R : MDRes (a * b) c v r er) :
    Calls Try.prog 13 #[.int .i64 a, .int .i64 b, .int .i64 c] w fun e w' =>
      e = .returned (.tuple #[.int .i64 v, .int .i64 r, .int .i64 er]) ∧ Below w.heap.size w w' := by
  have pf := prod_fits fa fb
  have ff : Fits (a * b) := by unfold Fits; omega
  obtain ⟨h, l, n, bd⟩ := words_ex ff
  have b0 : Bd 0 0 := by unfold Bd; omega
  have f0 : Res1 (num 0 0) 0 0 := Or.inl ⟨rfl, rfl, by unfold Fit1 num; omega⟩
  rcases R with ⟨c0, rfl, rfl, rfl⟩ | ⟨c0, rfl, rfl, rfl⟩ | ⟨c0, rfl, rfl, rfl, nf⟩ | ⟨c0, rfl, fv, rfl, rfl⟩
  · exact MulDiv_any a b c h l 0 0 0 3 0 0 0 0 3 w fa fb fc bd n (.inl ⟨c0, rfl, rfl, rfl, rfl⟩) b0 f0 (.inl ⟨by decide, rfl, rfl, rfl⟩)
  · exact MulDiv_any a b c h l 0 0 0 1 0 0 0 0 1 w fa fb fc bd n (.inr (.inl ⟨c0, rfl, rfl, rfl, rfl⟩)) b0 f0 (.inl ⟨by decide, rfl, rfl, rfl⟩)
  all_goals
    obtain ⟨hq, lq, nq, bq⟩ := words_ex (quot_fits ff c0)
    have D : DivRes (num h l) c hq lq ((a * b) % c) 0 := .inr (.inr ⟨c0, rfl, bq, by rw [nq, n, Int.mul_comm]; exact Int.mul_ediv_add_emod _ _, Int.emod_nonneg _ (by omega), Int.emod_lt_of_pos _ c0⟩)
  · exact MulDiv_any a b c h l hq lq ((a * b) % c) 0 0 2 0 0 2 w fa fb fc bd n D bq (Or.inr ⟨rfl, rfl, by rw [nq]; exact nf⟩) (.inr (.inl ⟨rfl, rfl, rfl, rfl, rfl⟩))
  · exact MulDiv_any a b c h l hq lq ((a * b) % c) 0 (a * b / c) 0 (a * b / c) ((a * b) % c) 0 w fa fb fc bd n D bq (Or.inl ⟨rfl, nq.symm, by rw [nq]; exact fv⟩) (.inr (.inr ⟨rfl, rfl, rfl, rfl, rfl⟩))

end Go.Proofs.Ytodpmdmfdnbehab.Vl
