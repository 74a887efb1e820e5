/- What the frames tell a walk of a slice of integers that came in. -/
import Derived.WalkKit
import Derived.OpenShut
namespace Go.Proofs.YtnjmokmlnpehdaaGreatDoor
set_option linter.unusedSimpArgs false
set_option linter.unusedVariables false
open Go.RowKit

/-- the slice's elements are zs, each fits its kind, and they lie in one block that is there -/
def SliceOf (k : IntKind) (w : World) (a : Option Addr) (len cap : Nat) (zs : List Int) : Prop :=
  zs.length = len ∧ len ≤ cap ∧ cap ≤ maxLen ∧ (∀ z ∈ zs, (Lit.int k z).wf = true) ∧
  (zs = [] ∨ ∃ b off, a = some ⟨b, off, none⟩ ∧ b < w.heap.size ∧ ∀ i, i < len → w.cell? ⟨b, off + i, none⟩ = some (.int k (zs.getD i 0)))

theorem sliceOf_nil (k : IntKind) (w : World) : SliceOf k w none 0 0 [] := ⟨rfl, Nat.le_refl _, Nat.zero_le _, fun _ h => (List.not_mem_nil h).elim, .inl rfl⟩

theorem sliceOf_row {k : IntKind} {w : World} {x : Addr} {len cap : Nat} {zs : List Int} (hl : len ≤ cap) (hm : cap ≤ maxLen) (hz : zs.length = cap)
    (hc : ∀ i, i < zs.length → w.cell? (x.add i) = some (.int k (zs.getD i 0))) (hw : ∀ n ∈ zs, (Lit.int k n).wf = true) : SliceOf k w (some x) len cap (zs.take len) := by
  refine ⟨by rw [List.length_take]; omega, hl, hm, fun z h => hw z (List.mem_of_mem_take h), ?_⟩
  rcases Nat.eq_zero_or_pos len with h0 | h0
  · exact .inl (by rw [h0]; rfl)
  · obtain ⟨b, off, rfl, h⟩ := ints_at hc (by omega)
    refine .inr ⟨b, off, rfl, World.block_lt_of_cell? w ⟨b, off + 0, none⟩ (h 0 (by omega)), fun i hi => ?_⟩
    rw [h i (by omega)]
    simp [List.getD, hi]

end Go.Proofs.YtnjmokmlnpehdaaGreatDoor
