/- What Sum of package wide comes to. -/
import Derived.Test.YtfjckgnclhpmcaaDoorVdiv
import Derived.Test.YtfjckgnclhpmcaaDoorVmath5
import Derived.Deep.RegionLaw
namespace Go.Proofs.YtfjckgnclhpmcaaDoor.Vc
set_option linter.unusedSimpArgs false
set_option linter.unusedVariables false
open Go.RowKit Go.Proofs.YtfjckgnclhpmcaaDoor.Vm
attribute [local go_sem ↓] Go.wp_at_zero Go.wp_at_succ

set_option maxHeartbeats 400000

/-- a slice whose elements are zs, below block B -/
def Rd (w : World) (B : Nat) (A : Option Addr) (zs : List Int) : Prop := zs = [] ∨ ∃ b off, A = some ⟨b, off, none⟩ ∧ b < B ∧ ∀ i, i < zs.length → w.cell? ⟨b, off + i, none⟩ = some (.int .i64 (zs.getD i 0))

/-- the world of a round: what was there is as it was, and block g holds the words a0, a1 -/
def SumW (w wr : World) (g : Nat) (a0 a1 : Int) : Prop :=
  Below w.heap.size w wr ∧ w.heap.size ≤ g ∧ g < wr.heap.size ∧ wr.cell? ⟨g, 0, none⟩ = some (.int .u64 a0) ∧ wr.cell? ⟨g, 1, none⟩ = some (.int .u64 a1) ∧ wr.frozen? ⟨g, 0, none⟩ = false ∧ wr.frozen? ⟨g, 1, none⟩ = false

end Go.Proofs.YtfjckgnclhpmcaaDoor.Vc
