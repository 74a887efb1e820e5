/- count of package shape: weeks that an iterator tells one by one. -/
import Derived.RangeFuncNested
import Derived.RangeFuncBound
import Derived.RangeFuncCalls
import Derived.RangeFuncLeaves
import Derived.RangeFuncFrom
import Derived.Shelf.Abstract
import Derived.Shelf.RegionOpen
import Derived.WalkKit
import Derived.OwnWalkIn
import Derived.TacticsInMore
import Derived.LoopNIn
import Derived.LoopIn
import Derived.Maps.AppendAt
import Derived.Test.YtmccdemhbdidoaaDoorProg
import Derived.Test.YtmccdemhbdidoaaDoorJK
namespace Go.Proofs.YtmccdemhbdidoaaDoor.Hp
set_option linter.unusedSimpArgs false
set_option linter.unusedVariables false
open Go.RowKit Go.Shelf Go.Proofs.YtmccdemhbdidoaaDoor.Bx
attribute [local go_sem] Oper.semAt_some

theorem cnew (w : World) (v : Value) (t : TypeId) : (w.alloc (.cells #[v] t)).cell? ⟨w.heap.size, 0, none⟩ = some v ∧ (w.alloc (.cells #[v] t)).frozen? ⟨w.heap.size, 0, none⟩ = false := ⟨by simp [go_sem], by simp [go_sem]⟩
theorem calloc {w : World} {a : Addr} {v : Value} (o : Obj) (h : w.cell? a = some v) : (w.alloc o).cell? a = some v := by
  exact (((Below.refl _ w).alloc (Nat.le_refl _) o).cell (p := a) (World.block_lt_of_cell? _ _ h)).trans h

/-- the block lies as it lay -/
def KeepB (B : Nat) (W W' : World) : Prop := W'.heap[B]? = W.heap[B]?
theorem keepB_b {B : Nat} {w : World} (hB : B < w.heap.size) (W : World) (l : Nat) (o o' : Obj) (hl : w.heap.size ≤ l) (_ : W.heap[l]? = some o) (_ : o.isCells = false) (_ : o.isWalk = false) : KeepB B W (W.putObj l o') := World.putObj_heap_other (by omega)
theorem keepB_of {B n : Nat} {W W' : World} (h : Below n W W') (k : B < n) : KeepB B W W' := h.block B k
theorem keepB_set {B g n : Nat} (W : World) (x : Value) (h : B ≠ g) : KeepB B W (W.setCell ⟨g, n, none⟩ x) := by
  have h' : ¬ g = B := fun e => h e.symm
  unfold KeepB World.setCell
  simp [Array.getElem?_modify, h']

end Go.Proofs.YtmccdemhbdidoaaDoor.Hp
