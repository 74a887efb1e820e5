/- live, and small words for the walks of the laws of layer 2. -/
import Derived.Test.YtfjckgnclhpmcaaDoorFrame
import Derived.Test.YtfjckgnclhpmcaaDoorVsum
namespace Go.Proofs.YtfjckgnclhpmcaaDoor.Vl
set_option linter.unusedSimpArgs false
set_option linter.unusedVariables false
open Go.RowKit Go.Proofs.YtfjckgnclhpmcaaDoor.Vm Go.Proofs.YtfjckgnclhpmcaaDoor.Vc
attribute [local go_sem ↓] Go.wp_at_zero Go.wp_at_succ

set_option maxHeartbeats 400000

/-- block b is there, and holds u and v -/
structure Pair (W : World) (b : Nat) (u v : Value) : Prop where
  lt : b < W.heap.size
  c0 : W.cell? ⟨b, 0, none⟩ = some u
  c1 : W.cell? ⟨b, 1, none⟩ = some v
theorem Pair.kept {W w1 : World} {b : Nat} {u v : Value} (p : Pair W b u v) (hb : Below W.heap.size W w1) : Pair w1 b u v :=
  ⟨Nat.lt_of_lt_of_le p.lt hb.size, (hb.cell (p := ⟨b, 0, none⟩) p.lt).trans p.c0, (hb.cell (p := ⟨b, 1, none⟩) p.lt).trans p.c1⟩
theorem Pair.alloc {W : World} {b : Nat} {u v : Value} (p : Pair W b u v) (o : Obj) : Pair (W.alloc o) b u v :=
  p.kept ((Below.refl _ _).alloc (Nat.le_refl _) o)
theorem Pair.new (W : World) (u v : Value) (t : TypeId) : Pair (W.alloc (.cells #[u, v] t)) W.heap.size u v :=
  ⟨by simp, by simp [go_sem], by simp [go_sem]⟩
theorem Pair.drewN {W : World} {b : Nat} {u v : Value} (p : Pair W b u v) (n : Nat) : Pair (W.drewN n) b u v := ⟨p.lt, p.c0, p.c1⟩
theorem Pair.drew {W : World} {b : Nat} {u v : Value} (p : Pair W b u v) : Pair W.drew b u v := ⟨p.lt, p.c0, p.c1⟩

/-- step by step nothing of what was there turns -/
theorem bthen {w W w1 : World} (h : Below w.heap.size w W) (hb : Below W.heap.size W w1) : Below w.heap.size w w1 := h.trans (hb.mono h.size)
theorem balloc {w W : World} (h : Below w.heap.size w W) (o : Obj) : Below w.heap.size w (W.alloc o) := h.alloc h.size o
theorem bdrewN {w W : World} (h : Below w.heap.size w W) (n : Nat) : Below w.heap.size w (W.drewN n) := below_drewN h n

end Go.Proofs.YtfjckgnclhpmcaaDoor.Vl
