/- Blocks of two cells that a walk has laid, and what became of the world beside them; nothing of the program. -/
import Derived.WalkKit
import Derived.RowKit
import Derived.RowKit3
import Derived.Below
import Derived.Lib.Hide
import Derived.Deep.DrawnRows
import Derived.Deep.QuietTactic
import Derived.BigQuiet
namespace Go.Proofs.Ytmngbhkokglmjaa.Pr
open Go.RowKit

/-- block b is there, holds u and v, and may be written -/
structure Two (W : World) (b : Nat) (u v : Value) : Prop where
  lt : b < W.heap.size
  c0 : W.cell? ⟨b, 0, none⟩ = some u
  c1 : W.cell? ⟨b, 1, none⟩ = some v
  f0 : W.frozen? ⟨b, 0, none⟩ = false
  f1 : W.frozen? ⟨b, 1, none⟩ = false
section
variable {W w1 : World} {b g : Nat} {u v x y : Value}
theorem Two.kept (p : Two W b u v) (hb : Below W.heap.size W w1) : Two w1 b u v :=
  ⟨Nat.lt_of_lt_of_le p.lt hb.size, (hb.cell (p := ⟨b, 0, none⟩) p.lt).trans p.c0, (hb.cell (p := ⟨b, 1, none⟩) p.lt).trans p.c1,
   (hb.frozen (p := ⟨b, 0, none⟩) p.lt).trans p.f0, (hb.frozen (p := ⟨b, 1, none⟩) p.lt).trans p.f1⟩
theorem Two.alloc (p : Two W b u v) (o : Obj) : Two (W.alloc o) b u v := p.kept ((Below.refl _ _).alloc (Nat.le_refl _) o)
theorem Two.new (W : World) (u v : Value) (t : TypeId) : Two (W.alloc (.cells #[u, v] t)) W.heap.size u v :=
  ⟨by simp, by simp [go_sem], by simp [go_sem], by simp [go_sem], by simp [go_sem]⟩
theorem Two.drewN (p : Two W b u v) (n : Nat) : Two (W.drewN n) b u v := ⟨p.lt, p.c0, p.c1, p.f0, p.f1⟩
theorem Two.drew (p : Two W b u v) : Two W.drew b u v := ⟨p.lt, p.c0, p.c1, p.f0, p.f1⟩
theorem Two.set0 (p : Two W b u v) (x : Value) : Two (W.setCell ⟨b, 0, none⟩ x) b x v :=
  ⟨by simp; exact p.lt, by simp [go_sem, p.c0], by simp [go_sem, p.c1], by simp [go_sem, p.f0], by simp [go_sem, p.f1]⟩
theorem Two.set1 (p : Two W b u v) (x : Value) : Two (W.setCell ⟨b, 1, none⟩ x) b u x :=
  ⟨by simp; exact p.lt, by simp [go_sem, p.c0], by simp [go_sem, p.c1], by simp [go_sem, p.f0], by simp [go_sem, p.f1]⟩
theorem Two.other (p : Two W b u v) (n : Nat) (x : Value) (h : b ≠ g) : Two (W.setCell ⟨g, n, none⟩ x) b u v :=
  ⟨by simp; exact p.lt, by rw [World.cell?_setCell_other] <;> simp [p.c0, h, go_sem], by rw [World.cell?_setCell_other] <;> simp [p.c1, h, go_sem], by simp [go_sem, p.f0], by simp [go_sem, p.f1]⟩
end

/-- nothing of what was there turns, step by step -/
theorem bthen {w W w1 : World} (h : Below w.heap.size w W) (hb : Below W.heap.size W w1) : Below w.heap.size w w1 := h.trans (hb.mono h.size)
theorem balloc {w W : World} (h : Below w.heap.size w W) (o : Obj) : Below w.heap.size w (W.alloc o) := h.alloc h.size o
theorem bdrewN {w W : World} (h : Below w.heap.size w W) (n : Nat) : Below w.heap.size w (W.drewN n) := ⟨h.os, h.tape, h.output, h.size, h.block⟩
theorem bset {w W : World} (h : Below w.heap.size w W) {g : Nat} (hg : w.heap.size ≤ g) (n : Nat) (x : Value) : Below w.heap.size w (W.setCell ⟨g, n, none⟩ x) := h.setCell (by simpa using hg) _

end Go.Proofs.Ytmngbhkokglmjaa.Pr
