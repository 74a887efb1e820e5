/- Blocks of two cells that a walk has laid, and what became of the world beside them; nothing of the program. -/
import Derived.WalkKit
import Derived.RowKit
import Derived.RowKit3
import Derived.Below
import Derived.Lib.Hide
import Derived.Deep.DrawnRows
import Derived.Deep.QuietTactic
import Derived.BigQuiet
namespace Go.Proofs.YtfjckgnclhpmcaaDoor.Pr
set_option linter.unusedSimpArgs false
set_option linter.unusedVariables false
open Go.RowKit

/-- block b is there, holds u and v, and may be written -/
structure Two (W : World) (b : Nat) (u v : Value) : Prop where
  lt : b < W.heap.size
  c0 : W.cell? ⟨b, 0, none⟩ = some u
  c1 : W.cell? ⟨b, 1, none⟩ = some v
  f0 : W.frozen? ⟨b, 0, none⟩ = false
  f1 : W.frozen? ⟨b, 1, none⟩ = false
section
variable {W w1 : World} {b g : Nat} {u v x y : Value}
theorem Two.kept (p : Two W b u v) (hb : Below W.heap.size W w1) : Two w1 b u v :=
  ⟨Nat.lt_of_lt_of_le p.lt hb.size, (hb.cell (p := ⟨b, 0, none⟩) p.lt).trans p.c0, (hb.cell (p := ⟨b, 1, none⟩) p.lt).trans p.c1,
   (hb.frozen (p := ⟨b, 0, none⟩) p.lt).trans p.f0, (hb.frozen (p := ⟨b, 1, none⟩) p.lt).trans p.f1⟩
theorem Two.alloc (p : Two W b u v) (o : Obj) : Two (W.alloc o) b u v := p.kept ((Below.refl _ _).alloc (Nat.le_refl _) o)
theorem Two.new (W : World) (u v : Value) (t : TypeId) : Two (W.alloc (.cells #[u, v] t)) W.heap.size u v :=
  ⟨by simp, by simp [go_sem], by simp [go_sem], by simp [go_sem], by simp [go_sem]⟩
theorem Two.drewN (p : Two W b u v) (n : Nat) : Two (W.drewN n) b u v := ⟨p.lt, p.c0, p.c1, p.f0, p.f1⟩
theorem Two.drew (p : Two W b u v) : Two W.drew b u v := ⟨p.lt, p.c0, p.c1, p.f0, p.f1⟩
theorem Two.set0 (p : Two W b u v) (x : Value) : Two (W.setCell ⟨b, 0, none⟩ x) b x v :=
  ⟨by simp; exact p.lt, by simp [go_sem, p.c0], by simp [go_sem, p.c1], by simp [go_sem, p.f0], by simp [go_sem, p.f1]⟩
theorem Two.set1 (p : Two W b u v) (x : Value) : Two (W.setCell ⟨b, 1, none⟩ x) b u x :=
  ⟨by simp; exact p.lt, by simp [go_sem, p.c0], by simp [go_sem, p.c1], by simp [go_sem, p.f0], by simp [go_sem, p.f1]⟩
theorem Two.other (p : Two W b u v) (n : Nat) (x : Value) (h : b ≠ g) : Two (W.setCell ⟨g, n, none⟩ x) b u v :=
  ⟨by simp; exact p.lt, by rw [World.cell?_setCell_other] <;> simp [p.c0, h, go_sem], by rw [World.cell?_setCell_other] <;> simp [p.c1, h, go_sem], by simp [go_sem, p.f0], by simp [go_sem, p.f1]⟩
end

/-- nothing of what was there turns, step by step -/
theorem bthen {w W w1 : World} (h : Below w.heap.size w W) (hb : Below W.heap.size W w1) : Below w.heap.size w w1 := h.trans (hb.mono h.size)
theorem balloc {w W : World} (h : Below w.heap.size w W) (o : Obj) : Below w.heap.size w (W.alloc o) := h.alloc h.size o
theorem bdrewN {w W : World} (h : Below w.heap.size w W) (n : Nat) : Below w.heap.size w (W.drewN n) := ⟨h.os, h.tape, h.output, h.size, h.block⟩
theorem bset {w W : World} (h : Below w.heap.size w W) {g : Nat} (hg : w.heap.size ≤ g) (n : Nat) (x : Value) : Below w.heap.size w (W.setCell ⟨g, n, none⟩ x) := h.setCell (by simpa using hg) _

/-- what a drawn statement leaves whose result is laid in a box of two cells of its own -/
def Mid (W0 : World) (u v : Value) (s : Value) (W : World) : Prop :=
  ∃ g : Nat, s = .pointer (some ⟨g, 0, none⟩) ∧ W0.heap.size ≤ g ∧ Two W g u v ∧ Below W0.heap.size W0 W
theorem mid_set {W0 W : World} {g : Nat} {u v u' v' : Value} (K : Two W g u' v') (hB : Below W0.heap.size W0 W) (hg : W0.heap.size ≤ g) :
    Mid W0 u v (.pointer (some ⟨g, 0, none⟩)) ((W.setCell ⟨g, 0, none⟩ u).setCell ⟨g, 1, none⟩ v) :=
  ⟨g, rfl, hg, (K.set0 _).set1 _, bset (bset hB hg _ _) hg _ _⟩
theorem mid_new {W0 W : World} {u v : Value} {t : TypeId} (hB : Below W0.heap.size W0 W) : Mid W0 u v (.pointer (some ⟨W.heap.size, 0, none⟩)) (W.alloc (.cells #[u, v] t)) :=
  ⟨_, rfl, hB.size, Two.new _ _ _ _, balloc hB _⟩
/-- two boxes that stand in every world that is the same below -/
theorem held2 {W0 W : World} {p q : Nat} {a b c d : Value} (A : Two W0 p a b) (B : Two W0 q c d) (h : Below W0.heap.size W0 W) :
    Below W0.heap.size W0 W ∧ W.cell? ⟨p, 0, none⟩ = some a ∧ W.cell? ⟨p, 1, none⟩ = some b ∧ W.cell? ⟨q, 0, none⟩ = some c ∧ W.cell? ⟨q, 1, none⟩ = some d :=
  ⟨h, (A.kept h).c0, (A.kept h).c1, (B.kept h).c0, (B.kept h).c1⟩
theorem held3 {W0 W : World} {p q r : Nat} {a b c d e f : Value} (A : Two W0 p a b) (B : Two W0 q c d) (C : Two W0 r e f) (h : Below W0.heap.size W0 W) :
    Below W0.heap.size W0 W ∧ W.cell? ⟨p, 0, none⟩ = some a ∧ W.cell? ⟨p, 1, none⟩ = some b ∧ W.cell? ⟨q, 0, none⟩ = some c ∧ W.cell? ⟨q, 1, none⟩ = some d ∧ W.cell? ⟨r, 0, none⟩ = some e ∧ W.cell? ⟨r, 1, none⟩ = some f :=
  ⟨h, (A.kept h).c0, (A.kept h).c1, (B.kept h).c0, (B.kept h).c1, (C.kept h).c0, (C.kept h).c1⟩

end Go.Proofs.YtfjckgnclhpmcaaDoor.Pr

namespace Go.Proofs.YtfjckgnclhpmcaaDoor
open Go.RowKit
theorem bthen {w W w1 : World} (h : Below w.heap.size w W) (hb : Below W.heap.size W w1) : Below w.heap.size w w1 := Pr.bthen h hb
theorem balloc {w W : World} (h : Below w.heap.size w W) (o : Obj) : Below w.heap.size w (W.alloc o) := Pr.balloc h o
theorem bdrewN {w W : World} (h : Below w.heap.size w W) (n : Nat) : Below w.heap.size w (W.drewN n) := Pr.bdrewN h n
theorem bset {w W : World} (h : Below w.heap.size w W) {g : Nat} (hg : w.heap.size ≤ g) (n : Nat) (x : Value) : Below w.heap.size w (W.setCell ⟨g, n, none⟩ x) := Pr.bset h hg n x
end Go.Proofs.YtfjckgnclhpmcaaDoor
