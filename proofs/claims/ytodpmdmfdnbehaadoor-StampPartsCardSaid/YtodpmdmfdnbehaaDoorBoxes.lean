/- Blocks of three cells that a walk has laid, and what became of the world beside them; nothing of the program. -/
import Derived.Test.YtodpmdmfdnbehaaDoorPairs
namespace Go.Proofs.YtodpmdmfdnbehaaDoor.Bx
set_option linter.unusedSimpArgs false
set_option linter.unusedVariables false
open Go.RowKit

/-- block b is there, holds u, v and x, and may be written -/
structure Tri (W : World) (b : Nat) (u v x : Value) : Prop where
  lt : b < W.heap.size
  c0 : W.cell? ⟨b, 0, none⟩ = some u
  c1 : W.cell? ⟨b, 1, none⟩ = some v
  c2 : W.cell? ⟨b, 2, none⟩ = some x
  f0 : W.frozen? ⟨b, 0, none⟩ = false
  f1 : W.frozen? ⟨b, 1, none⟩ = false
  f2 : W.frozen? ⟨b, 2, none⟩ = false
section
variable {W w1 : World} {b g : Nat} {u v x : Value}
theorem Tri.kept (p : Tri W b u v x) (hb : Below W.heap.size W w1) : Tri w1 b u v x :=
  ⟨Nat.lt_of_lt_of_le p.lt hb.size, (hb.cell (p := ⟨b, 0, none⟩) p.lt).trans p.c0, (hb.cell (p := ⟨b, 1, none⟩) p.lt).trans p.c1, (hb.cell (p := ⟨b, 2, none⟩) p.lt).trans p.c2,
   (hb.frozen (p := ⟨b, 0, none⟩) p.lt).trans p.f0, (hb.frozen (p := ⟨b, 1, none⟩) p.lt).trans p.f1, (hb.frozen (p := ⟨b, 2, none⟩) p.lt).trans p.f2⟩
theorem Tri.alloc (p : Tri W b u v x) (o : Obj) : Tri (W.alloc o) b u v x := p.kept ((Below.refl _ _).alloc (Nat.le_refl _) o)
theorem Tri.new (W : World) (u v x : Value) (t : TypeId) : Tri (W.alloc (.cells #[u, v, x] t)) W.heap.size u v x :=
  ⟨by simp, by simp [go_sem], by simp [go_sem], by simp [go_sem], by simp [go_sem], by simp [go_sem], by simp [go_sem]⟩
theorem Tri.drewN (p : Tri W b u v x) (n : Nat) : Tri (W.drewN n) b u v x := ⟨p.lt, p.c0, p.c1, p.c2, p.f0, p.f1, p.f2⟩
theorem Tri.drew (p : Tri W b u v x) : Tri W.drew b u v x := ⟨p.lt, p.c0, p.c1, p.c2, p.f0, p.f1, p.f2⟩
theorem Tri.set0 (p : Tri W b u v x) (y : Value) : Tri (W.setCell ⟨b, 0, none⟩ y) b y v x :=
  ⟨by simp; exact p.lt, by simp [go_sem, p.c0], by simp [go_sem, p.c1], by simp [go_sem, p.c2], by simp [go_sem, p.f0], by simp [go_sem, p.f1], by simp [go_sem, p.f2]⟩
theorem Tri.set1 (p : Tri W b u v x) (y : Value) : Tri (W.setCell ⟨b, 1, none⟩ y) b u y x :=
  ⟨by simp; exact p.lt, by simp [go_sem, p.c0], by simp [go_sem, p.c1], by simp [go_sem, p.c2], by simp [go_sem, p.f0], by simp [go_sem, p.f1], by simp [go_sem, p.f2]⟩
theorem Tri.set2 (p : Tri W b u v x) (y : Value) : Tri (W.setCell ⟨b, 2, none⟩ y) b u v y :=
  ⟨by simp; exact p.lt, by simp [go_sem, p.c0], by simp [go_sem, p.c1], by simp [go_sem, p.c2], by simp [go_sem, p.f0], by simp [go_sem, p.f1], by simp [go_sem, p.f2]⟩
theorem Tri.other (p : Tri W b u v x) (n : Nat) (y : Value) (h : b ≠ g) : Tri (W.setCell ⟨g, n, none⟩ y) b u v x :=
  ⟨by simp; exact p.lt, by rw [World.cell?_setCell_other] <;> simp [p.c0, h, go_sem], by rw [World.cell?_setCell_other] <;> simp [p.c1, h, go_sem], by rw [World.cell?_setCell_other] <;> simp [p.c2, h, go_sem],
   by simp [go_sem, p.f0], by simp [go_sem, p.f1], by simp [go_sem, p.f2]⟩
end

theorem heldT {W0 W : World} {p : Nat} {a b c : Value} (A : Tri W0 p a b c) (h : Below W0.heap.size W0 W) :
    Below W0.heap.size W0 W ∧ W.cell? ⟨p, 0, none⟩ = some a ∧ W.cell? ⟨p, 1, none⟩ = some b ∧ W.cell? ⟨p, 2, none⟩ = some c := ⟨h, (A.kept h).c0, (A.kept h).c1, (A.kept h).c2⟩

end Go.Proofs.YtodpmdmfdnbehaaDoor.Bx
