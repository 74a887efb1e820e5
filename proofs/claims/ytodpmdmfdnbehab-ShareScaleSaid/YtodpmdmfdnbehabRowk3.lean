/- Three rows that grow beside each other; nothing of the program. -/
import Derived.Test.YtodpmdmfdnbehabRowk2
namespace Go.Proofs.Ytodpmdmfdnbehab.Rk
set_option linter.unusedSimpArgs false
set_option linter.unusedVariables false
open Go.RowKit

/-- three rows, of k1, k2 and k3 places -/
structure Trio (EL : TypeId) (w W : World) (u v t : Value) (k1 k2 k3 : Nat) (f g h : Nat → Int) : Prop where
  below : Below w.heap.size w W
  a : W.ownsRow w.heap.size EL 1 u k1 (lst f k1)
  b : W.ownsRow w.heap.size EL 1 v k2 (lst g k2)
  c : W.ownsRow w.heap.size EL 1 t k3 (lst h k3)
  ab : ∀ x, u.ownBlock = some x → v.ownBlock = some x → False
  bc : ∀ x, v.ownBlock = some x → t.ownBlock = some x → False
  ca : ∀ x, t.ownBlock = some x → u.ownBlock = some x → False
section
variable {EL : TypeId} {w W w1 : World} {u v t : Value} {k1 k2 k3 : Nat} {f g h : Nat → Int}
theorem Trio.start (EL : TypeId) (w : World) (hb : Below w.heap.size w W) (f g h : Nat → Int) : Trio EL w W (.slice none 0 0) (.slice none 0 0) (.slice none 0 0) 0 0 0 f g h :=
  ⟨hb, World.ownsRow_nil _ _ _ _, World.ownsRow_nil _ _ _ _, World.ownsRow_nil _ _ _ _, (fun x h => by cases h), (fun x h => by cases h), (fun x h => by cases h)⟩
theorem Trio.kept (x : Trio EL w W u v t k1 k2 k3 f g h) (hb : Below W.heap.size W w1) : Trio EL w w1 u v t k1 k2 k3 f g h :=
  ⟨Pr.bthen x.below hb, owns_below x.a hb, owns_below x.b hb, owns_below x.c hb, x.ab, x.bc, x.ca⟩
theorem Trio.turn (x : Trio EL w W u v t k1 k2 k3 f g h) : Trio EL w W v t u k2 k3 k1 g h f := ⟨x.below, x.b, x.c, x.a, x.bc, x.ca, x.ab⟩
/-- the first row one longer -/
theorem Trio.next {W2 : World} {o1 : Obj} {g1 c1 : Nat} (X : Trio EL w W u v t k1 k2 k3 f g h)
    (h1 : W2.ownsRow w.heap.size EL 1 (.slice (some ⟨g1, 0, none⟩) (k1 + 1) c1) (k1 + 1) (lst f k1 ++ [.int .i64 (f k1)])) (r1 : (W.alloc o1).grownBy W2 u.ownBlock) (a1 : u.ownBlock = some g1 ∨ g1 = W.heap.size + 1) (l1 : g1 < W2.heap.size) :
    Trio EL w W2 (.slice (some ⟨g1, 0, none⟩) (k1 + 1) c1) v t (k1 + 1) k2 k3 f g h := by
  have B1 := below_grown (Pr.balloc X.below o1) r1 (fun x e => (own_at X.a e).1) (Nat.le_refl _)
  have nb : v.ownBlock = none ∨ v.ownBlock ≠ u.ownBlock := by
    cases hv : v.ownBlock with
    | none => exact .inl rfl
    | some x => exact .inr (fun e => X.ab x e.symm hv)
  have nc : t.ownBlock = none ∨ t.ownBlock ≠ u.ownBlock := by
    cases hv : t.ownBlock with
    | none => exact .inl rfl
    | some x => exact .inr (fun e => X.ca x hv e.symm)
  refine ⟨B1, by rw [lst_succ]; exact h1, (X.b.alloc o1).kept r1 nb, (X.c.alloc o1).kept r1 nc, ?_, X.bc, ?_⟩
  · intro x e1 e2
    have q1 : g1 = x := by simpa [Value.ownBlock] using e1
    rcases a1 with a1 | a1
    · exact X.ab g1 a1 (by rw [q1]; exact e2)
    · have := (own_at X.b e2).2; omega
  · intro x e2 e1
    have q1 : g1 = x := by simpa [Value.ownBlock] using e1
    rcases a1 with a1 | a1
    · exact X.ca g1 (by rw [q1]; exact e2) a1
    · have := (own_at X.c e2).2; omega
end

end Go.Proofs.Ytodpmdmfdnbehab.Rk
