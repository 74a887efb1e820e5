/- Rows that grow beside each other, one place longer; nothing of the program. -/
import Derived.Test.YtknecagkgegclaaDoorRowk
namespace Go.Proofs.YtknecagkgegclaaDoor.Rk
set_option linter.unusedSimpArgs false
set_option linter.unusedVariables false
open Go.RowKit
section
variable {EL : TypeId} {w W w1 : World} {u v : Value} {k : Nat} {f g : Nat → Int}
/-- the block that a row owns is new, and there -/
theorem own_at {base x n : Nat} {xs : List Value} (h : W.ownsRow base EL 1 u n xs) (e : u.ownBlock = some x) : base ≤ x ∧ x < W.heap.size := by
  rcases h.2 with ⟨h1, _⟩ | ⟨g, cap, cur, hv, hb, hg, _⟩
  · rw [h1] at e; cases e
  · rw [hv] at e
    have : g = x := by simpa [Value.ownBlock] using e
    subst this
    refine ⟨hb, ?_⟩
    rcases Nat.lt_or_ge g W.heap.size with hlt | hge
    · exact hlt
    · rw [Array.getElem?_eq_none hge] at hg; cases hg
theorem Duo.apart' (X : Duo EL w W u v k f g) : v.ownBlock = none ∨ v.ownBlock ≠ u.ownBlock := by
  cases hv : v.ownBlock with
  | none => exact .inl rfl
  | some x => exact .inr (fun e => X.apart x e.symm hv)
/-- both rows one longer -/
theorem Duo.next {W2 W3 : World} {o1 o2 : Obj} {g1 g2 c1 c2 : Nat} (X : Duo EL w W u v k f g)
    (h1 : W2.ownsRow w.heap.size EL 1 (.slice (some ⟨g1, 0, none⟩) (k + 1) c1) (k + 1) (lst f k ++ [.int .i64 (f k)])) (r1 : (W.alloc o1).grownBy W2 u.ownBlock) (a1 : u.ownBlock = some g1 ∨ g1 = W.heap.size + 1) (l1 : g1 < W2.heap.size)
    (h2 : W3.ownsRow w.heap.size EL 1 (.slice (some ⟨g2, 0, none⟩) (k + 1) c2) (k + 1) (lst g k ++ [.int .i64 (g k)])) (r2 : (W2.alloc o2).grownBy W3 v.ownBlock) (a2 : v.ownBlock = some g2 ∨ g2 = W2.heap.size + 1) (l2 : g2 < W3.heap.size) :
    Duo EL w W3 (.slice (some ⟨g1, 0, none⟩) (k + 1) c1) (.slice (some ⟨g2, 0, none⟩) (k + 1) c2) (k + 1) f g := by
  have B1 := below_grown (Pr.balloc X.below o1) r1 (fun x e => (own_at X.a e).1) (Nat.le_refl _)
  have B2 := below_grown (Pr.balloc B1 o2) r2 (fun x e => (own_at X.b e).1) (Nat.le_refl _)
  have sz := r1.size
  have ap : ∀ x, v.ownBlock = some x → g1 ≠ x := by
    intro x e h
    subst h
    rcases a1 with a1 | a1
    · exact X.apart g1 a1 e
    · have := (own_at X.b e).2
      omega
  refine ⟨B2, ?_, by rw [lst_succ]; exact h2, ?_⟩
  · rw [lst_succ]
    exact (h1.alloc o2).kept r2 (by
      cases hv : v.ownBlock with
      | none => right; simp [Value.ownBlock]
      | some x => right; simp only [Value.ownBlock]; intro e; exact ap x hv (Option.some.inj e))
  · intro x e1 e2
    have q1 : g1 = x := by simpa [Value.ownBlock] using e1
    have q2 : g2 = x := by simpa [Value.ownBlock] using e2
    rcases a2 with a2 | a2
    · exact ap g2 a2 (q1.trans q2.symm)
    · omega
end

end Go.Proofs.YtknecagkgegclaaDoor.Rk
