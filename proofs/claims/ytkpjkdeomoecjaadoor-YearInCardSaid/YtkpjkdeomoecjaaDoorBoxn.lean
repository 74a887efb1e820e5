/- Blocks of some cells that a walk has laid; nothing of the program. -/
import Derived.Test.YtkpjkdeomoecjaaDoorPairs
namespace Go.Proofs.YtkpjkdeomoecjaaDoor.Bn
set_option linter.unusedSimpArgs false
set_option linter.unusedVariables false
open Go.RowKit

/-- block b is there, holds vs, and may be written -/
structure Box (W : World) (b : Nat) (vs : List Value) : Prop where
  lt : b < W.heap.size
  cell : ∀ i v, vs[i]? = some v → W.cell? ⟨b, i, none⟩ = some v
  frz : ∀ i, i < vs.length → W.frozen? ⟨b, i, none⟩ = false
section
variable {W w1 : World} {b g : Nat} {vs : List Value}
theorem Box.kept (p : Box W b vs) (hb : Below W.heap.size W w1) : Box w1 b vs :=
  ⟨Nat.lt_of_lt_of_le p.lt hb.size, fun i v h => (hb.cell (p := ⟨b, i, none⟩) p.lt).trans (p.cell i v h), fun i h => (hb.frozen (p := ⟨b, i, none⟩) p.lt).trans (p.frz i h)⟩
theorem Box.alloc (p : Box W b vs) (o : Obj) : Box (W.alloc o) b vs := p.kept ((Below.refl _ _).alloc (Nat.le_refl _) o)
theorem Box.drewN (p : Box W b vs) (n : Nat) : Box (W.drewN n) b vs := ⟨p.lt, p.cell, p.frz⟩
theorem Box.new (W : World) (a : Array Value) (t : TypeId) : Box (W.alloc (.cells a t)) W.heap.size a.toList :=
  ⟨by simp, fun i v h => by simpa [go_sem] using h, fun i h => by simp [go_sem]⟩
theorem Box.set (p : Box W b vs) (n : Nat) (hn : n < vs.length) (y : Value) : Box (W.setCell ⟨b, n, none⟩ y) b (vs.set n y) := by
  refine ⟨by simp; exact p.lt, fun i v h => ?_, fun i h => ?_⟩
  · obtain ⟨u, hu⟩ : ∃ u, vs[n]? = some u := ⟨_, List.getElem?_eq_getElem hn⟩
    have := p.cell n u hu
    by_cases e : i = n
    · subst e
      rw [List.getElem?_set_self hn] at h
      injection h with h; subst h
      simp [go_sem, this]
    · rw [List.getElem?_set_ne (fun h => e h.symm)] at h
      rw [World.cell?_setCell_other]
      · exact p.cell i v h
      · intro h'; injection h' with _ h'; exact e (by omega)
  · simp at h; simp [go_sem, p.frz i h]
theorem Box.other (p : Box W b vs) (n : Nat) (y : Value) (h : b ≠ g) : Box (W.setCell ⟨g, n, none⟩ y) b vs :=
  ⟨by simp; exact p.lt, fun i v hv => by rw [World.cell?_setCell_other] <;> simp [p.cell i v hv, h, go_sem], fun i hi => by simp [go_sem, p.frz i hi]⟩
theorem Box.four {a c d e : Value} (p : Box W b [a, c, d, e]) : b < W.heap.size ∧ W.cell? ⟨b, 0, none⟩ = some a ∧ W.cell? ⟨b, 1, none⟩ = some c ∧ W.cell? ⟨b, 2, none⟩ = some d ∧ W.cell? ⟨b, 3, none⟩ = some e ∧
    W.frozen? ⟨b, 0, none⟩ = false ∧ W.frozen? ⟨b, 1, none⟩ = false ∧ W.frozen? ⟨b, 2, none⟩ = false ∧ W.frozen? ⟨b, 3, none⟩ = false :=
  ⟨p.lt, p.cell 0 _ rfl, p.cell 1 _ rfl, p.cell 2 _ rfl, p.cell 3 _ rfl, p.frz 0 (by simp), p.frz 1 (by simp), p.frz 2 (by simp), p.frz 3 (by simp)⟩
theorem Box.five {a c d e f : Value} (p : Box W b [a, c, d, e, f]) : b < W.heap.size ∧ W.cell? ⟨b, 0, none⟩ = some a ∧ W.cell? ⟨b, 1, none⟩ = some c ∧ W.cell? ⟨b, 2, none⟩ = some d ∧ W.cell? ⟨b, 3, none⟩ = some e ∧ W.cell? ⟨b, 4, none⟩ = some f ∧
    W.frozen? ⟨b, 0, none⟩ = false ∧ W.frozen? ⟨b, 1, none⟩ = false ∧ W.frozen? ⟨b, 2, none⟩ = false ∧ W.frozen? ⟨b, 3, none⟩ = false ∧ W.frozen? ⟨b, 4, none⟩ = false :=
  ⟨p.lt, p.cell 0 _ rfl, p.cell 1 _ rfl, p.cell 2 _ rfl, p.cell 3 _ rfl, p.cell 4 _ rfl, p.frz 0 (by simp), p.frz 1 (by simp), p.frz 2 (by simp), p.frz 3 (by simp), p.frz 4 (by simp)⟩
theorem Box.set4 {a c d e a' c' d' e' : Value} (p : Box W b [a, c, d, e]) : Box ((((W.setCell ⟨b, 0, none⟩ a').setCell ⟨b, 1, none⟩ c').setCell ⟨b, 2, none⟩ d').setCell ⟨b, 3, none⟩ e') b [a', c', d', e'] :=
  (((p.set 0 (by simp) a').set 1 (by simp) c').set 2 (by simp) d').set 3 (by simp) e'
end

end Go.Proofs.YtkpjkdeomoecjaaDoor.Bn
