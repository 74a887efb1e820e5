/- Texts that are joined: Rowp. -/
import Derived.Test.YtnjmokmlnpehdaaGreatDoorJK
namespace Go.Proofs.YtnjmokmlnpehdaaGreatDoor.Rk
set_option linter.unusedSimpArgs false
set_option linter.unusedVariables false
open Go.RowKit

/-- a row in block g of n elements of two cells each -/
structure Rowp (W : World) (g n : Nat) (f d : Nat → Int) : Prop where
  lt : g < W.heap.size
  c0 : ∀ i, i < n → W.cell? ⟨g, i * 2, none⟩ = some (.int .i64 (f i))
  c1 : ∀ i, i < n → W.cell? ⟨g, i * 2 + 1, none⟩ = some (.int .i64 (d i))
  z0 : ∀ i, i < n → W.frozen? ⟨g, i * 2, none⟩ = false
  z1 : ∀ i, i < n → W.frozen? ⟨g, i * 2 + 1, none⟩ = false
section
variable {W w1 : World} {g n : Nat} {f d : Nat → Int}
theorem Rowp.kept (p : Rowp W g n f d) (hb : Below W.heap.size W w1) : Rowp w1 g n f d :=
  ⟨Nat.lt_of_lt_of_le p.lt hb.size, fun i hi => (hb.cell (p := ⟨g, i * 2, none⟩) p.lt).trans (p.c0 i hi), fun i hi => (hb.cell (p := ⟨g, i * 2 + 1, none⟩) p.lt).trans (p.c1 i hi),
   fun i hi => (hb.frozen (p := ⟨g, i * 2, none⟩) p.lt).trans (p.z0 i hi), fun i hi => (hb.frozen (p := ⟨g, i * 2 + 1, none⟩) p.lt).trans (p.z1 i hi)⟩
theorem Rowp.congr {f' d' : Nat → Int} (p : Rowp W g n f d) (h : ∀ i, i < n → f i = f' i) (h' : ∀ i, i < n → d i = d' i) : Rowp W g n f' d' :=
  ⟨p.lt, fun i hi => by rw [← h i hi]; exact p.c0 i hi, fun i hi => by rw [← h' i hi]; exact p.c1 i hi, p.z0, p.z1⟩
theorem Rowp.set (p : Rowp W g n f d) {k : Nat} (hk : k < n) (u v : Int) :
    Rowp ((W.setCell ⟨g, k * 2, none⟩ (.int .i64 u)).setCell ⟨g, k * 2 + 1, none⟩ (.int .i64 v)) g n (fun i => if i = k then u else f i) (fun i => if i = k then v else d i) := by
  have ot : ∀ (W : World) (a b : Nat) (x : Value), a ≠ b → (W.setCell ⟨g, a, none⟩ x).cell? ⟨g, b, none⟩ = W.cell? ⟨g, b, none⟩ := fun W a b x h =>
    World.cell?_setCell_other _ _ _ _ (by intro e; simp only [Addr.mk.injEq] at e; omega)
  have sm : ∀ (W : World) (a : Nat) (x y : Value), W.cell? ⟨g, a, none⟩ = some y → (W.setCell ⟨g, a, none⟩ x).cell? ⟨g, a, none⟩ = some x := fun W a x y h => World.cell?_setCell_same _ _ _ h
  refine ⟨by simp; exact p.lt, fun i hi => ?_, fun i hi => ?_, fun i hi => by simp [go_sem, p.z0 i hi], fun i hi => by simp [go_sem, p.z1 i hi]⟩
  · rw [ot _ _ _ _ (by omega)]
    by_cases e : i = k
    · subst e; rw [if_pos rfl]; exact sm _ _ _ _ (p.c0 i hi)
    · rw [if_neg e, ot _ _ _ _ (by omega)]; exact p.c0 i hi
  · by_cases e : i = k
    · subst e; rw [if_pos rfl]; exact sm _ _ _ _ (by rw [ot _ _ _ _ (by omega)]; exact p.c1 i hi)
    · rw [if_neg e, ot _ _ _ _ (by omega), ot _ _ _ _ (by omega)]; exact p.c1 i hi
theorem Rowp.other {b : Nat} (p : Rowp W g n f d) (k : Nat) (v : Value) (h : g ≠ b) : Rowp (W.setCell ⟨b, k, none⟩ v) g n f d :=
  have ot : ∀ a, (W.setCell ⟨b, k, none⟩ v).cell? ⟨g, a, none⟩ = W.cell? ⟨g, a, none⟩ := fun a => World.cell?_setCell_other _ _ _ _ (by intro e; simp only [Addr.mk.injEq] at e; omega)
  ⟨by simp; exact p.lt, fun i hi => (ot _).trans (p.c0 i hi), fun i hi => (ot _).trans (p.c1 i hi), fun i hi => by simp [go_sem, p.z0 i hi], fun i hi => by simp [go_sem, p.z1 i hi]⟩
end

end Go.Proofs.YtnjmokmlnpehdaaGreatDoor.Rk
