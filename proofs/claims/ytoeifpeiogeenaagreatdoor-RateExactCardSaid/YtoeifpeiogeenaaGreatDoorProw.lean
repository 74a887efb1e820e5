/- Rows whose elements have m cells of numbers; nothing of the program. -/
import Derived.Test.YtoeifpeiogeenaaGreatDoorJK
import Derived.Test.YtoeifpeiogeenaaGreatDoorSmath
namespace Go.Proofs.YtoeifpeiogeenaaGreatDoor.Rk
set_option linter.unusedSimpArgs false
set_option linter.unusedVariables false
open Go.RowKit

theorem place_inj {m i j k l : Nat} (hj : j < m) (hl : l < m) (e : i * m + j = k * m + l) : i = k ∧ j = l := by
  have h1 : (i * m + j) / m = i := by rw [Nat.mul_comm, Nat.mul_add_div (by omega), Nat.div_eq_of_lt hj]; rfl
  have h2 : (k * m + l) / m = k := by rw [Nat.mul_comm, Nat.mul_add_div (by omega), Nat.div_eq_of_lt hl]; rfl
  have e1 : i = k := by rw [← h1, ← h2, e]
  subst e1
  exact ⟨rfl, by omega⟩
/-- a row in block g of n elements of m cells each -/
structure Mrow (W : World) (g n m : Nat) (f : Nat → Nat → Int) : Prop where
  lt : g < W.heap.size
  c : ∀ i j, i < n → j < m → W.cell? ⟨g, i * m + j, none⟩ = some (.int .i64 (f i j))
  z : ∀ i j, i < n → j < m → W.frozen? ⟨g, i * m + j, none⟩ = false
section
variable {W w1 : World} {g n m : Nat} {f : Nat → Nat → Int}
theorem Mrow.kept (p : Mrow W g n m f) (hb : Below W.heap.size W w1) : Mrow w1 g n m f :=
  ⟨Nat.lt_of_lt_of_le p.lt hb.size, fun i j hi hj => (hb.cell (p := ⟨g, i * m + j, none⟩) p.lt).trans (p.c i j hi hj), fun i j hi hj => (hb.frozen (p := ⟨g, i * m + j, none⟩) p.lt).trans (p.z i j hi hj)⟩
theorem Mrow.alloc (p : Mrow W g n m f) (o : Obj) : Mrow (W.alloc o) g n m f := p.kept ((Below.refl _ _).alloc (Nat.le_refl _) o)
theorem Mrow.congr {f' : Nat → Nat → Int} (p : Mrow W g n m f) (h : ∀ i j, i < n → j < m → f i j = f' i j) : Mrow W g n m f' :=
  ⟨p.lt, fun i j hi hj => by rw [← h i j hi hj]; exact p.c i j hi hj, p.z⟩
theorem Mrow.set (p : Mrow W g n m f) {k l : Nat} (hk : k < n) (hl : l < m) (v : Int) : Mrow (W.setCell ⟨g, k * m + l, none⟩ (.int .i64 v)) g n m (fun i j => if i = k ∧ j = l then v else f i j) := by
  refine ⟨by simp; exact p.lt, fun i j hi hj => ?_, fun i j hi hj => by simp [go_sem, p.z i j hi hj]⟩
  by_cases e : i = k ∧ j = l
  · obtain ⟨rfl, rfl⟩ := e
    simp only [and_self, if_true]
    exact World.cell?_setCell_same _ _ _ (p.c i j hi hj)
  · rw [World.cell?_setCell_other _ _ _ _ (by intro e2; simp only [Addr.mk.injEq] at e2; exact e (place_inj hj hl (by omega)))]
    simp only [e, if_false]
    exact p.c i j hi hj
theorem Mrow.other {b : Nat} (p : Mrow W g n m f) (k : Nat) (v : Value) (h : g ≠ b) : Mrow (W.setCell ⟨b, k, none⟩ v) g n m f :=
  have ot : ∀ a, (W.setCell ⟨b, k, none⟩ v).cell? ⟨g, a, none⟩ = W.cell? ⟨g, a, none⟩ := fun a => World.cell?_setCell_other _ _ _ _ (by intro e; simp only [Addr.mk.injEq] at e; omega)
  ⟨by simp; exact p.lt, fun i j hi hj => (ot _).trans (p.c i j hi hj), fun i j hi hj => by simp [go_sem, p.z i j hi hj]⟩
end
section
variable {W : World} {g n : Nat}
/-- one element of five cells, and of four -/
theorem Mrow.set5 {f : Nat → Nat → Int} (p : Mrow W g n 5 f) {k : Nat} (hk : k < n) (v0 v1 v2 v3 v4 : Int) :
    Mrow (((((W.setCell ⟨g, k * 5, none⟩ (.int .i64 v0)).setCell ⟨g, k * 5 + 1, none⟩ (.int .i64 v1)).setCell ⟨g, k * 5 + 2, none⟩ (.int .i64 v2)).setCell ⟨g, k * 5 + 3, none⟩ (.int .i64 v3)).setCell ⟨g, k * 5 + 4, none⟩ (.int .i64 v4)) g n 5
      (fun i j => if i = k then (if j = 0 then v0 else if j = 1 then v1 else if j = 2 then v2 else if j = 3 then v3 else v4) else f i j) := by
  have q := ((((p.set (l := 0) hk (by omega) v0).set (l := 1) hk (by omega) v1).set (l := 2) hk (by omega) v2).set (l := 3) hk (by omega) v3).set (l := 4) hk (by omega) v4
  rw [Nat.add_zero] at q
  refine q.congr (fun i j hi hj => ?_)
  by_cases e : i = k
  · subst e
    have : j = 0 ∨ j = 1 ∨ j = 2 ∨ j = 3 ∨ j = 4 := by omega
    rcases this with rfl | rfl | rfl | rfl | rfl <;> simp
  · simp [e]
theorem Mrow.set4 {f : Nat → Nat → Int} (p : Mrow W g n 4 f) {k : Nat} (hk : k < n) (v0 v1 v2 v3 : Int) :
    Mrow ((((W.setCell ⟨g, k * 4, none⟩ (.int .i64 v0)).setCell ⟨g, k * 4 + 1, none⟩ (.int .i64 v1)).setCell ⟨g, k * 4 + 2, none⟩ (.int .i64 v2)).setCell ⟨g, k * 4 + 3, none⟩ (.int .i64 v3)) g n 4
      (fun i j => if i = k then (if j = 0 then v0 else if j = 1 then v1 else if j = 2 then v2 else v3) else f i j) := by
  have q := (((p.set (l := 0) hk (by omega) v0).set (l := 1) hk (by omega) v1).set (l := 2) hk (by omega) v2).set (l := 3) hk (by omega) v3
  rw [Nat.add_zero] at q
  refine q.congr (fun i j hi hj => ?_)
  by_cases e : i = k
  · subst e
    have : j = 0 ∨ j = 1 ∨ j = 2 ∨ j = 3 := by omega
    rcases this with rfl | rfl | rfl | rfl <;> simp
  · simp [e]
end
/-- what a loop has put into the elements below k -/
def upTo (k : Nat) (f : Nat → Nat → Int) (i j : Nat) : Int := if i < k then f i j else 0
theorem upTo_zero (f : Nat → Nat → Int) (i j : Nat) : upTo 0 f i j = 0 := by simp [upTo]
theorem upTo_next {f : Nat → Nat → Int} {k i j : Nat} {v : Int} (h : i = k → f k j = v) : (if i = k then v else upTo k f i j) = upTo (k + 1) f i j := by
  unfold upTo
  by_cases e : i = k
  · subst e; rw [if_pos rfl, if_pos (by omega), h rfl]
  · rw [if_neg e]
    by_cases e2 : i < k
    · rw [if_pos e2, if_pos (by omega)]
    · rw [if_neg e2, if_neg (by omega)]
theorem upTo_all {f : Nat → Nat → Int} {n i j : Nat} (h : i < n) : upTo n f i j = f i j := by unfold upTo; rw [if_pos h]

end Go.Proofs.YtoeifpeiogeenaaGreatDoor.Rk
