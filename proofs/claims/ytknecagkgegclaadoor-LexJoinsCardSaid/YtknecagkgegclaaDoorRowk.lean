/- Slices of integers that a walk has made: rows that it owns, by a function of the place; nothing of the program. -/
import Derived.Test.YtknecagkgegclaaDoorPairs
import Derived.Deep.AppendLies
import Derived.Laws.OwnMore
import Derived.OwnWalk
import Derived.OneCell
namespace Go.Proofs.YtknecagkgegclaaDoor.Rk
set_option linter.unusedSimpArgs false
set_option linter.unusedVariables false
open Go.RowKit

/-- the first k values of f -/
def lst (f : Nat → Int) (k : Nat) : List Value := (List.range k).map fun i => .int .i64 (f i)
theorem lst_succ (f : Nat → Int) (k : Nat) : lst f (k + 1) = lst f k ++ [.int .i64 (f k)] := by unfold lst; rw [List.range_succ, List.map_append]; rfl
theorem lst_len (f : Nat → Int) (k : Nat) : (lst f k).length = k := by simp [lst]
theorem lst_at (f : Nat → Int) {k i : Nat} (h : i < k) : (lst f k)[i]? = some (.int .i64 (f i)) := by simp [lst, h]
theorem lst_congr {f g : Nat → Int} {k : Nat} (h : ∀ i, i < k → f i = g i) : lst f k = lst g k := by
  unfold lst
  apply List.map_congr_left
  intro i hi
  rw [h i (List.mem_range.1 hi)]

theorem below_grown {B : Nat} {a w w' : World} {row : Option Nat} (h : Below B a w) (hg : w.grownBy w' row) (hr : ∀ k, row = some k → B ≤ k) (hB : B ≤ a.heap.size) : Below B a w' :=
  ⟨hg.os.trans h.os, hg.tape.trans h.tape, hg.output.trans h.output, Nat.le_trans h.size hg.size,
    fun i hi => (hg.block i (by have := h.size; omega) (fun e => by have := hr i e.symm; omega)).trans (h.block i hi)⟩

/-- a row that lies in block g, of n places -/
structure Row (W : World) (g n : Nat) (f : Nat → Int) : Prop where
  lt : g < W.heap.size
  c : ∀ i, i < n → W.cell? ⟨g, i, none⟩ = some (.int .i64 (f i))
  fz : ∀ i, i < n → W.frozen? ⟨g, i, none⟩ = false
section
variable {W w1 : World} {g n : Nat} {f : Nat → Int}
theorem Row.of_owns {base : Nat} {e : TypeId} {cap : Nat} (h : W.ownsRow base e 1 (.slice (some ⟨g, 0, none⟩) n cap) n (lst f n)) (hn : 0 < n) : Row W g n f := by
  refine ⟨?_, fun i hi => ?_, fun i _ => h.frozenAt i⟩
  · obtain ⟨g', cap', e1, _, hlt⟩ := h.form hn
    cases e1; exact hlt
  · rw [h.cellAt i (by omega), lst_at f hi]
theorem Row.kept (p : Row W g n f) (hb : Below W.heap.size W w1) : Row w1 g n f :=
  ⟨Nat.lt_of_lt_of_le p.lt hb.size, fun i hi => (hb.cell (p := ⟨g, i, none⟩) p.lt).trans (p.c i hi), fun i hi => (hb.frozen (p := ⟨g, i, none⟩) p.lt).trans (p.fz i hi)⟩
theorem Row.set (p : Row W g n f) {k : Nat} (v : Int) (hk : k < n) : Row (W.setCell ⟨g, k, none⟩ (.int .i64 v)) g n (fun i => if i = k then v else f i) := by
  refine ⟨by simp; exact p.lt, fun i hi => ?_, fun i hi => by simp [go_sem, p.fz i hi]⟩
  by_cases e : i = k
  · subst e; simp [go_sem, p.c i hi]
  · rw [World.cell?_setCell_other] <;> simp [p.c i hi, e, go_sem]
theorem Row.other {b : Nat} (p : Row W g n f) (k : Nat) (v : Value) (h : g ≠ b) : Row (W.setCell ⟨b, k, none⟩ v) g n f :=
  ⟨by simp; exact p.lt, fun i hi => by rw [World.cell?_setCell_other] <;> simp [p.c i hi, h, go_sem], fun i hi => by simp [go_sem, p.fz i hi]⟩
end

/-- two rows that grow beside each other, of k places each -/
structure Duo (EL : TypeId) (w W : World) (u v : Value) (k : Nat) (f g : Nat → Int) : Prop where
  below : Below w.heap.size w W
  a : W.ownsRow w.heap.size EL 1 u k (lst f k)
  b : W.ownsRow w.heap.size EL 1 v k (lst g k)
  apart : ∀ x, u.ownBlock = some x → v.ownBlock = some x → False
section
variable {EL : TypeId} {w W w1 : World} {u v : Value} {k : Nat} {f g : Nat → Int}
theorem owns_below {base : Nat} {xs : List Value} (h : W.ownsRow base EL 1 u k xs) (hb : Below W.heap.size W w1) : w1.ownsRow base EL 1 u k xs :=
  h.kept (row := none) ⟨hb.os, hb.tape, hb.output, hb.size, fun i hi _ => hb.block i hi⟩ (by cases u.ownBlock <;> simp)
theorem Duo.start (EL : TypeId) (w : World) (h : Below w.heap.size w W) (f g : Nat → Int) : Duo EL w W (.slice none 0 0) (.slice none 0 0) 0 f g :=
  ⟨h, World.ownsRow_nil _ _ _ _, World.ownsRow_nil _ _ _ _, fun x h => by cases h⟩
theorem Duo.kept (x : Duo EL w W u v k f g) (hb : Below W.heap.size W w1) : Duo EL w w1 u v k f g :=
  ⟨Pr.bthen x.below hb, owns_below x.a hb, owns_below x.b hb, x.apart⟩
end

end Go.Proofs.YtknecagkgegclaaDoor.Rk
