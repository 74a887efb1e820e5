/- Texts that are joined: Pairs, Boxes, Boxn, Rowk, Rowk2, Hrow, Fstore, Fload. -/
import Derived.WalkKit
import Derived.RowKit
import Derived.RowKit3
import Derived.Below
import Derived.Lib.Hide
import Derived.Deep.DrawnRows
import Derived.Deep.QuietTactic
import Derived.BigQuiet
import Derived.Deep.AppendLies
import Derived.Laws.OwnMore
import Derived.OwnWalk
import Derived.OneCell
import Derived.Deep.WholeRow
import Derived.Deep.MidRow
namespace Go.Proofs.YtnjmokmlnpehdaaGreatDoor.Pr
set_option linter.unusedSimpArgs false
set_option linter.unusedVariables false
open Go.RowKit

/-- block b is there, holds u and v, and may be written -/
structure Two (W : World) (b : Nat) (u v : Value) : Prop where
  lt : b < W.heap.size
  c0 : W.cell? ⟨b, 0, none⟩ = some u
  c1 : W.cell? ⟨b, 1, none⟩ = some v
  f0 : W.frozen? ⟨b, 0, none⟩ = false
  f1 : W.frozen? ⟨b, 1, none⟩ = false
section
variable {W w1 : World} {b g : Nat} {u v x y : Value}
theorem Two.kept (p : Two W b u v) (hb : Below W.heap.size W w1) : Two w1 b u v :=
  ⟨Nat.lt_of_lt_of_le p.lt hb.size, (hb.cell (p := ⟨b, 0, none⟩) p.lt).trans p.c0, (hb.cell (p := ⟨b, 1, none⟩) p.lt).trans p.c1,
   (hb.frozen (p := ⟨b, 0, none⟩) p.lt).trans p.f0, (hb.frozen (p := ⟨b, 1, none⟩) p.lt).trans p.f1⟩
theorem Two.alloc (p : Two W b u v) (o : Obj) : Two (W.alloc o) b u v := p.kept ((Below.refl _ _).alloc (Nat.le_refl _) o)
theorem Two.new (W : World) (u v : Value) (t : TypeId) : Two (W.alloc (.cells #[u, v] t)) W.heap.size u v :=
  ⟨by simp, by simp [go_sem], by simp [go_sem], by simp [go_sem], by simp [go_sem]⟩
theorem Two.drewN (p : Two W b u v) (n : Nat) : Two (W.drewN n) b u v := ⟨p.lt, p.c0, p.c1, p.f0, p.f1⟩
theorem Two.drew (p : Two W b u v) : Two W.drew b u v := ⟨p.lt, p.c0, p.c1, p.f0, p.f1⟩
theorem Two.set0 (p : Two W b u v) (x : Value) : Two (W.setCell ⟨b, 0, none⟩ x) b x v :=
  ⟨by simp; exact p.lt, by simp [go_sem, p.c0], by simp [go_sem, p.c1], by simp [go_sem, p.f0], by simp [go_sem, p.f1]⟩
theorem Two.set1 (p : Two W b u v) (x : Value) : Two (W.setCell ⟨b, 1, none⟩ x) b u x :=
  ⟨by simp; exact p.lt, by simp [go_sem, p.c0], by simp [go_sem, p.c1], by simp [go_sem, p.f0], by simp [go_sem, p.f1]⟩
theorem Two.other (p : Two W b u v) (n : Nat) (x : Value) (h : b ≠ g) : Two (W.setCell ⟨g, n, none⟩ x) b u v :=
  ⟨by simp; exact p.lt, by rw [World.cell?_setCell_other] <;> simp [p.c0, h, go_sem], by rw [World.cell?_setCell_other] <;> simp [p.c1, h, go_sem], by simp [go_sem, p.f0], by simp [go_sem, p.f1]⟩
end

/-- nothing of what was there turns, step by step -/
theorem bthen {w W w1 : World} (h : Below w.heap.size w W) (hb : Below W.heap.size W w1) : Below w.heap.size w w1 := h.trans (hb.mono h.size)
theorem balloc {w W : World} (h : Below w.heap.size w W) (o : Obj) : Below w.heap.size w (W.alloc o) := h.alloc h.size o
theorem bdrewN {w W : World} (h : Below w.heap.size w W) (n : Nat) : Below w.heap.size w (W.drewN n) := ⟨h.os, h.tape, h.output, h.size, h.block⟩
theorem bset {w W : World} (h : Below w.heap.size w W) {g : Nat} (hg : w.heap.size ≤ g) (n : Nat) (x : Value) : Below w.heap.size w (W.setCell ⟨g, n, none⟩ x) := h.setCell (by simpa using hg) _

/-- what a drawn statement leaves whose result is laid in a box of two cells of its own -/
def Mid (W0 : World) (u v : Value) (s : Value) (W : World) : Prop :=
  ∃ g : Nat, s = .pointer (some ⟨g, 0, none⟩) ∧ W0.heap.size ≤ g ∧ Two W g u v ∧ Below W0.heap.size W0 W
theorem mid_set {W0 W : World} {g : Nat} {u v u' v' : Value} (K : Two W g u' v') (hB : Below W0.heap.size W0 W) (hg : W0.heap.size ≤ g) :
    Mid W0 u v (.pointer (some ⟨g, 0, none⟩)) ((W.setCell ⟨g, 0, none⟩ u).setCell ⟨g, 1, none⟩ v) :=
  ⟨g, rfl, hg, (K.set0 _).set1 _, bset (bset hB hg _ _) hg _ _⟩
theorem mid_new {W0 W : World} {u v : Value} {t : TypeId} (hB : Below W0.heap.size W0 W) : Mid W0 u v (.pointer (some ⟨W.heap.size, 0, none⟩)) (W.alloc (.cells #[u, v] t)) :=
  ⟨_, rfl, hB.size, Two.new _ _ _ _, balloc hB _⟩
/-- two boxes that stand in every world that is the same below -/
theorem held2 {W0 W : World} {p q : Nat} {a b c d : Value} (A : Two W0 p a b) (B : Two W0 q c d) (h : Below W0.heap.size W0 W) :
    Below W0.heap.size W0 W ∧ W.cell? ⟨p, 0, none⟩ = some a ∧ W.cell? ⟨p, 1, none⟩ = some b ∧ W.cell? ⟨q, 0, none⟩ = some c ∧ W.cell? ⟨q, 1, none⟩ = some d :=
  ⟨h, (A.kept h).c0, (A.kept h).c1, (B.kept h).c0, (B.kept h).c1⟩
theorem held3 {W0 W : World} {p q r : Nat} {a b c d e f : Value} (A : Two W0 p a b) (B : Two W0 q c d) (C : Two W0 r e f) (h : Below W0.heap.size W0 W) :
    Below W0.heap.size W0 W ∧ W.cell? ⟨p, 0, none⟩ = some a ∧ W.cell? ⟨p, 1, none⟩ = some b ∧ W.cell? ⟨q, 0, none⟩ = some c ∧ W.cell? ⟨q, 1, none⟩ = some d ∧ W.cell? ⟨r, 0, none⟩ = some e ∧ W.cell? ⟨r, 1, none⟩ = some f :=
  ⟨h, (A.kept h).c0, (A.kept h).c1, (B.kept h).c0, (B.kept h).c1, (C.kept h).c0, (C.kept h).c1⟩

end Go.Proofs.YtnjmokmlnpehdaaGreatDoor.Pr

namespace Go.Proofs.YtnjmokmlnpehdaaGreatDoor
open Go.RowKit
theorem bthen {w W w1 : World} (h : Below w.heap.size w W) (hb : Below W.heap.size W w1) : Below w.heap.size w w1 := Pr.bthen h hb
theorem balloc {w W : World} (h : Below w.heap.size w W) (o : Obj) : Below w.heap.size w (W.alloc o) := Pr.balloc h o
theorem bdrewN {w W : World} (h : Below w.heap.size w W) (n : Nat) : Below w.heap.size w (W.drewN n) := Pr.bdrewN h n
theorem bset {w W : World} (h : Below w.heap.size w W) {g : Nat} (hg : w.heap.size ≤ g) (n : Nat) (x : Value) : Below w.heap.size w (W.setCell ⟨g, n, none⟩ x) := Pr.bset h hg n x
end Go.Proofs.YtnjmokmlnpehdaaGreatDoor

namespace Go.Proofs.YtnjmokmlnpehdaaGreatDoor.Bx
set_option linter.unusedSimpArgs false
set_option linter.unusedVariables false
open Go.RowKit

/-- block b is there, holds u, v and x, and may be written -/
structure Tri (W : World) (b : Nat) (u v x : Value) : Prop where
  lt : b < W.heap.size
  c0 : W.cell? ⟨b, 0, none⟩ = some u
  c1 : W.cell? ⟨b, 1, none⟩ = some v
  c2 : W.cell? ⟨b, 2, none⟩ = some x
  f0 : W.frozen? ⟨b, 0, none⟩ = false
  f1 : W.frozen? ⟨b, 1, none⟩ = false
  f2 : W.frozen? ⟨b, 2, none⟩ = false
section
variable {W w1 : World} {b g : Nat} {u v x : Value}
theorem Tri.kept (p : Tri W b u v x) (hb : Below W.heap.size W w1) : Tri w1 b u v x :=
  ⟨Nat.lt_of_lt_of_le p.lt hb.size, (hb.cell (p := ⟨b, 0, none⟩) p.lt).trans p.c0, (hb.cell (p := ⟨b, 1, none⟩) p.lt).trans p.c1, (hb.cell (p := ⟨b, 2, none⟩) p.lt).trans p.c2,
   (hb.frozen (p := ⟨b, 0, none⟩) p.lt).trans p.f0, (hb.frozen (p := ⟨b, 1, none⟩) p.lt).trans p.f1, (hb.frozen (p := ⟨b, 2, none⟩) p.lt).trans p.f2⟩
theorem Tri.alloc (p : Tri W b u v x) (o : Obj) : Tri (W.alloc o) b u v x := p.kept ((Below.refl _ _).alloc (Nat.le_refl _) o)
theorem Tri.new (W : World) (u v x : Value) (t : TypeId) : Tri (W.alloc (.cells #[u, v, x] t)) W.heap.size u v x :=
  ⟨by simp, by simp [go_sem], by simp [go_sem], by simp [go_sem], by simp [go_sem], by simp [go_sem], by simp [go_sem]⟩
theorem Tri.drewN (p : Tri W b u v x) (n : Nat) : Tri (W.drewN n) b u v x := ⟨p.lt, p.c0, p.c1, p.c2, p.f0, p.f1, p.f2⟩
theorem Tri.drew (p : Tri W b u v x) : Tri W.drew b u v x := ⟨p.lt, p.c0, p.c1, p.c2, p.f0, p.f1, p.f2⟩
theorem Tri.set0 (p : Tri W b u v x) (y : Value) : Tri (W.setCell ⟨b, 0, none⟩ y) b y v x :=
  ⟨by simp; exact p.lt, by simp [go_sem, p.c0], by simp [go_sem, p.c1], by simp [go_sem, p.c2], by simp [go_sem, p.f0], by simp [go_sem, p.f1], by simp [go_sem, p.f2]⟩
theorem Tri.set1 (p : Tri W b u v x) (y : Value) : Tri (W.setCell ⟨b, 1, none⟩ y) b u y x :=
  ⟨by simp; exact p.lt, by simp [go_sem, p.c0], by simp [go_sem, p.c1], by simp [go_sem, p.c2], by simp [go_sem, p.f0], by simp [go_sem, p.f1], by simp [go_sem, p.f2]⟩
theorem Tri.set2 (p : Tri W b u v x) (y : Value) : Tri (W.setCell ⟨b, 2, none⟩ y) b u v y :=
  ⟨by simp; exact p.lt, by simp [go_sem, p.c0], by simp [go_sem, p.c1], by simp [go_sem, p.c2], by simp [go_sem, p.f0], by simp [go_sem, p.f1], by simp [go_sem, p.f2]⟩
theorem Tri.other (p : Tri W b u v x) (n : Nat) (y : Value) (h : b ≠ g) : Tri (W.setCell ⟨g, n, none⟩ y) b u v x :=
  ⟨by simp; exact p.lt, by rw [World.cell?_setCell_other] <;> simp [p.c0, h, go_sem], by rw [World.cell?_setCell_other] <;> simp [p.c1, h, go_sem], by rw [World.cell?_setCell_other] <;> simp [p.c2, h, go_sem],
   by simp [go_sem, p.f0], by simp [go_sem, p.f1], by simp [go_sem, p.f2]⟩
end

theorem heldT {W0 W : World} {p : Nat} {a b c : Value} (A : Tri W0 p a b c) (h : Below W0.heap.size W0 W) :
    Below W0.heap.size W0 W ∧ W.cell? ⟨p, 0, none⟩ = some a ∧ W.cell? ⟨p, 1, none⟩ = some b ∧ W.cell? ⟨p, 2, none⟩ = some c := ⟨h, (A.kept h).c0, (A.kept h).c1, (A.kept h).c2⟩

end Go.Proofs.YtnjmokmlnpehdaaGreatDoor.Bx

namespace Go.Proofs.YtnjmokmlnpehdaaGreatDoor.Bn
set_option linter.unusedSimpArgs false
set_option linter.unusedVariables false
open Go.RowKit

/-- block b is there, holds vs, and may be written -/
structure Box (W : World) (b : Nat) (vs : List Value) : Prop where
  lt : b < W.heap.size
  cell : ∀ i v, vs[i]? = some v → W.cell? ⟨b, i, none⟩ = some v
  frz : ∀ i, i < vs.length → W.frozen? ⟨b, i, none⟩ = false
section
variable {W w1 : World} {b g : Nat} {vs : List Value}
theorem Box.kept (p : Box W b vs) (hb : Below W.heap.size W w1) : Box w1 b vs :=
  ⟨Nat.lt_of_lt_of_le p.lt hb.size, fun i v h => (hb.cell (p := ⟨b, i, none⟩) p.lt).trans (p.cell i v h), fun i h => (hb.frozen (p := ⟨b, i, none⟩) p.lt).trans (p.frz i h)⟩
theorem Box.alloc (p : Box W b vs) (o : Obj) : Box (W.alloc o) b vs := p.kept ((Below.refl _ _).alloc (Nat.le_refl _) o)
theorem Box.drewN (p : Box W b vs) (n : Nat) : Box (W.drewN n) b vs := ⟨p.lt, p.cell, p.frz⟩
theorem Box.new (W : World) (a : Array Value) (t : TypeId) : Box (W.alloc (.cells a t)) W.heap.size a.toList :=
  ⟨by simp, fun i v h => by simpa [go_sem] using h, fun i h => by simp [go_sem]⟩
theorem Box.set (p : Box W b vs) (n : Nat) (hn : n < vs.length) (y : Value) : Box (W.setCell ⟨b, n, none⟩ y) b (vs.set n y) := by
  refine ⟨by simp; exact p.lt, fun i v h => ?_, fun i h => ?_⟩
  · obtain ⟨u, hu⟩ : ∃ u, vs[n]? = some u := ⟨_, List.getElem?_eq_getElem hn⟩
    have := p.cell n u hu
    by_cases e : i = n
    · subst e
      rw [List.getElem?_set_self hn] at h
      injection h with h; subst h
      simp [go_sem, this]
    · rw [List.getElem?_set_ne (fun h => e h.symm)] at h
      rw [World.cell?_setCell_other]
      · exact p.cell i v h
      · intro h'; injection h' with _ h'; exact e (by omega)
  · simp at h; simp [go_sem, p.frz i h]
theorem Box.other (p : Box W b vs) (n : Nat) (y : Value) (h : b ≠ g) : Box (W.setCell ⟨g, n, none⟩ y) b vs :=
  ⟨by simp; exact p.lt, fun i v hv => by rw [World.cell?_setCell_other] <;> simp [p.cell i v hv, h, go_sem], fun i hi => by simp [go_sem, p.frz i hi]⟩
theorem Box.four {a c d e : Value} (p : Box W b [a, c, d, e]) : b < W.heap.size ∧ W.cell? ⟨b, 0, none⟩ = some a ∧ W.cell? ⟨b, 1, none⟩ = some c ∧ W.cell? ⟨b, 2, none⟩ = some d ∧ W.cell? ⟨b, 3, none⟩ = some e ∧
    W.frozen? ⟨b, 0, none⟩ = false ∧ W.frozen? ⟨b, 1, none⟩ = false ∧ W.frozen? ⟨b, 2, none⟩ = false ∧ W.frozen? ⟨b, 3, none⟩ = false :=
  ⟨p.lt, p.cell 0 _ rfl, p.cell 1 _ rfl, p.cell 2 _ rfl, p.cell 3 _ rfl, p.frz 0 (by simp), p.frz 1 (by simp), p.frz 2 (by simp), p.frz 3 (by simp)⟩
theorem Box.five {a c d e f : Value} (p : Box W b [a, c, d, e, f]) : b < W.heap.size ∧ W.cell? ⟨b, 0, none⟩ = some a ∧ W.cell? ⟨b, 1, none⟩ = some c ∧ W.cell? ⟨b, 2, none⟩ = some d ∧ W.cell? ⟨b, 3, none⟩ = some e ∧ W.cell? ⟨b, 4, none⟩ = some f ∧
    W.frozen? ⟨b, 0, none⟩ = false ∧ W.frozen? ⟨b, 1, none⟩ = false ∧ W.frozen? ⟨b, 2, none⟩ = false ∧ W.frozen? ⟨b, 3, none⟩ = false ∧ W.frozen? ⟨b, 4, none⟩ = false :=
  ⟨p.lt, p.cell 0 _ rfl, p.cell 1 _ rfl, p.cell 2 _ rfl, p.cell 3 _ rfl, p.cell 4 _ rfl, p.frz 0 (by simp), p.frz 1 (by simp), p.frz 2 (by simp), p.frz 3 (by simp), p.frz 4 (by simp)⟩
theorem Box.set4 {a c d e a' c' d' e' : Value} (p : Box W b [a, c, d, e]) : Box ((((W.setCell ⟨b, 0, none⟩ a').setCell ⟨b, 1, none⟩ c').setCell ⟨b, 2, none⟩ d').setCell ⟨b, 3, none⟩ e') b [a', c', d', e'] :=
  (((p.set 0 (by simp) a').set 1 (by simp) c').set 2 (by simp) d').set 3 (by simp) e'
end

end Go.Proofs.YtnjmokmlnpehdaaGreatDoor.Bn

namespace Go.Proofs.YtnjmokmlnpehdaaGreatDoor.Rk
set_option linter.unusedSimpArgs false
set_option linter.unusedVariables false
open Go.RowKit

/-- the first k values of f -/
def lst (f : Nat → Int) (k : Nat) : List Value := (List.range k).map fun i => .int .i64 (f i)
theorem lst_succ (f : Nat → Int) (k : Nat) : lst f (k + 1) = lst f k ++ [.int .i64 (f k)] := by unfold lst; rw [List.range_succ, List.map_append]; rfl
theorem lst_len (f : Nat → Int) (k : Nat) : (lst f k).length = k := by simp [lst]
theorem lst_at (f : Nat → Int) {k i : Nat} (h : i < k) : (lst f k)[i]? = some (.int .i64 (f i)) := by simp [lst, h]
theorem lst_congr {f g : Nat → Int} {k : Nat} (h : ∀ i, i < k → f i = g i) : lst f k = lst g k := by
  unfold lst
  apply List.map_congr_left
  intro i hi
  rw [h i (List.mem_range.1 hi)]

theorem below_grown {B : Nat} {a w w' : World} {row : Option Nat} (h : Below B a w) (hg : w.grownBy w' row) (hr : ∀ k, row = some k → B ≤ k) (hB : B ≤ a.heap.size) : Below B a w' :=
  ⟨hg.os.trans h.os, hg.tape.trans h.tape, hg.output.trans h.output, Nat.le_trans h.size hg.size,
    fun i hi => (hg.block i (by have := h.size; omega) (fun e => by have := hr i e.symm; omega)).trans (h.block i hi)⟩

/-- a row that lies in block g, of n places -/
structure Row (W : World) (g n : Nat) (f : Nat → Int) : Prop where
  lt : g < W.heap.size
  c : ∀ i, i < n → W.cell? ⟨g, i, none⟩ = some (.int .i64 (f i))
  fz : ∀ i, i < n → W.frozen? ⟨g, i, none⟩ = false
section
variable {W w1 : World} {g n : Nat} {f : Nat → Int}
theorem Row.of_owns {base : Nat} {e : TypeId} {cap : Nat} (h : W.ownsRow base e 1 (.slice (some ⟨g, 0, none⟩) n cap) n (lst f n)) (hn : 0 < n) : Row W g n f := by
  refine ⟨?_, fun i hi => ?_, fun i _ => h.frozenAt i⟩
  · obtain ⟨g', cap', e1, _, hlt⟩ := h.form hn
    cases e1; exact hlt
  · rw [h.cellAt i (by omega), lst_at f hi]
theorem Row.kept (p : Row W g n f) (hb : Below W.heap.size W w1) : Row w1 g n f :=
  ⟨Nat.lt_of_lt_of_le p.lt hb.size, fun i hi => (hb.cell (p := ⟨g, i, none⟩) p.lt).trans (p.c i hi), fun i hi => (hb.frozen (p := ⟨g, i, none⟩) p.lt).trans (p.fz i hi)⟩
theorem Row.set (p : Row W g n f) {k : Nat} (v : Int) (hk : k < n) : Row (W.setCell ⟨g, k, none⟩ (.int .i64 v)) g n (fun i => if i = k then v else f i) := by
  refine ⟨by simp; exact p.lt, fun i hi => ?_, fun i hi => by simp [go_sem, p.fz i hi]⟩
  by_cases e : i = k
  · subst e; simp [go_sem, p.c i hi]
  · rw [World.cell?_setCell_other] <;> simp [p.c i hi, e, go_sem]
theorem Row.other {b : Nat} (p : Row W g n f) (k : Nat) (v : Value) (h : g ≠ b) : Row (W.setCell ⟨b, k, none⟩ v) g n f :=
  ⟨by simp; exact p.lt, fun i hi => by rw [World.cell?_setCell_other] <;> simp [p.c i hi, h, go_sem], fun i hi => by simp [go_sem, p.fz i hi]⟩
end

/-- two rows that grow beside each other, of k places each -/
structure Duo (EL : TypeId) (w W : World) (u v : Value) (k : Nat) (f g : Nat → Int) : Prop where
  below : Below w.heap.size w W
  a : W.ownsRow w.heap.size EL 1 u k (lst f k)
  b : W.ownsRow w.heap.size EL 1 v k (lst g k)
  apart : ∀ x, u.ownBlock = some x → v.ownBlock = some x → False
section
variable {EL : TypeId} {w W w1 : World} {u v : Value} {k : Nat} {f g : Nat → Int}
theorem owns_below {base : Nat} {xs : List Value} (h : W.ownsRow base EL 1 u k xs) (hb : Below W.heap.size W w1) : w1.ownsRow base EL 1 u k xs :=
  h.kept (row := none) ⟨hb.os, hb.tape, hb.output, hb.size, fun i hi _ => hb.block i hi⟩ (by cases u.ownBlock <;> simp)
theorem Duo.start (EL : TypeId) (w : World) (h : Below w.heap.size w W) (f g : Nat → Int) : Duo EL w W (.slice none 0 0) (.slice none 0 0) 0 f g :=
  ⟨h, World.ownsRow_nil _ _ _ _, World.ownsRow_nil _ _ _ _, fun x h => by cases h⟩
theorem Duo.kept (x : Duo EL w W u v k f g) (hb : Below W.heap.size W w1) : Duo EL w w1 u v k f g :=
  ⟨Pr.bthen x.below hb, owns_below x.a hb, owns_below x.b hb, x.apart⟩
end

end Go.Proofs.YtnjmokmlnpehdaaGreatDoor.Rk

namespace Go.Proofs.YtnjmokmlnpehdaaGreatDoor.Rk
set_option linter.unusedSimpArgs false
set_option linter.unusedVariables false
open Go.RowKit
section
variable {EL : TypeId} {w W w1 : World} {u v : Value} {k : Nat} {f g : Nat → Int}
/-- the block that a row owns is new, and there -/
theorem own_at {base x n : Nat} {xs : List Value} (h : W.ownsRow base EL 1 u n xs) (e : u.ownBlock = some x) : base ≤ x ∧ x < W.heap.size := by
  rcases h.2 with ⟨h1, _⟩ | ⟨g, cap, cur, hv, hb, hg, _⟩
  · rw [h1] at e; cases e
  · rw [hv] at e
    have : g = x := by simpa [Value.ownBlock] using e
    subst this
    refine ⟨hb, ?_⟩
    rcases Nat.lt_or_ge g W.heap.size with hlt | hge
    · exact hlt
    · rw [Array.getElem?_eq_none hge] at hg; cases hg
theorem Duo.apart' (X : Duo EL w W u v k f g) : v.ownBlock = none ∨ v.ownBlock ≠ u.ownBlock := by
  cases hv : v.ownBlock with
  | none => exact .inl rfl
  | some x => exact .inr (fun e => X.apart x e.symm hv)
/-- both rows one longer -/
theorem Duo.next {W2 W3 : World} {o1 o2 : Obj} {g1 g2 c1 c2 : Nat} (X : Duo EL w W u v k f g)
    (h1 : W2.ownsRow w.heap.size EL 1 (.slice (some ⟨g1, 0, none⟩) (k + 1) c1) (k + 1) (lst f k ++ [.int .i64 (f k)])) (r1 : (W.alloc o1).grownBy W2 u.ownBlock) (a1 : u.ownBlock = some g1 ∨ g1 = W.heap.size + 1) (l1 : g1 < W2.heap.size)
    (h2 : W3.ownsRow w.heap.size EL 1 (.slice (some ⟨g2, 0, none⟩) (k + 1) c2) (k + 1) (lst g k ++ [.int .i64 (g k)])) (r2 : (W2.alloc o2).grownBy W3 v.ownBlock) (a2 : v.ownBlock = some g2 ∨ g2 = W2.heap.size + 1) (l2 : g2 < W3.heap.size) :
    Duo EL w W3 (.slice (some ⟨g1, 0, none⟩) (k + 1) c1) (.slice (some ⟨g2, 0, none⟩) (k + 1) c2) (k + 1) f g := by
  have B1 := below_grown (Pr.balloc X.below o1) r1 (fun x e => (own_at X.a e).1) (Nat.le_refl _)
  have B2 := below_grown (Pr.balloc B1 o2) r2 (fun x e => (own_at X.b e).1) (Nat.le_refl _)
  have sz := r1.size
  have ap : ∀ x, v.ownBlock = some x → g1 ≠ x := by
    intro x e h
    subst h
    rcases a1 with a1 | a1
    · exact X.apart g1 a1 e
    · have := (own_at X.b e).2
      omega
  refine ⟨B2, ?_, by rw [lst_succ]; exact h2, ?_⟩
  · rw [lst_succ]
    exact (h1.alloc o2).kept r2 (by
      cases hv : v.ownBlock with
      | none => right; simp [Value.ownBlock]
      | some x => right; simp only [Value.ownBlock]; intro e; exact ap x hv (Option.some.inj e))
  · intro x e1 e2
    have q1 : g1 = x := by simpa [Value.ownBlock] using e1
    have q2 : g2 = x := by simpa [Value.ownBlock] using e2
    rcases a2 with a2 | a2
    · exact ap g2 a2 (q1.trans q2.symm)
    · omega
end

end Go.Proofs.YtnjmokmlnpehdaaGreatDoor.Rk

namespace Go.Proofs.YtnjmokmlnpehdaaGreatDoor.Rk
set_option linter.unusedSimpArgs false
set_option linter.unusedVariables false
open Go.RowKit

structure One (EL : TypeId) (w W : World) (v : Value) (k : Nat) (f : Nat → Int) : Prop where
  below : Below w.heap.size w W
  a : W.ownsRow w.heap.size EL 1 v k (lst f k)
section
variable {EL : TypeId} {w W w1 : World} {v : Value} {k n : Nat} {f : Nat → Int}
theorem One.start (EL : TypeId) (w : World) (h : Below w.heap.size w W) (f : Nat → Int) : One EL w W (.slice none 0 0) 0 f := ⟨h, World.ownsRow_nil _ _ _ _⟩
theorem One.kept (x : One EL w W v k f) (hb : Below W.heap.size W w1) : One EL w w1 v k f := ⟨Pr.bthen x.below hb, owns_below x.a hb⟩
theorem One.next {W2 : World} {o1 : Obj} {g1 c1 : Nat} {x : Int} (X : One EL w W v k f) (hx : x = f k)
    (h1 : W2.ownsRow w.heap.size EL 1 (.slice (some ⟨g1, 0, none⟩) (k + 1) c1) (k + 1) (lst f k ++ [.int .i64 x])) (r1 : (W.alloc o1).grownBy W2 v.ownBlock) :
    One EL w W2 (.slice (some ⟨g1, 0, none⟩) (k + 1) c1) (k + 1) f :=
  ⟨below_grown (Pr.balloc X.below o1) r1 (fun x e => (own_at X.a e).1) (Nat.le_refl _), by rw [lst_succ, ← hx]; exact h1⟩
theorem One.out (X : One EL w W v n f) (hn : 0 < n) : ∃ g cap, v = .slice (some ⟨g, 0, none⟩) n cap ∧ w.heap.size ≤ g ∧ Row W g n f := by
  obtain ⟨g, cap, rfl, hg, lt⟩ := X.a.form hn
  exact ⟨g, cap, rfl, hg, Row.of_owns X.a hn⟩
end
/-- a function's answer: a slice of n integers, and an error number -/
def IntsOut (w : World) (n : Nat) (f : Nat → Int) (e : Ending) (w' : World) : Prop :=
  ∃ g cap : Nat, e = .returned (.tuple #[.slice (some ⟨g, 0, none⟩) n cap, .int .i64 0]) ∧ Row w' g n f ∧ w.heap.size ≤ g ∧ Below w.heap.size w w'
/-- .. a slice alone -/
def IntsOne (w : World) (n : Nat) (f : Nat → Int) (e : Ending) (w' : World) : Prop :=
  ∃ g cap : Nat, e = .returned (.slice (some ⟨g, 0, none⟩) n cap) ∧ Row w' g n f ∧ w.heap.size ≤ g ∧ Below w.heap.size w w'

end Go.Proofs.YtnjmokmlnpehdaaGreatDoor.Rk

namespace Go.Proofs.YtnjmokmlnpehdaaGreatDoor.Fs
set_option linter.unusedSimpArgs false
set_option linter.unusedVariables false

theorem wpList_store_new {P : Program} {ops : Array Oper} {rest : List Oper} {op : Oper} {a : Act} {w : World} {Q : Exit → Act → World → Prop} (hgd : op.guard = none) (ty : TypeId) (x y : Operand) (ho : op.op = .store ty x y)
    (c c' : Array Value) (n : Nat) (hx : a.eval x = .pointer (some ⟨w.heap.size, 0, none⟩)) (hy : a.eval y = .agg c')
    (hi : (P.info? ty).map (·.size) = some n) (hn : c'.size = n) (hs : c.size = n) (h1 : c'.all (·.oneCell') = true)
    (h : wpList P ops Q rest (a.put op.dst undef) (w.alloc (.cells c' ty))) : wpList P ops Q (op :: rest) a (w.alloc (.cells c ty)) :=
  wpList_plain hgd fun _ hK => by
    unfold Oper.wp execOp
    simp only [ho, hx, hy, Sem.run_bind, Sem.run_pure, Result.andThen_ok, run_storeAt_new w ty c c' (by rw [hi, hn]) (by rw [hs, hn]) h1]
    exact hK _ _ h

/-- what a function hands back whose first result is a struct in a block, and whose second one is plain -/
theorem results_cell2 {fn : Func} {t u : Tmp} {ty : TypeId} (h : fn.results = #[.cell t ty, .tmp u]) (tmps : Array Value) (P : Program) (w : World) (b o : Nat) (cs : List Value) (d : TypeDesc) (n : Nat)
    (hp : tmps.getD t undef = .pointer (some ⟨b, o, none⟩)) (hc : w.rangeAt b o cs) (hu : P.underlying ty = some d) (hd : d.isRow = true) (hi : (P.info? ty).map (·.size) = some n) (hn : cs.length = n) :
    (results fn tmps).run P w = .ok (.tuple #[.agg cs.toArray, tmps.getD u undef]) w := by
  have hl := run_loadVar_mid w b o ty cs d hc hu hd (by rw [hi, hn])
  have hp' : asAddr (tmps.getD t undef) = (pure ⟨b, o, none⟩ : Sem Addr) := by rw [hp]; rfl
  simp only [results, h]
  rw [show (#[ResultVar.cell t ty, ResultVar.tmp u] : Array ResultVar) = [ResultVar.cell t ty, ResultVar.tmp u].toArray from rfl, List.mapM_toArray]
  simp only [List.mapM_cons, List.mapM_nil, hp', pure_bind]
  generalize loadVar ty ⟨b, o, none⟩ = x at hl
  simp [go_sem, hl]

end Go.Proofs.YtnjmokmlnpehdaaGreatDoor.Fs

namespace Go.Proofs.YtnjmokmlnpehdaaGreatDoor.Fs
set_option linter.unusedSimpArgs false
set_option linter.unusedVariables false

/-- a struct read in a region, where the operation's guard lets it -/
theorem wpList_load_midG {P : Program} {ops : Array Oper} {rest : List Oper} {op : Oper} {a : Act} {w : World} {Q : Exit → Act → World → Prop} (hgd : Region.wanted op (yielded ops a.tmps) = true) (ty : TypeId) (x : Operand) (ho : op.op = .load ty x)
    (b o : Nat) (hx : a.eval x = .pointer (some ⟨b, o, none⟩)) (cs : List Value) (d : TypeDesc) (hc : w.rangeAt b o cs)
    (hu : P.underlying ty = some d) (hd : d.isRow = true) (hi : (P.info? ty).map (·.size) = some cs.length)
    (h : wpList P ops Q rest (a.put op.dst (.agg cs.toArray)) w) : wpList P ops Q (op :: rest) a w := by
  refine wpList_step fun K hK => ?_
  simp only [hgd, if_true]
  exact wp_load_mid ty x ho b o hx cs d hc hu hd hi (hK _ _ h)

end Go.Proofs.YtnjmokmlnpehdaaGreatDoor.Fs
