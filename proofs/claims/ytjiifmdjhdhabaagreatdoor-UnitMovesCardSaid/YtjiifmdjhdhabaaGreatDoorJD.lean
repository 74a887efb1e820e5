/- Texts that are joined: Urow2. -/
import Derived.Test.YtjiifmdjhdhabaaGreatDoorJK
namespace Go.Proofs.YtjiifmdjhdhabaaGreatDoor.Rk
set_option linter.unusedSimpArgs false
set_option linter.unusedVariables false
open Go.RowKit

/-- a function's answer: a slice of units -/
def RowOut (w : World) (l : List U3) (e : Ending) (w' : World) : Prop :=
  ∃ g cap : Nat, e = .returned (.slice (some ⟨g, 0, none⟩) l.length cap) ∧ Urow w' g l ∧ w.heap.size ≤ g ∧ Below w.heap.size w w' ∧ l.length ≤ cap
/-- .. and an error number -/
def UnitsTo (w : World) (l : List U3) (e : Ending) (w' : World) : Prop :=
  ∃ g cap : Nat, e = .returned (.tuple #[.slice (some ⟨g, 0, none⟩) l.length cap, .int .i64 0]) ∧ Urow w' g l ∧ w.heap.size ≤ g ∧ Below w.heap.size w w' ∧ l.length ≤ cap
theorem own_cap {W : World} {base size n k cap g : Nat} {e : TypeId} {xs : List Value} (h : W.ownsRow base e size (.slice (some ⟨g, 0, none⟩) n cap) k xs) : k ≤ cap := by
  rcases h.2 with ⟨h1, _⟩ | ⟨g', cap', cur, hv, _, _, hc, _⟩
  · cases h1
  · cases hv; exact hc
theorem row_lt {W : World} {base x size k : Nat} {e : TypeId} {v : Value} {xs : List Value} (h : W.ownsRow base e size v k xs) (q : v.ownBlock = some x) : base ≤ x ∧ x < W.heap.size := by
  rcases h.2 with ⟨h1, _⟩ | ⟨g, cap, cur, hv, hb, hg, _⟩
  · rw [h1] at q; cases q
  · rw [hv] at q
    have : g = x := by simpa [Value.ownBlock] using q
    subst this; exact ⟨hb, (Array.getElem?_eq_some_iff.1 hg).1⟩
theorem own_below {W w1 : World} {EL : TypeId} {size n base : Nat} {v : Value} {xs : List Value} (h : W.ownsRow base EL size v n xs) (hb : Below W.heap.size W w1) : w1.ownsRow base EL size v n xs :=
  h.kept (row := none) ⟨hb.os, hb.tape, hb.output, hb.size, fun i hi _ => hb.block i hi⟩ (by cases v.ownBlock <;> simp)

/-- v holds these units in a block of its own, laid since w -/
structure One3 (EL : TypeId) (w W : World) (v : Value) (l : List U3) : Prop where
  below : Below w.heap.size w W
  a : W.ownsRow w.heap.size EL 3 v l.length (ucells l)
section
variable {EL : TypeId} {w W w1 : World} {v : Value} {l : List U3}
theorem One3.start (EL : TypeId) (h : Below w.heap.size w W) : One3 EL w W (.slice none 0 0) [] := ⟨h, World.ownsRow_nil _ _ _ _⟩
theorem One3.kept (x : One3 EL w W v l) (hb : Below W.heap.size W w1) : One3 EL w w1 v l := ⟨Pr.bthen x.below hb, own_below x.a hb⟩
theorem One3.alloc (x : One3 EL w W v l) (o : Obj) : One3 EL w (W.alloc o) v l := x.kept ((Below.refl _ _).alloc (Nat.le_refl _) o)
theorem One3.next {W2 : World} {o1 : Obj} {v' : Value} {u : U3} (X : One3 EL w W v l)
    (h1 : W2.ownsRow w.heap.size EL 3 v' (l.length + 1) (ucells l ++ [.int .i64 u.1, .int .i64 u.2.1, .int .i64 u.2.2])) (r1 : (W.alloc o1).grownBy W2 v.ownBlock) : One3 EL w W2 v' (l ++ [u]) :=
  ⟨below_grown (Pr.balloc X.below o1) r1 (fun x e => (row_lt X.a e).1) (Nat.le_refl _), by rw [List.length_append, ucells_snoc]; exact h1⟩
theorem One3.out {g cap n : Nat} (X : One3 EL w W (.slice (some ⟨g, 0, none⟩) n cap) l) (h : l.length = n) (hn : 0 < n) : Urow W g l ∧ w.heap.size ≤ g ∧ l.length ≤ cap := by
  subst h
  obtain ⟨g', cap', e, h2, _⟩ := X.a.form hn
  cases e
  exact ⟨Urow.of_owns X.a hn, h2, own_cap X.a⟩
end

/-! spans -/
def scells : List (Int × Int) → List Value
  | [] => []
  | s :: l => [.int .i64 s.1, .int .i64 s.2] ++ scells l
theorem scells_len (l : List (Int × Int)) : (scells l).length = l.length * 2 := by
  induction l with
  | nil => rfl
  | cons u l ih => simp [scells, ih]; omega
theorem scells_app (l k : List (Int × Int)) : scells (l ++ k) = scells l ++ scells k := by
  induction l with
  | nil => rfl
  | cons x l ih => simp [scells, ih]
theorem scells_at {l : List (Int × Int)} {i : Nat} {s : Int × Int} (h : l[i]? = some s) : (scells l)[i * 2]? = some (.int .i64 s.1) ∧ (scells l)[i * 2 + 1]? = some (.int .i64 s.2) := by
  induction l generalizing i with
  | nil => simp at h
  | cons x l ih =>
    cases i with
    | zero => simp at h; subst h; simp [scells]
    | succ j =>
      have a := ih (i := j) (by simpa using h)
      have e : ∀ k, (scells (x :: l))[(j + 1) * 2 + k]? = (scells l)[j * 2 + k]? := fun k => by
        show ([Value.int .i64 x.1, Value.int .i64 x.2] ++ scells l)[(j + 1) * 2 + k]? = _
        rw [List.getElem?_append_right (by simp; omega)]
        congr 1
        simp
        omega
      have e0 := e 0
      rw [Nat.add_zero, Nat.add_zero] at e0
      exact ⟨by rw [e0]; exact a.1, by rw [e 1]; exact a.2⟩
/-- block g holds these spans -/
structure Srow (W : World) (g : Nat) (l : List (Int × Int)) : Prop where
  lt : g < W.heap.size
  c : ∀ i s, l[i]? = some s → W.cell? ⟨g, i * 2, none⟩ = some (.int .i64 s.1) ∧ W.cell? ⟨g, i * 2 + 1, none⟩ = some (.int .i64 s.2)
section
variable {W w1 : World} {g n : Nat} {l : List (Int × Int)}
theorem Srow.kept (p : Srow W g l) (hb : Below W.heap.size W w1) : Srow w1 g l :=
  ⟨Nat.lt_of_lt_of_le p.lt hb.size, fun i s h => ⟨(hb.cell (p := ⟨g, i * 2, none⟩) p.lt).trans (p.c i s h).1, (hb.cell (p := ⟨g, i * 2 + 1, none⟩) p.lt).trans (p.c i s h).2⟩⟩
theorem Srow.alloc (p : Srow W g l) (o : Obj) : Srow (W.alloc o) g l := p.kept ((Below.refl _ _).alloc (Nat.le_refl _) o)
theorem Srow.of_owns {base : Nat} {e : TypeId} {cap : Nat} (h : W.ownsRow base e 2 (.slice (some ⟨g, 0, none⟩) l.length cap) l.length (scells l)) (hn : 0 < l.length) : Srow W g l := by
  refine ⟨?_, fun i s hs => ?_⟩
  · obtain ⟨g', cap', e1, _, hlt⟩ := h.form hn
    cases e1; exact hlt
  · have hi : i < l.length := (List.getElem?_eq_some_iff.1 hs).1
    have a := scells_at hs
    exact ⟨by rw [h.cellAt (i * 2) (by omega)]; exact a.1, by rw [h.cellAt (i * 2 + 1) (by omega)]; exact a.2⟩
end
/-- a function's answer: a slice of spans, and an error number -/
def SpansOut (w : World) (l : List (Int × Int)) (e : Ending) (w' : World) : Prop :=
  ∃ g cap : Nat, e = .returned (.tuple #[.slice (some ⟨g, 0, none⟩) l.length cap, .int .i64 0]) ∧ Srow w' g l ∧ w.heap.size ≤ g ∧ Below w.heap.size w w' ∧ l.length ≤ cap

end Go.Proofs.YtjiifmdjhdhabaaGreatDoor.Rk
