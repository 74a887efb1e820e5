/- A slice of tokens that grows, and one that is read; nothing of the program. -/
import Derived.Test.YtabhbcedldjjjaaGreatDoorJP
import Derived.Test.YtabhbcedldjjjaaGreatDoorJQ
import Derived.Test.YtabhbcedldjjjaaGreatDoorJK
namespace Go.Proofs.YtabhbcedldjjjaaGreatDoor.Zk
set_option linter.unusedSimpArgs false
set_option linter.unusedVariables false
open Go.RowKit Go.Proofs.YtabhbcedldjjjaaGreatDoor.Zm Go.Proofs.YtabhbcedldjjjaaGreatDoor.Rk

/-- a token's cells -/
def tkv (t : Tk) : List Value := [.int .i64 t.k, .int .i64 t.a, .int .i64 t.n, .string ⟨t.s.toArray⟩]
def tks (a : List Tk) : List Value := a.flatMap tkv
theorem tks_snoc (a : List Tk) (t : Tk) : tks (a ++ [t]) = tks a ++ tkv t := by simp [tks]
theorem tks_len (a : List Tk) : (tks a).length = a.length * 4 := by
  induction a with
  | nil => rfl
  | cons t a ih => simp only [tks, List.flatMap_cons, List.length_append, List.length_cons] at *; rw [ih]; simp [tkv]; omega

theorem tks_at (a : List Tk) (i j : Nat) (h : i < a.length) (hj : j < 4) : (tks a)[i * 4 + j]? = (tkv a[i])[j]? := by
  induction a generalizing i with
  | nil => simp at h
  | cons t a ih =>
    show (tkv t ++ tks a)[i * 4 + j]? = _
    cases i with
    | zero =>
      rw [List.getElem?_append_left (by simp [tkv]; omega)]
      simp
    | succ i =>
      rw [List.getElem?_append_right (by simp [tkv]; omega)]
      simp only [List.length_cons] at h
      rw [show (i + 1) * 4 + j - (tkv t).length = i * 4 + j by simp [tkv]; omega, ih i (by omega)]
      simp

/-- the call's own slice of tokens, which grows -/
structure OneT (EL : TypeId) (w W : World) (v : Value) (a : List Tk) : Prop where
  below : Below w.heap.size w W
  a : W.ownsRow w.heap.size EL 4 v a.length (tks a)
section
variable {EL : TypeId} {w W w1 : World} {v : Value} {a : List Tk}
theorem OneT.start (EL : TypeId) (w : World) (h : Below w.heap.size w W) : OneT EL w W (.slice none 0 0) [] := ⟨h, World.ownsRow_nil _ _ _ _⟩
theorem owns_belowT {base k : Nat} {xs : List Value} (h : W.ownsRow base EL 4 v k xs) (hb : Below W.heap.size W w1) : w1.ownsRow base EL 4 v k xs :=
  h.kept (row := none) ⟨hb.os, hb.tape, hb.output, hb.size, fun i hi _ => hb.block i hi⟩ (by cases v.ownBlock <;> simp)
theorem owns_still {base k z : Nat} {xs : List Value} (h : W.ownsRow base EL z v k xs) (hg : W.grownBy w1 none) : w1.ownsRow base EL z v k xs :=
  h.kept (row := none) hg (by cases v.ownBlock <;> simp)
theorem OneT.kept (x : OneT EL w W v a) (hb : Below W.heap.size W w1) : OneT EL w w1 v a := ⟨Pr.bthen x.below hb, owns_belowT x.a hb⟩
theorem own_atT {base x n : Nat} {xs : List Value} (h : W.ownsRow base EL 4 v n xs) (e : v.ownBlock = some x) : base ≤ x := by
  rcases h.2 with ⟨h1, _⟩ | ⟨g, cap, cur, hv, hb, hg, _⟩
  · rw [h1] at e; cases e
  · rw [hv] at e
    have : g = x := by simpa [Value.ownBlock] using e
    subst this; exact hb
theorem OneT.next {W2 : World} {o1 : Obj} {g1 c1 : Nat} {t : Tk} (X : OneT EL w W v a)
    (h1 : W2.ownsRow w.heap.size EL 4 (.slice (some ⟨g1, 0, none⟩) (a.length + 1) c1) (a.length + 1) (tks a ++ tkv t)) (r1 : (W.alloc o1).grownBy W2 v.ownBlock) :
    OneT EL w W2 (.slice (some ⟨g1, 0, none⟩) (a.length + 1) c1) (a ++ [t]) :=
  ⟨below_grown (Pr.balloc X.below o1) r1 (fun x e => own_atT X.a e) (Nat.le_refl _), by rw [tks_snoc]; simpa using h1⟩
theorem OneT.grow {W2 : World} {o1 : Obj} {t : Tk} {v2 : Value} (X : OneT EL w W v a)
    (h1 : W2.ownsRow w.heap.size EL 4 v2 (a.length + 1) (tks a ++ tkv t)) (r1 : (W.alloc o1).grownBy W2 v.ownBlock) : OneT EL w W2 v2 (a ++ [t]) :=
  ⟨below_grown (Pr.balloc X.below o1) r1 (fun x e => own_atT X.a e) (Nat.le_refl _), by rw [tks_snoc]; simpa using h1⟩
theorem keeps_other {base : Nat} {v : Value} {n b : Nat} {xs : List Value} {W2 : World} {o : Obj} {z : Nat} (hw : W.ownsRow base EL z v n xs) (ho : W.heap[b]? = some o) (hm : ∀ c T r, o ≠ .cells c T r) (r1 : W.grownBy W2 v.ownBlock) : W2.heap[b]? = some o := by
  rw [r1.block b (Array.getElem?_eq_some_iff.1 ho).1 (fun e => ?_)]
  · exact ho
  · rcases hw.2 with ⟨h1, _⟩ | ⟨g, cap, cur, hv, _, hc, _⟩
    · rw [h1] at e; cases e
    · rw [hv] at e
      have e : b = g := by simpa [Value.ownBlock] using e
      subst e
      rw [hc] at ho
      injection ho with ho
      exact hm _ _ _ ho.symm
theorem OneT.form (X : OneT EL w W v a) : ∃ p cap, v = .slice p a.length cap := by
  rcases X.a.2 with ⟨h1, h2⟩ | ⟨g, cap, cur, hv, _⟩
  · have : a.length = 0 := by
      have := tks_len a
      simp_all
    exact ⟨none, 0, by rw [h1, this]⟩
  · exact ⟨_, cap, hv⟩

/-- a row of tokens that lies somewhere and is frozen nowhere -/
structure RowT (W : World) (g : Nat) (a : List Tk) : Prop where
  lt : g < W.heap.size
  at_ : ∀ i (h : i < a.length) j, j < 4 → W.cell? ⟨g, i * 4 + j, none⟩ = (tkv a[i])[j]?
theorem RowT.kept {g : Nat} (p : RowT W g a) (hb : Below W.heap.size W w1) : RowT w1 g a :=
  ⟨Nat.lt_of_lt_of_le p.lt hb.size, fun i h j hj => (hb.cell p.lt).trans (p.at_ i h j hj)⟩
theorem RowT.of_owns {base g cap : Nat} {e : TypeId} (h : W.ownsRow base e 4 (.slice (some ⟨g, 0, none⟩) a.length cap) a.length (tks a)) (hn : 0 < a.length) : RowT W g a := by
  refine ⟨?_, fun i hi j hj => ?_⟩
  · obtain ⟨g', cap', e1, _, hlt⟩ := h.form hn
    cases e1; exact hlt
  · rw [h.cellAt (i * 4 + j) (by omega), tks_at a i j hi hj]
end

end Go.Proofs.YtabhbcedldjjjaaGreatDoor.Zk
