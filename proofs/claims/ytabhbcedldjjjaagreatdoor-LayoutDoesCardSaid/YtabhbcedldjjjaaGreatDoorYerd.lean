/- The reference's reader in memory; what its fail comes to. -/
import Derived.Test.YtabhbcedldjjjaaGreatDoorJYa
import Derived.Test.YtabhbcedldjjjaaGreatDoorYmem2
import Derived.Test.YtabhbcedldjjjaaGreatDoorZtok
import Derived.Test.YtabhbcedldjjjaaGreatDoorJK
import Derived.Test.YtabhbcedldjjjaaGreatDoorZref3
import Derived.Test.YtabhbcedldjjjaaGreatDoorZcut
import Derived.BigRegion
import Derived.BigQuiet
import Derived.Deep.Cut
import Derived.Deep.CutRange
import Derived.Deep.AppendLies
namespace Go.Proofs.YtabhbcedldjjjaaGreatDoor.Ye
set_option linter.unusedSimpArgs false
set_option linter.unusedVariables false
open Go.RowKit Go.Proofs.YtabhbcedldjjjaaGreatDoor.Bn Go.Proofs.YtabhbcedldjjjaaGreatDoor.Zm Go.Proofs.YtabhbcedldjjjaaGreatDoor.Ym Go.Proofs.YtabhbcedldjjjaaGreatDoor.Zk

set_option maxHeartbeats 4000000

/-- the reader's block -/
structure RR (W : World) (rb : Nat) (tv : Value) (k n at' er : Nat) : Prop where
  lt : rb < W.heap.size
  c0 : W.cell? ⟨rb, 0, none⟩ = some tv
  c1 : W.cell? ⟨rb, 1, none⟩ = some (.int .i64 k)
  c2 : W.cell? ⟨rb, 2, none⟩ = some (.int .i64 n)
  c3 : W.cell? ⟨rb, 3, none⟩ = some (.int .i64 at')
  c4 : W.cell? ⟨rb, 4, none⟩ = some (.int .i64 er)
  z : ∀ j, W.frozen? ⟨rb, j, none⟩ = false
/-- the tokens -/
def TokR (W : World) (rb : Nat) (tv : Value) (A : List Tk) : Prop :=
  ∃ ptr cap, tv = .slice ptr A.length cap ∧ (A.length = 0 ∨ ∃ g o, ptr = some ⟨g, o, none⟩ ∧ g < W.heap.size ∧ g ≠ rb ∧ ∀ i (h : i < A.length),
    W.cell? ⟨g, o + i * 4, none⟩ = some (.int .i64 A[i].k) ∧ W.cell? ⟨g, o + i * 4 + 1, none⟩ = some (.int .i64 A[i].a) ∧ W.cell? ⟨g, o + i * 4 + 2, none⟩ = some (.int .i64 A[i].n) ∧ W.cell? ⟨g, o + i * 4 + 3, none⟩ = some (.string ⟨A[i].s.toArray⟩))
section
variable {W W' : World} {rb k n at' er : Nat} {tv : Value} {A : List Tk}
theorem RR.kept {row : Option Nat} (h : RR W rb tv k n at' er) (g : W.grownBy W' row) (hr : row ≠ some rb) : RR W' rb tv k n at' er := by
  have e := g.block rb h.lt (fun q => hr q.symm)
  have hc : ∀ j, W'.cell? ⟨rb, j, none⟩ = W.cell? ⟨rb, j, none⟩ := fun j => World.cell?_of_block (w := W) e
  have hz : ∀ j, W'.frozen? ⟨rb, j, none⟩ = W.frozen? ⟨rb, j, none⟩ := fun j => by simp only [World.frozen?, e]
  exact ⟨Nat.lt_of_lt_of_le h.lt g.size, (hc 0).trans h.c0, (hc 1).trans h.c1, (hc 2).trans h.c2, (hc 3).trans h.c3, (hc 4).trans h.c4, fun j => (hz j).trans (h.z j)⟩
theorem RR.next (h : RR W rb tv k n at' er) (k' : Nat) : RR (W.setCell ⟨rb, 1, none⟩ (.int .i64 k')) rb tv k' n at' er :=
  ⟨by simp; exact h.lt, by simp [go_sem, h.c0], by simp [go_sem, h.c1], by simp [go_sem, h.c2], by simp [go_sem, h.c3], by simp [go_sem, h.c4], fun j => by simp [go_sem, h.z j]⟩
theorem RR.fail (h : RR W rb tv k n at' er) (a e : Nat) : RR ((W.setCell ⟨rb, 3, none⟩ (.int .i64 a)).setCell ⟨rb, 4, none⟩ (.int .i64 e)) rb tv k n a e :=
  ⟨by simp; exact h.lt, by simp [go_sem, h.c0], by simp [go_sem, h.c1], by simp [go_sem, h.c2], by simp [go_sem, h.c3], by simp [go_sem, h.c4], fun j => by simp [go_sem, h.z j]⟩
theorem TokR.kept (h : TokR W rb tv A) (g : W.grownBy W' (some rb)) : TokR W' rb tv A := by
  obtain ⟨p, c, e, h⟩ := h
  refine ⟨p, c, e, ?_⟩
  rcases h with h | ⟨b, o, e, h1, h2, h3⟩
  · exact .inl h
  · have eb := g.block b h1 (fun q => h2 (by cases q; rfl))
    have hc : ∀ j, W'.cell? ⟨b, j, none⟩ = W.cell? ⟨b, j, none⟩ := fun j => World.cell?_of_block (w := W) eb
    exact .inr ⟨b, o, e, Nat.lt_of_lt_of_le h1 g.size, h2, fun i hi => by
      obtain ⟨q0, q1, q2, q3⟩ := h3 i hi
      exact ⟨(hc _).trans q0, (hc _).trans q1, (hc _).trans q2, (hc _).trans q3⟩⟩
end
/-- a world that has grown, but for the reader's own block -/
abbrev G (w W : World) (rb : Nat) : Prop := w.grownBy W (some rb)
theorem G.of {w W : World} {rb : Nat} (h : Below w.heap.size w W) : G w W rb := gbelow h _
theorem G.set (W : World) (rb j : Nat) (v : Value) : G W (W.setCell ⟨rb, j, none⟩ v) rb := gset W rb j v
theorem G.stay {w W : World} {rb : Nat} {S : Nat → Prop} (h : G w W rb) (hS : ∀ b, S b → b < w.heap.size ∧ b ≠ rb) : Stay S w W := fun b hb => h.block b (hS b hb).1 (fun q => (hS b hb).2 (by cases q; rfl))

set_option maxRecDepth 100000 in
theorem fail_any (rb : Nat) (tv : Value) (k n at0 er0 a e : Nat) (w : World) (R : RR w rb tv k n at0 er0) :
    Calls Tryz.prog 51 #[.pointer (some ⟨rb, 0, none⟩), .int .i64 a, .int .i64 e] w fun x w' => x = .returned (.tuple #[]) ∧ G w w' rb ∧ w'.heap.size = w.heap.size ∧ RR w' rb tv k n (if er0 = 0 then a else at0) (if er0 = 0 then e else er0) := by
  have q4 := R.c4
  have q3 := R.c3
  have z3 := R.z 3
  have z4 := R.z 4
  by_cases h : er0 = 0
  · subst h
    have R2 := Lib.hid (R.fail a e)
    have g := Lib.hid (show G w ((w.setCell ⟨rb, 3, none⟩ (.int .i64 a)).setCell ⟨rb, 4, none⟩ (.int .i64 e)) rb from (G.set w rb 3 _).trans (G.set _ rb 4 _))
    clear R
    go_enter Tryz.func51, Tryz.ntmps51
    go_wp2
    exact bodyPost_end (v := .tuple #[]) (by simp [results, Tryz.results51, go_sem]) rfl ⟨rfl, g.out, by simp, R2.out⟩
  · have d : ((er0 : Int) == 0) = false := beq_eq_false_iff_ne.2 (by omega)
    rw [if_neg h, if_neg h]
    have HR := Lib.hid R
    have h' : ¬ (er0 : Int) = 0 := by omega
    clear R h
    go_enter Tryz.func51, Tryz.ntmps51
    go_wp2
    exact bodyPost_end (v := .tuple #[]) (by simp [results, Tryz.results51, go_sem]) rfl ⟨rfl, World.grownBy.refl _ _, rfl, HR.out⟩

def ItemsP (A : List Tk) (n rb : Nat) (tv : Value) (deep k : Nat) (w : World) (e : Ending) (w' : World) : Prop :=
  ∃ (v : Value) (out : List Nd) (S : Nat → Prop) (k' at' er' : Nat), e = .returned v ∧ NdsV S w' v out ∧ (∀ b, S b → w.heap.size ≤ b ∧ b < w'.heap.size) ∧ G w w' rb ∧ RR w' rb tv k' n at' er' ∧ k ≤ k' ∧ k' ≤ A.length + (7 - deep) ∧ ISaid A n deep k out k' at' er'
def ItemP (A : List Tk) (n rb : Nat) (tv : Value) (deep k : Nat) (fr : Fr) (w : World) (e : Ending) (w' : World) : Prop :=
  ∃ (xs : List Value) (nd : Nd) (S : Nat → Prop) (k' at' er' : Nat), e = .returned (.agg xs.toArray) ∧ NCell S w' xs nd ∧ (∀ b, S b → w.heap.size ≤ b ∧ b < w'.heap.size) ∧ G w w' rb ∧ RR w' rb tv k' n at' er' ∧ k ≤ k' ∧ k' ≤ A.length + (7 - deep) ∧ JSaid A n deep k fr nd k' at' er'
/-- the contract of items -/
def ItemsC (A : List Tk) (n : Nat) (tv : Value) (deep : Nat) : Prop :=
  ∀ (w : World) (rb k at0 : Nat), TokR w rb tv A → RR w rb tv k n at0 0 → k ≤ A.length → Calls Tryz.prog 32 #[.pointer (some ⟨rb, 0, none⟩), .int .i64 deep] w (ItemsP A n rb tv deep k w)

end Go.Proofs.YtabhbcedldjjjaaGreatDoor.Ye
