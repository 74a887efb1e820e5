/- Rows of the call's own, of any kind of cells: what is put behind them. -/
import Derived.Test.YtabhbcedldjjjaaGreatDoorZapp
import Derived.Test.YtabhbcedldjjjaaGreatDoorZcut
import Derived.Laws.OwnMore
import Derived.OwnWalk
namespace Go.Proofs.YtabhbcedldjjjaaGreatDoor.Yg
set_option linter.unusedSimpArgs false
set_option linter.unusedVariables false
open Go Go.RowKit Go.Proofs.YtabhbcedldjjjaaGreatDoor.Zk Go.Proofs.YtabhbcedldjjjaaGreatDoor.Zm Go.Proofs.YtabhbcedldjjjaaGreatDoor.Rk Go.Proofs.YtabhbcedldjjjaaGreatDoor.Bn Go.Proofs.YtabhbcedldjjjaaGreatDoor.Zp

/-- a block of cells of type T -/
def Blk (W : World) (b : Nat) (T : TypeId) (c : Array Value) : Prop := W.heap[b]? = some (.cells c T (0, 0))
section
variable {W W1 : World} {b g : Nat} {T : TypeId} {c : Array Value}
theorem Blk.lt (h : Blk W b T c) : b < W.heap.size := (Array.getElem?_eq_some_iff.1 h).1
theorem Blk.kept (h : Blk W b T c) (B : Below W.heap.size W W1) : Blk W1 b T c := (B.block b h.lt).trans h
theorem Blk.at_ (h : W.heap.size = g) : Blk (W.alloc (.cells c T (0, 0))) g T c := by
  subst h
  exact (MapKept.heap_alloc W _).1
theorem Blk.cell (h : Blk W b T c) (j : Nat) : W.cell? ⟨b, j, none⟩ = c[j]? := by simp [World.cell?, show W.heap[b]? = _ from h]
theorem Blk.frz (h : Blk W b T c) (j : Nat) : W.frozen? ⟨b, j, none⟩ = false := by simp [World.frozen?, show W.heap[b]? = _ from h]
end

/-- the call's own row: n elements of sz cells each -/
structure OneC (EL : TypeId) (sz : Nat) (w W : World) (v : Value) (n : Nat) (xs : List Value) : Prop where
  below : Below w.heap.size w W
  row : W.ownsRow w.heap.size EL sz v n xs
section
variable {EL : TypeId} {sz n : Nat} {w W w1 : World} {v : Value} {xs : List Value}
theorem OneC.start (EL : TypeId) (sz : Nat) (w : World) (h : Below w.heap.size w W) : OneC EL sz w W (.slice none 0 0) 0 [] := ⟨h, World.ownsRow_nil _ _ _ _⟩
theorem OneC.kept (x : OneC EL sz w W v n xs) (hb : Below W.heap.size W w1) : OneC EL sz w w1 v n xs :=
  ⟨x.below.trans (hb.mono x.below.size), x.row.kept (row := none) ⟨hb.os, hb.tape, hb.output, hb.size, fun i hi _ => hb.block i hi⟩ (by cases v.ownBlock <;> simp)⟩
theorem OneC.form (x : OneC EL sz w W v n xs) : ∃ p cap, v = .slice p n cap := by
  rcases x.row.2 with ⟨h1, h2⟩ | ⟨g, cap, cur, hv, _⟩
  · exact ⟨none, 0, by rw [h1, h2]⟩
  · exact ⟨_, _, hv⟩
theorem OneC.own (x : OneC EL sz w W v n xs) {k : Nat} (e : v.ownBlock = some k) : w.heap.size ≤ k ∧ k < W.heap.size := x.row.lt k e
theorem OneC.fresh (EL : TypeId) (sz : Nat) (w : World) (B : Below w.heap.size w W) (cs : Array Value) (n g : Nat) (hg : W.heap.size = g) (hm : n ≤ maxLen) (hs : cs.size = n * sz) :
    OneC EL sz w (W.alloc (.cells cs EL (0, 0))) (.slice (some ⟨g, 0, none⟩) n n) n cs.toList := by
  subst hg
  refine ⟨B.alloc B.size _, by simpa using hs, .inr ⟨W.heap.size, n, cs, rfl, B.size, (MapKept.heap_alloc W _).1, Nat.le_refl _, hm, hs, ?_⟩⟩
  rw [List.take_of_length_le (by simpa using (by omega : cs.size ≤ n * sz))]
theorem OneC.holds (x : OneC EL sz w W v n xs) (h1 : ∀ u ∈ xs, u.oneCell' = true) : Holds W sz v n xs := by
  rcases x.row.2 with ⟨hv, hn⟩ | ⟨g, cap, cur, hv, _, hc, _⟩
  · exact ⟨none, 0, by rw [hv, hn], x.row.1, h1, .inl ⟨rfl, hn⟩⟩
  · refine ⟨some ⟨g, 0, none⟩, cap, hv, x.row.1, h1, .inr ⟨_, rfl, fun j u hj => x.row.cells (by rw [hv]; rfl) j u hj⟩⟩
/-- a block holds one element -/
theorem holds_one {c : Array Value} {g : Nat} (h : Blk W g EL c) (hs : c.size = sz) (h1 : ∀ u ∈ c.toList, u.oneCell' = true) : Holds W sz (.slice (some ⟨g, 0, none⟩) 1 1) 1 c.toList := by
  refine ⟨_, _, rfl, by simpa using hs, h1, .inr ⟨_, rfl, fun j u hj => ?_⟩⟩
  rw [show (⟨g, 0, none⟩ : Addr).add j = ⟨g, j, none⟩ by unfold Addr.add; split <;> simp_all, h.cell j, ← Array.getElem?_toList]
  exact hj
/-- something is put behind the call's own -/
theorem put_c {P : Program} {ops : Array Oper} {rest : List Oper} {o : Oper} {a : Act} {Q : Exit → Act → World → Prop} (TL : TypeId) {EL : TypeId} {z : Value} {bytes : Nat} (ht : P.underlying TL = some (.slice EL))
    (hi : (P.info? EL).map (fun i => (i.zero, i.size, i.bytes)) = some (some z, sz, bytes)) (hzs : z.cells.size = sz) (hsz : 0 < sz) (hgd : Region.wanted o (yielded ops a.tmps) = true) (s x : Operand)
    (ho : o.op = .call { callee := .builtin .append, args := #[s, x], argTypes := #[TL, TL] })
    {V : Value} (X : OneC EL sz w W V n xs) (hs : a.eval s = V) {u : Value} {m : Nat} {ys : List Value} (hx : a.eval x = u) (hr : Holds W sz u m ys) (hL : (n + m) * bytes ≤ 140737488355328) (hL2 : n + m ≤ maxLen)
    (h : ∀ v' w', OneC EL sz w w' v' (n + m) (xs ++ ys) → (∀ b T c, ¬ T = EL → Blk W b T c → Blk w' b T c) → wpList P ops Q rest (a.put o.dst v') w') : wpList P ops Q (o :: rest) a W := by
  obtain ⟨i0, hi, hz0, hz1, hz2⟩ := info_parts hi
  refine Zk.wpList_put_behind hgd s x TL ho w.heap.size EL i0 z sz bytes ht hi hz0 hz1 hz2 hzs hsz V n xs hs X.row u m ys hx hr hL2 hL X.below.size (fun v' w' h1 h2 => h v' w' ?_ ?_)
  · exact ⟨Rk.below_grown X.below h2 (fun k e => (X.own e).1) (Nat.le_refl _), h1⟩
  · intro b T c hT hb
    refine (h2.block b hb.lt (fun e => ?_)).trans hb
    rcases X.row.2 with ⟨q, _⟩ | ⟨g, cap, cur, hv, _, hg, _⟩
    · rw [q] at e; cases e
    · rw [hv] at e
      have e : b = g := by simpa [Value.ownBlock] using e
      subst e
      rw [show W.heap[b]? = _ from hb] at hg
      injection hg with hg
      injection hg with _ hg _
      exact hT hg
end

end Go.Proofs.YtabhbcedldjjjaaGreatDoor.Yg
