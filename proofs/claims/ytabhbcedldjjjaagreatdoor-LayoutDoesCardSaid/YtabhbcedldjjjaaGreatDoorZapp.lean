/- A list put behind a row of the call's own, whatever slice it is (nil, empty, or not); nothing of the program. -/
import Derived.Test.YtabhbcedldjjjaaGreatDoorZtok
import Derived.OwnWalk
namespace Go.Proofs.YtabhbcedldjjjaaGreatDoor.Zk
set_option linter.unusedSimpArgs false
set_option linter.unusedVariables false
open Go.RowKit Go.Proofs.YtabhbcedldjjjaaGreatDoor.Zm Go.Proofs.YtabhbcedldjjjaaGreatDoor.Rk

/-- slice u has m elements of so many cells, which are news -/
def Holds (w : World) (size : Nat) (u : Value) (m : Nat) (news : List Value) : Prop :=
  ∃ A c, u = .slice A m c ∧ news.length = m * size ∧ (∀ x ∈ news, x.oneCell' = true) ∧ ((A = none ∧ m = 0) ∨ ∃ ad, A = some ad ∧ ∀ j x, news[j]? = some x → w.cell? (ad.add j) = some x)

theorem wpList_put_behind {P : Program} {w : World} {ops : Array Oper} {rest : List Oper} {o : Oper} {a : Act} {Q : Exit → Act → World → Prop} (hgd : Region.wanted o (yielded ops a.tmps) = true) (s x : Operand) (t : TypeId)
    (ho : o.op = .call { callee := .builtin .append, args := #[s, x], argTypes := #[t, t] })
    (base : Nat) (e : TypeId) (i : TypeInfo) (z : Value) (size bytes : Nat) (ht : P.underlying t = some (.slice e)) (hi : P.info? e = some i) (hz : i.zero = some z)
    (hsize : i.size = size) (hby : i.bytes = bytes) (hzs : z.cells.size = size) (hsz : 0 < size)
    (v : Value) (n : Nat) (xs : List Value) (hs : a.eval s = v) (hown : w.ownsRow base e size v n xs)
    (u : Value) (m : Nat) (news : List Value) (hx : a.eval x = u) (hr : Holds w size u m news)
    (h63 : n + m ≤ maxLen) (hbytes : (n + m) * bytes ≤ 140737488355328) (hbase : base ≤ w.heap.size)
    (h : ∀ v' w', w'.ownsRow base e size v' (n + m) (xs ++ news) → w.grownBy w' v.ownBlock → wpList P ops Q rest (a.put o.dst v') w') : wpList P ops Q (o :: rest) a w := by
  obtain ⟨A, c, rfl, hl, h1, hA⟩ := hr
  rcases hA with ⟨rfl, rfl⟩ | ⟨ad, rfl, hc⟩
  · obtain rfl : news = [] := List.eq_nil_of_length_eq_zero (by simpa using hl)
    have run : (Builtin.append_ #[t, t] o.type #[v, .slice none 0 c]).run P w = .ok v w := by
      rcases hown.2 with ⟨hv, hn⟩ | ⟨g, cap, cur, hv, _, _, hnc, _⟩
      · subst hv; simp [Builtin.append_, run_underlying ht, sizeOf, typeInfo, hi, Builtin.lenOf, Builtin.firstCells]
      · subst hv; simp [Builtin.append_, run_underlying ht, sizeOf, typeInfo, hi, Builtin.lenOf, Builtin.firstCells, hnc, storeCells]
    refine wpList_step fun K hK => ?_
    simp only [hgd, if_true]
    unfold Oper.wp execOp
    simp only [ho, resolve, invoke, builtin, Sem.run_bind, Sem.run_pure, Result.andThen_ok, List.map_toArray, List.map_cons, List.map_nil, hs, hx, run]
    exact hK _ _ (h v w (by simpa using hown) (World.grownBy.refl w _))
  · refine wpList_step fun K hK => ?_
    simp only [hgd, if_true]
    exact wp_append_own w s x t ho base e i z size bytes ht hi hz hsize hby hzs hsz v n xs hs hown ad m c news hx hl hc h1 h63 hbytes hbase (fun v' w' h2 h3 _ => hK _ _ (h v' w' h2 h3))

theorem one_tks (a : List Tk) : ∀ x ∈ tks a, x.oneCell' = true := by
  intro x hx
  obtain ⟨t, _, ht⟩ := List.mem_flatMap.1 hx
  simp [tkv] at ht
  rcases ht with rfl | rfl | rfl | rfl <;> rfl

theorem Holds.of_own {EL : TypeId} {W : World} {base : Nat} {v : Value} {a : List Tk} (h : W.ownsRow base EL 4 v a.length (tks a)) : Holds W 4 v a.length (tks a) := by
  rcases h.2 with ⟨hv, hn⟩ | ⟨g, cap, cur, hv, _, hc, h1, h2, h3, h4⟩
  · exact ⟨none, 0, by rw [hv, hn], by rw [tks_len], one_tks a, .inl ⟨rfl, hn⟩⟩
  · refine ⟨some ⟨g, 0, none⟩, cap, hv, by rw [tks_len], one_tks a, .inr ⟨_, rfl, fun j x hj => ?_⟩⟩
    subst hv
    have hj' : j < a.length * 4 := by rw [← tks_len]; exact (List.getElem?_eq_some_iff.1 hj).1
    have := h.cellAt j hj'
    rw [← hj, ← this]
    unfold Addr.add
    by_cases e : j = 0 <;> simp [e]

theorem TokAt.of_row {EL : TypeId} {W : World} {base : Nat} {v : Value} {a : List Tk} (h : W.ownsRow base EL 4 v a.length (tks a)) : TokAt W v a.length (fun i => tkI (a.getD i ⟨0, 0, 0, []⟩)) := by
  rcases Nat.eq_zero_or_pos a.length with h0 | h0
  · rcases h.2 with ⟨hv, hn⟩ | ⟨g, cap, cur, hv, _⟩
    · exact ⟨none, 0, by rw [hv, hn], .inl h0⟩
    · exact ⟨_, _, hv, .inl h0⟩
  · obtain ⟨g, cap, rfl, hg, lt1⟩ := h.form h0
    have R := RowT.of_owns h h0
    refine ⟨_, _, rfl, .inr ⟨g, 0, rfl, R.lt, fun i hi => ?_⟩⟩
    have e : a.getD i ⟨0, 0, 0, []⟩ = a[i] := by simp [List.getD, hi]
    simp only [Nat.zero_add, e]
    exact ⟨R.at_ i hi 0 (by omega), R.at_ i hi 1 (by omega), R.at_ i hi 2 (by omega), R.at_ i hi 3 (by omega)⟩

theorem bare_tk {a c : List Tk} (h : c.map bare = a.map bare) : c.length = a.length ∧ ∀ i, i < c.length → bareI (tkI (c.getD i ⟨0, 0, 0, []⟩)) = bareI (tkI (a.getD i ⟨0, 0, 0, []⟩)) := by
  have hl : c.length = a.length := by have := congrArg List.length h; simpa using this
  refine ⟨hl, fun i hi => ?_⟩
  have := congrArg (fun l => l[i]?) h
  simp only [List.getElem?_map, List.getElem?_eq_getElem hi, List.getElem?_eq_getElem (show i < a.length by omega), Option.map_some] at this
  injection this with this
  have e1 : c.getD i ⟨0, 0, 0, []⟩ = c[i] := by simp [List.getD, hi]
  have e2 : a.getD i ⟨0, 0, 0, []⟩ = a[i]'(by omega) := by simp [List.getD, show i < a.length by omega]
  rw [e1, e2]
  unfold bare at this
  injection this with t1 t2
  injection t2 with t2 t3
  simp [bareI, tkI, t1, t2, t3]

theorem tks_append (a b : List Tk) : tks (a ++ b) = tks a ++ tks b := by simp [tks]

end Go.Proofs.YtabhbcedldjjjaaGreatDoor.Zk
