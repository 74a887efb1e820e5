/- Texts that are joined: Ymem, Ymem2, Yprd. -/
import Derived.Test.YtnjmokmlnpehdaaGreatDoorJFa
import Derived.Maps.AppendAt
import Derived.Maps.OwnIn
import Derived.Deep.AppendLies
import Derived.Laws.OwnMore
import Derived.Test.YtnjmokmlnpehdaaGreatDoorJFb
import Derived.Test.YtnjmokmlnpehdaaGreatDoorJK
import Derived.BigRegion
import Derived.Laws.EntriesVeiled
import Derived.Deep.Cut
import Derived.Deep.CutRange
import Derived.BigQuiet
import Derived.Deep.RegionLaw
import Derived.Deep.DrawnRows
namespace Go.Proofs.YtnjmokmlnpehdaaGreatDoor.Ym
set_option linter.unusedSimpArgs false
set_option linter.unusedVariables false
open Go Go.RowKit Go.Proofs.YtnjmokmlnpehdaaGreatDoor.Zm

def wcell (x : Wd) : List Value := [.bool x.num, .int .i64 x.n, .string ⟨x.s.toArray⟩, .int .i64 x.a]
def wcells (l : List Wd) : List Value := l.flatMap wcell
theorem wcells_snoc (l : List Wd) (x : Wd) : wcells (l ++ [x]) = wcells l ++ wcell x := by simp [wcells]
theorem wcells_cons (l : List Wd) (x : Wd) : wcells (x :: l) = wcell x ++ wcells l := by simp [wcells]
theorem wcells_len (l : List Wd) : (wcells l).length = l.length * 4 := by
  induction l with
  | nil => rfl
  | cons x l ih => rw [wcells_cons, List.length_append, ih]; simp [wcell]; omega

/-- these cells are an item that is finished -/
def NCell (S : Nat → Prop) (W : World) (xs : List Value) : Nd → Prop
  | .mk nm a ws b ks => ∃ vw vk, xs = [.string ⟨nm.toArray⟩, .int .i64 a, vw, .bool b, vk] ∧ WdsV S W vw ws ∧ NdsV S W vk ks
def NCells (S : Nat → Prop) (W : World) : List Value → List Nd → Prop
  | xs, [] => xs = []
  | xs, n :: l => ∃ x ys, xs = x ++ ys ∧ NCell S W x n ∧ NCells S W ys l
section
variable {S T : Nat → Prop} {W W' : World}
theorem NCell.kept {xs : List Value} {n : Nd} (h : NCell S W xs n) (k : Stay S W W') : NCell S W' xs n := by
  cases n with
  | mk nm a ws b ks =>
    obtain ⟨vw, vk, e, h1, h2⟩ := h
    exact ⟨vw, vk, e, h1.kept k, h2.kept k⟩
theorem NCell.mono {xs : List Value} {n : Nd} (h : NCell S W xs n) (k : ∀ b, S b → T b) : NCell T W xs n := by
  cases n with
  | mk nm a ws b ks =>
    obtain ⟨vw, vk, e, h1, h2⟩ := h
    exact ⟨vw, vk, e, h1.mono k, h2.mono k⟩
theorem NCell.len {xs : List Value} {n : Nd} (h : NCell S W xs n) : xs.length = 5 := by
  cases n with
  | mk nm a ws b ks =>
    obtain ⟨vw, vk, rfl, _⟩ := h
    rfl
theorem NCells.kept {xs : List Value} {l : List Nd} (h : NCells S W xs l) (k : Stay S W W') : NCells S W' xs l := by
  induction l generalizing xs with
  | nil => exact h
  | cons n l ih =>
    obtain ⟨x, ys, e, h1, h2⟩ := h
    exact ⟨x, ys, e, h1.kept k, ih h2⟩
theorem NCells.mono {xs : List Value} {l : List Nd} (h : NCells S W xs l) (k : ∀ b, S b → T b) : NCells T W xs l := by
  induction l generalizing xs with
  | nil => exact h
  | cons n l ih =>
    obtain ⟨x, ys, e, h1, h2⟩ := h
    exact ⟨x, ys, e, h1.mono k, ih h2⟩
theorem NCells.snoc {xs x : List Value} {l : List Nd} {n : Nd} (h : NCells S W xs l) (hn : NCell S W x n) : NCells S W (xs ++ x) (l ++ [n]) := by
  induction l generalizing xs with
  | nil =>
    have e : xs = [] := h
    subst e
    exact ⟨x, [], by simp, hn, rfl⟩
  | cons m l ih =>
    obtain ⟨y, ys, e, h1, h2⟩ := h
    exact ⟨y, ys ++ x, by rw [e, List.append_assoc], h1, ih h2⟩
/-- cells of a block are words, if that block may hold them -/
theorem words_of {g : Nat} (hg : S g) : ∀ (l : List Wd) (o : Nat), (∀ (j : Nat) (u : Value), (wcells l)[j]? = some u → W.cell? ⟨g, o + j, none⟩ = some u) → WdsFrom S W g o l := by
  intro l
  induction l with
  | nil => intro o _; trivial
  | cons x l ih =>
    intro o h
    rw [wcells_cons] at h
    refine ⟨⟨hg, h 0 _ rfl, h 1 _ rfl, h 2 _ rfl, h 3 _ rfl⟩, ih (o + 4) (fun j u hj => ?_)⟩
    rw [show o + 4 + j = o + (4 + j) by omega]
    exact h (4 + j) u (by rw [List.getElem?_append_right (by simp [wcell])]; simpa [wcell] using hj)
theorem kids_of {g : Nat} (hg : S g) : ∀ (l : List Nd) (xs : List Value) (o : Nat), NCells S W xs l → (∀ (j : Nat) (u : Value), xs[j]? = some u → W.cell? ⟨g, o + j, none⟩ = some u) → NdsFrom S W g o l := by
  intro l
  induction l with
  | nil => intro xs o _ _; simp [NdsFrom]
  | cons n l ih =>
    intro xs o h hc
    obtain ⟨x, ys, rfl, h1, h2⟩ := h
    have x5 := h1.len
    simp only [NdsFrom]
    refine ⟨?_, ih ys (o + 5) h2 (fun j u hj => ?_)⟩
    · cases n with
      | mk nm a ws b ks =>
        obtain ⟨vw, vk, rfl, hw, hk⟩ := h1
        simp only [NdAt]
        obtain ⟨ptr, cap, rfl, hk⟩ := hk
        exact ⟨hg, hc 0 _ rfl, hc 1 _ rfl, ⟨vw, hc 2 _ rfl, hw⟩, hc 3 _ rfl, ptr, cap, hc 4 _ rfl, hk⟩
    · rw [show o + 5 + j = o + (5 + j) by omega]
      exact hc (5 + j) u (by rw [List.getElem?_append_right (by omega), x5]; simpa using hj)
end

def ob (v : Value) : List Nat := v.ownBlock.toList
theorem mem_ob {v : Value} {x : Nat} : x ∈ ob v ↔ v.ownBlock = some x := by unfold ob; cases v.ownBlock <;> simp [eq_comm]
theorem ob_none {v : Value} (h : v.ownBlock = none) : ob v = [] := by unfold ob; rw [h]; rfl

section
variable {S T : Nat → Prop} {W W' : World} {base : Nat} {E : TypeId}
theorem row_in {size n : Nat} {v : Value} {xs : List Value} (h : W.ownsRow base E size v n xs) {x : Nat} (q : v.ownBlock = some x) : base ≤ x ∧ x < W.heap.size := by
  rcases h.2 with ⟨h1, _⟩ | ⟨g, cap, cur, hv, hb, hg, _⟩
  · rw [h1] at q; cases q
  · rw [hv] at q
    have : g = x := by simpa [Value.ownBlock] using q
    subst this; exact ⟨hb, (Array.getElem?_eq_some_iff.1 hg).1⟩
theorem row_kept {size n : Nat} {v : Value} {xs : List Value} {row : Option Nat} (h : W.ownsRow base E size v n xs) (g : W.grownBy W' row) (ne : ∀ x, v.ownBlock = some x → row ≠ some x) : W'.ownsRow base E size v n xs := by
  refine h.kept g ?_
  cases e : v.ownBlock with
  | none => exact .inl rfl
  | some x => exact .inr (fun q => ne x e q.symm)
theorem row_form {size n : Nat} {v : Value} {xs : List Value} (h : W.ownsRow base E size v n xs) : (∃ ptr cap, v = .slice ptr n cap) := by
  rcases h.2 with ⟨h1, h2⟩ | ⟨g, cap, cur, hv, _⟩
  · exact ⟨none, 0, by rw [h1, h2]⟩
  · exact ⟨_, _, hv⟩
/-- a row of words that is finished -/
theorem row_words {v : Value} {l : List Wd} (h : W.ownsRow base E 4 v l.length (wcells l)) (hS : ∀ x, v.ownBlock = some x → S x) : WdsV S W v l := by
  by_cases e : l = []
  · obtain ⟨ptr, cap, rfl⟩ := row_form h
    exact ⟨ptr, cap, rfl, .inl e⟩
  · have hn : 0 < l.length := by cases l with
      | nil => exact absurd rfl e
      | cons => simp
    obtain ⟨g, cap, rfl, hle⟩ : ∃ g cap, v = .slice (some ⟨g, 0, none⟩) l.length cap ∧ l.length ≤ cap := by
      rcases h.2 with ⟨_, h0⟩ | ⟨g, cap, cur, hv, _, _, hc, _⟩
      · omega
      · exact ⟨g, cap, hv, hc⟩
    refine ⟨_, cap, rfl, .inr ⟨g, 0, rfl, words_of (hS g rfl) l 0 (fun j u hj => ?_), hle⟩⟩
    have jl := (List.getElem?_eq_some_iff.1 hj).1
    rw [wcells_len] at jl
    rw [Nat.zero_add, h.cellAt j (by omega)]
    exact hj
theorem row_kids {v : Value} {l : List Nd} {xs : List Value} (h : W.ownsRow base E 5 v l.length xs) (hc : NCells S W xs l) (hS : ∀ x, v.ownBlock = some x → S x) : NdsV S W v l := by
  by_cases e : l = []
  · obtain ⟨ptr, cap, rfl⟩ := row_form h
    exact ⟨ptr, cap, rfl, .inl e⟩
  · have hn : 0 < l.length := by cases l with
      | nil => exact absurd rfl e
      | cons => simp
    obtain ⟨g, cap, rfl, _, _⟩ := h.form hn
    refine ⟨_, cap, rfl, .inr ⟨g, 0, rfl, kids_of (hS g rfl) l xs 0 hc (fun j u hj => ?_)⟩⟩
    have jl := (List.getElem?_eq_some_iff.1 hj).1
    have := h.1
    rw [Nat.zero_add, h.cellAt j (by omega)]
    exact hj

/-- an item that is open, in its block: its words and kids in rows of their own -/
structure ItB (S : Nat → Prop) (W : World) (base : Nat) (EW EN : TypeId) (b : Nat) (f : Fr) (vw vk out : Value) (d : Nat) : Prop where
  lt : b < W.heap.size
  c0 : W.cell? ⟨b, 0, none⟩ = some (.string ⟨f.name.toArray⟩)
  c1 : W.cell? ⟨b, 1, none⟩ = some (.int .i64 f.a)
  c2 : W.cell? ⟨b, 2, none⟩ = some vw
  c3 : W.cell? ⟨b, 3, none⟩ = some (.bool f.block)
  c4 : W.cell? ⟨b, 4, none⟩ = some vk
  c5 : W.cell? ⟨b, 5, none⟩ = some out
  c6 : W.cell? ⟨b, 6, none⟩ = some (.int .i64 d)
  z : ∀ j, W.frozen? ⟨b, j, none⟩ = false
  ww : W.ownsRow base EW 4 vw f.words.length (wcells f.words)
  kk : ∃ xs, W.ownsRow base EN 5 vk f.kids.length xs ∧ NCells S W xs f.kids
variable {EW EN : TypeId}
theorem ItB.mono {b d : Nat} {f : Fr} {vw vk out : Value} (h : ItB S W base EW EN b f vw vk out d) (k : ∀ x, S x → T x) : ItB T W base EW EN b f vw vk out d := by
  obtain ⟨xs, h1, h2⟩ := h.kk
  exact ⟨h.lt, h.c0, h.c1, h.c2, h.c3, h.c4, h.c5, h.c6, h.z, h.ww, xs, h1, h2.mono k⟩
theorem ItB.kept {b d : Nat} {f : Fr} {vw vk out : Value} {row : Option Nat} (h : ItB S W base EW EN b f vw vk out d) (g : W.grownBy W' row) (hS : ∀ x, S x → x < W.heap.size) (hr : ∀ r, row = some r → r ≠ b ∧ r ∉ ob vw ∧ r ∉ ob vk ∧ ¬ S r) :
    ItB S W' base EW EN b f vw vk out d := by
  have e := g.block b h.lt (fun q => (hr b q.symm).1 rfl)
  have hc : ∀ j, W'.cell? ⟨b, j, none⟩ = W.cell? ⟨b, j, none⟩ := fun j => World.cell?_of_block (w := W) e
  have hz : ∀ j, W'.frozen? ⟨b, j, none⟩ = W.frozen? ⟨b, j, none⟩ := fun j => by simp only [World.frozen?, e]
  have st : Stay S W W' := fun x hx => g.block x (hS x hx) (fun q => (hr x q.symm).2.2.2 hx)
  obtain ⟨xs, h1, h2⟩ := h.kk
  exact ⟨Nat.lt_of_lt_of_le h.lt g.size, (hc 0).trans h.c0, (hc 1).trans h.c1, (hc 2).trans h.c2, (hc 3).trans h.c3, (hc 4).trans h.c4, (hc 5).trans h.c5, (hc 6).trans h.c6, fun j => (hz j).trans (h.z j),
    row_kept h.ww g (fun x q e => (hr x e).2.1 (mem_ob.2 q)), xs, row_kept h1 g (fun x q e => (hr x e).2.2.1 (mem_ob.2 q)), h2.kept st⟩

/-- the text itself, as an item -/
def tf (top : List Nd) : Fr := ⟨[], 0, [], false, top⟩
/-- the items that are open, the innermost in block b, the text in block tb; own: all blocks that they are still written in -/
def Ch (S : Nat → Prop) (W : World) (base : Nat) (EW EN : TypeId) (tb : Nat) (top : List Nd) : List Fr → Nat → List Nat → Prop
  | [], b, own => b = tb ∧ ∃ vw vk, ItB S W base EW EN b (tf top) vw vk (.pointer none) 0 ∧ own = b :: (ob vw ++ ob vk)
  | f :: st, b, own => ∃ vw vk b' own', ItB S W base EW EN b f vw vk (.pointer (some ⟨b', 0, none⟩)) (st.length + 1) ∧ Ch S W base EW EN tb top st b' own' ∧ own = b :: (ob vw ++ ob vk ++ own')
theorem Ch.kept {tb : Nat} {top : List Nd} {row : Option Nat} (g : W.grownBy W' row) (hS : ∀ x, S x → x < W.heap.size) (hr : ∀ r, row = some r → ¬ S r) : ∀ {st : List Fr} {b : Nat} {own : List Nat},
    Ch S W base EW EN tb top st b own → (∀ r, row = some r → r ∉ own) → Ch S W' base EW EN tb top st b own
  | [], b, own, h, ho => by
    obtain ⟨e, vw, vk, h, e2⟩ := h
    refine ⟨e, vw, vk, h.kept g hS (fun r q => ?_), e2⟩
    have := ho r q
    rw [e2] at this
    simp only [List.mem_cons, List.mem_append, not_or] at this
    exact ⟨this.1, this.2.1, this.2.2, hr r q⟩
  | f :: st, b, own, h, ho => by
    obtain ⟨vw, vk, b', own', h, hc, e2⟩ := h
    have key : ∀ r, row = some r → r ≠ b ∧ r ∉ ob vw ∧ r ∉ ob vk ∧ r ∉ own' := fun r q => by
      have := ho r q
      rw [e2] at this
      simp only [List.mem_cons, List.mem_append, not_or] at this
      exact ⟨this.1, this.2.1.1, this.2.1.2, this.2.2⟩
    exact ⟨vw, vk, b', own', h.kept g hS (fun r q => ⟨(key r q).1, (key r q).2.1, (key r q).2.2.1, hr r q⟩), Ch.kept g hS hr hc (fun r q => (key r q).2.2.2), e2⟩
theorem Ch.mono {tb : Nat} {top : List Nd} (k : ∀ x, S x → T x) : ∀ {st : List Fr} {b : Nat} {own : List Nat}, Ch S W base EW EN tb top st b own → Ch T W base EW EN tb top st b own
  | [], b, own, h => by
    obtain ⟨e, vw, vk, h, e2⟩ := h
    exact ⟨e, vw, vk, h.mono k, e2⟩
  | f :: st, b, own, h => by
    obtain ⟨vw, vk, b', own', h, hc, e2⟩ := h
    exact ⟨vw, vk, b', own', h.mono k, Ch.mono k hc, e2⟩
/-- the innermost item, whatever it is: its block's cells -/
theorem Ch.now {tb b : Nat} {top : List Nd} {st : List Fr} {own : List Nat} (h : Ch S W base EW EN tb top st b own) : ∃ f vw vk out, ItB S W base EW EN b f vw vk out st.length ∧ b ∈ own ∧ (st = [] → b = tb ∧ f = tf top ∧ out = .pointer none) := by
  cases st with
  | nil =>
    obtain ⟨e, vw, vk, h, e2⟩ := h
    exact ⟨_, vw, vk, _, h, by rw [e2]; simp, fun _ => ⟨e, rfl, rfl⟩⟩
  | cons f st =>
    obtain ⟨vw, vk, b', own', h, hc, e2⟩ := h
    exact ⟨f, vw, vk, _, h, by rw [e2]; simp, fun q => by cases q⟩
/-- the text's block is among them -/
theorem Ch.text {tb : Nat} {top : List Nd} : ∀ {st : List Fr} {b : Nat} {own : List Nat}, Ch S W base EW EN tb top st b own → tb ∈ own
  | [], b, own, h => by
    obtain ⟨e, vw, vk, h, e2⟩ := h
    rw [e2, e]; simp
  | f :: st, b, own, h => by
    obtain ⟨vw, vk, b', own', h, hc, e2⟩ := h
    rw [e2]; simp [Ch.text hc]
end

end Go.Proofs.YtnjmokmlnpehdaaGreatDoor.Ym

namespace Go.Proofs.YtnjmokmlnpehdaaGreatDoor.Ym
set_option linter.unusedSimpArgs false
set_option linter.unusedVariables false
open Go Go.RowKit Go.Proofs.YtnjmokmlnpehdaaGreatDoor.Zm

theorem gset (W : World) (b i : Nat) (v : Value) : W.grownBy (W.setCell ⟨b, i, none⟩ v) (some b) :=
  ⟨rfl, rfl, rfl, by simp [World.setCell], fun k _ hk => Below.heap_setCell _ _ _ k (fun e => hk (by rw [e]))⟩
theorem gdrew (W : World) (row : Option Nat) : W.grownBy W.drew row := ⟨rfl, rfl, rfl, Nat.le_refl _, fun _ _ _ => rfl⟩
theorem gbelow {W W' : World} (h : Below W.heap.size W W') (row : Option Nat) : W.grownBy W' row := ⟨h.os, h.tape, h.output, h.size, fun k hk _ => h.block k hk⟩

/-- the reader's block: f: what its function value is -/
structure RdB (W : World) (rb tb nb : Nat) (f : Value) : Prop where
  lt : rb < W.heap.size
  c0 : W.cell? ⟨rb, 0, none⟩ = some (.pointer (some ⟨tb, 0, none⟩))
  c1 : W.cell? ⟨rb, 1, none⟩ = some (.pointer (some ⟨nb, 0, none⟩))
  c2 : W.cell? ⟨rb, 2, none⟩ = some f
  z : ∀ j, W.frozen? ⟨rb, j, none⟩ = false
section
variable {W W' : World} {rb tb nb : Nat} {f : Value}
theorem RdB.kept {row : Option Nat} (h : RdB W rb tb nb f) (g : W.grownBy W' row) (hr : row ≠ some rb) : RdB W' rb tb nb f := by
  have e := g.block rb h.lt (fun q => hr q.symm)
  have hc : ∀ j, W'.cell? ⟨rb, j, none⟩ = W.cell? ⟨rb, j, none⟩ := fun j => World.cell?_of_block (w := W) e
  have hz : ∀ j, W'.frozen? ⟨rb, j, none⟩ = W.frozen? ⟨rb, j, none⟩ := fun j => by simp only [World.frozen?, e]
  exact ⟨Nat.lt_of_lt_of_le h.lt g.size, (hc 0).trans h.c0, (hc 1).trans h.c1, (hc 2).trans h.c2, fun j => (hz j).trans (h.z j)⟩
theorem RdB.now (h : RdB W rb tb nb f) (n : Nat) : RdB (W.setCell ⟨rb, 1, none⟩ (.pointer (some ⟨n, 0, none⟩))) rb tb n f :=
  ⟨by simp; exact h.lt, by simp [go_sem, h.c0], by simp [go_sem, h.c1], by simp [go_sem, h.c2], fun j => by simp [go_sem, h.z j]⟩
theorem RdB.take (h : RdB W rb tb nb f) (f' : Value) : RdB (W.setCell ⟨rb, 2, none⟩ f') rb tb nb f' :=
  ⟨by simp; exact h.lt, by simp [go_sem, h.c0], by simp [go_sem, h.c1], by simp [go_sem, h.c2], fun j => by simp [go_sem, h.z j]⟩
end

/-- the reader as a whole; S holds what is finished, own what is still written in -/
structure RdO (W : World) (base : Nat) (EW EN : TypeId) (S : Nat → Prop) (rb tb nb : Nat) (own : List Nat) (r : Rd) : Prop where
  ch : Ch S W base EW EN tb r.top r.st nb own
  nd : own.Nodup
  rn : rb ∉ own
  rS : ¬ S rb
  rb_ : base ≤ rb ∧ rb < W.heap.size
  ob_ : ∀ x, x ∈ own → base ≤ x ∧ x < W.heap.size ∧ ¬ S x
  sb : ∀ x, S x → base ≤ x ∧ x < W.heap.size
section
variable {W W1 W2 W' : World} {base rb tb nb : Nat} {EW EN : TypeId} {S : Nat → Prop} {own : List Nat} {top : List Nd} {st : List Fr} {go : Bool}
theorem RdO.kept {row : Option Nat} (h : RdO W base EW EN S rb tb nb own ⟨go, top, st⟩) (g : W.grownBy W' row) (hr : ∀ x, row = some x → x ∉ own ∧ ¬ S x) (go' : Bool) : RdO W' base EW EN S rb tb nb own ⟨go', top, st⟩ :=
  ⟨h.ch.kept g (fun x hx => (h.sb x hx).2) (fun x q => (hr x q).2) (fun x q => (hr x q).1), h.nd, h.rn, h.rS, ⟨h.rb_.1, Nat.lt_of_lt_of_le h.rb_.2 g.size⟩,
    fun x hx => ⟨(h.ob_ x hx).1, Nat.lt_of_lt_of_le (h.ob_ x hx).2.1 g.size, (h.ob_ x hx).2.2⟩, fun x hx => ⟨(h.sb x hx).1, Nat.lt_of_lt_of_le (h.sb x hx).2 g.size⟩⟩
/-- a block as it is laid -/
theorem itb_new {b : Nat} {s : List UInt8} {a d : Nat} {out : Value} {T : TypeId} (hb : W.heap[b]? = some (.cells #[.string ⟨s.toArray⟩, .int .i64 a, .slice none 0 0, .bool false, .slice none 0 0, out, .int .i64 d] T (0, 0))) :
    ItB S W base EW EN b ⟨s, a, [], false, []⟩ (.slice none 0 0) (.slice none 0 0) out d := by
  obtain ⟨hlt, hk⟩ := Array.getElem?_eq_some_iff.1 hb
  refine ⟨hlt, ?_, ?_, ?_, ?_, ?_, ?_, ?_, fun j => ?_, World.ownsRow_nil _ _ _ _, [], World.ownsRow_nil _ _ _ _, rfl⟩
  all_goals simp [World.cell?, World.frozen?, hb]
/-- an item begins -/
theorem RdO.push {b : Nat} {t : Tk} {T : TypeId} (h : RdO W base EW EN S rb tb nb own ⟨go, top, st⟩) (g : W.grownBy W' (some rb)) (hb : W'.heap[b]? = some (.cells #[.string ⟨t.s.toArray⟩, .int .i64 t.a, .slice none 0 0, .bool false, .slice none 0 0, .pointer (some ⟨nb, 0, none⟩), .int .i64 ((st.length : Int) + 1)] T (0, 0)))
    (hn : W.heap.size ≤ b) (go' : Bool) : RdO W' base EW EN S rb tb b (b :: own) ⟨go', top, ⟨t.s, t.a, [], false, []⟩ :: st⟩ := by
  have k := h.kept g (fun x q => by cases q; exact ⟨h.rn, h.rS⟩) go'
  have bl := (Array.getElem?_eq_some_iff.1 hb).1
  have e : ((st.length : Int) + 1) = ((st.length + 1 : Nat) : Int) := by omega
  rw [e] at hb
  refine ⟨⟨_, _, nb, own, itb_new hb, k.ch, by simp [ob, Value.ownBlock]⟩, List.nodup_cons.2 ⟨fun q => ?_, h.nd⟩, ?_, h.rS, k.rb_, fun x hx => ?_, k.sb⟩
  · have := (h.ob_ b q).2.1; omega
  · intro q
    rcases List.mem_cons.1 q with q | q
    · have := h.rb_.2; omega
    · exact h.rn q
  · rcases List.mem_cons.1 hx with rfl | hx
    · exact ⟨by have := h.rb_; omega, bl, fun s => by have := (h.sb x s).2; omega⟩
    · exact k.ob_ x hx
/-- the innermost item's parts -/
theorem RdO.head {f : Fr} (h : RdO W base EW EN S rb tb nb own ⟨go, top, f :: st⟩) : ∃ vw vk b' own', ItB S W base EW EN nb f vw vk (.pointer (some ⟨b', 0, none⟩)) (st.length + 1) ∧ Ch S W base EW EN tb top st b' own' ∧ own = nb :: (ob vw ++ ob vk ++ own') := h.ch
/-- .. one of its cells is written: it is made a block -/
theorem RdO.block {f : Fr} (h : RdO W base EW EN S rb tb nb own ⟨go, top, f :: st⟩) (go' : Bool) : RdO (W.setCell ⟨nb, 3, none⟩ (.bool true)) base EW EN S rb tb nb own ⟨go', top, { f with block := true } :: st⟩ := by
  obtain ⟨vw, vk, b', own', I, C, e⟩ := h.head
  have g := gset W nb 3 (.bool true)
  have nS : ¬ S nb := (h.ob_ nb (by rw [e]; simp)).2.2
  have nd := h.nd
  rw [e] at nd
  simp only [List.nodup_cons, List.mem_append, not_or] at nd
  obtain ⟨xs, k1, k2⟩ := I.kk
  have sy : Stay S W (W.setCell ⟨nb, 3, none⟩ (.bool true)) := fun x hx => g.block x (h.sb x hx).2 (fun q => by cases q; exact nS hx)
  refine ⟨⟨vw, vk, b', own', ⟨by simp; exact I.lt, by simp [go_sem, I.c0], by simp [go_sem, I.c1], by simp [go_sem, I.c2], by simp [go_sem, I.c3], by simp [go_sem, I.c4], by simp [go_sem, I.c5], by simp [go_sem, I.c6], fun j => by simp [go_sem, I.z j], ?_, xs, ?_, k2.kept sy⟩, ?_, e⟩, h.nd, h.rn, h.rS, ?_, ?_, ?_⟩
  · exact row_kept I.ww g (fun x q z => by cases z; exact nd.1.1.1 (mem_ob.2 q))
  · exact row_kept k1 g (fun x q z => by cases z; exact nd.1.1.2 (mem_ob.2 q))
  · exact C.kept g (fun x hx => (h.sb x hx).2) (fun x q => by cases q; exact nS) (fun x q => by cases q; exact nd.1.2)
  · exact ⟨h.rb_.1, by simp; exact h.rb_.2⟩
  · exact fun x hx => ⟨(h.ob_ x hx).1, by simp; exact (h.ob_ x hx).2.1, (h.ob_ x hx).2.2⟩
  · exact fun x hx => ⟨(h.sb x hx).1, by simp; exact (h.sb x hx).2⟩

/-! what stays where blocks are the same -/
theorem row_same {E : TypeId} {size n : Nat} {v : Value} {xs : List Value} (h : W.ownsRow base E size v n xs) (k : ∀ x, v.ownBlock = some x → W'.heap[x]? = W.heap[x]?) : W'.ownsRow base E size v n xs := by
  refine ⟨h.1, ?_⟩
  rcases h.2 with q | ⟨g, cap, cur, hv, hb, hg, r⟩
  · exact .inl q
  · exact .inr ⟨g, cap, cur, hv, hb, (k g (by rw [hv]; rfl)).trans hg, r⟩
theorem itb_same {b d : Nat} {f : Fr} {vw vk out : Value} (h : ItB S W base EW EN b f vw vk out d) (e : W'.heap[b]? = W.heap[b]?) (hw : ∀ x, x ∈ ob vw → W'.heap[x]? = W.heap[x]?) (hk : ∀ x, x ∈ ob vk → W'.heap[x]? = W.heap[x]?) (sy : Stay S W W') :
    ItB S W' base EW EN b f vw vk out d := by
  have hc : ∀ j, W'.cell? ⟨b, j, none⟩ = W.cell? ⟨b, j, none⟩ := fun j => World.cell?_of_block (w := W) e
  have hz : ∀ j, W'.frozen? ⟨b, j, none⟩ = W.frozen? ⟨b, j, none⟩ := fun j => by simp only [World.frozen?, e]
  obtain ⟨xs, h1, h2⟩ := h.kk
  have lt : b < W'.heap.size := by
    rcases Nat.lt_or_ge b W'.heap.size with q | q
    · exact q
    · rw [Array.getElem?_eq_none q] at e
      have := h.lt
      rw [Array.getElem?_eq_getElem this] at e
      cases e
  exact ⟨lt, (hc 0).trans h.c0, (hc 1).trans h.c1, (hc 2).trans h.c2, (hc 3).trans h.c3, (hc 4).trans h.c4, (hc 5).trans h.c5, (hc 6).trans h.c6, fun j => (hz j).trans (h.z j),
    row_same h.ww (fun x q => hw x (mem_ob.2 q)), xs, row_same h1 (fun x q => hk x (mem_ob.2 q)), h2.kept sy⟩
theorem ch_same (sy : Stay S W W') : ∀ {st : List Fr} {b : Nat} {own : List Nat}, Ch S W base EW EN tb top st b own → (∀ x, x ∈ own → W'.heap[x]? = W.heap[x]?) → Ch S W' base EW EN tb top st b own
  | [], b, own, h, ho => by
    obtain ⟨e, vw, vk, h, e2⟩ := h
    refine ⟨e, vw, vk, itb_same h (ho b (by rw [e2]; simp)) (fun x q => ho x ?_) (fun x q => ho x ?_) sy, e2⟩
    · rw [e2]; simp [q]
    · rw [e2]; simp [q]
  | f :: st, b, own, h, ho => by
    obtain ⟨vw, vk, b', own', h, hc, e2⟩ := h
    refine ⟨vw, vk, b', own', itb_same h (ho b (by rw [e2]; simp)) (fun x q => ho x ?_) (fun x q => ho x ?_) sy, ch_same sy hc (fun x q => ho x ?_), e2⟩
    · rw [e2]; simp [q]
    · rw [e2]; simp [q]
    · rw [e2]; simp [q]

/-- a word is put behind: W1 is W but for what is new; v', in block g, is the longer row -/
theorem RdO.word {f : Fr} {x : Wd} {vw vk : Value} {b' g n cap : Nat} {own' : List Nat} {v' : Value} (h : RdO W base EW EN S rb tb nb own ⟨go, top, f :: st⟩)
    (I : ItB S W base EW EN nb f vw vk (.pointer (some ⟨b', 0, none⟩)) (st.length + 1)) (C : Ch S W base EW EN tb top st b' own') (e : own = nb :: (ob vw ++ ob vk ++ own'))
    (hs : W.heap.size ≤ W2.heap.size) (hsame : ∀ y, y < W.heap.size → vw.ownBlock ≠ some y → W2.heap[y]? = W.heap[y]?) (hv : v' = .slice (some ⟨g, 0, none⟩) n cap)
    (hw : W2.ownsRow base EW 4 v' (f.words.length + 1) (wcells f.words ++ wcell x)) (hat : vw.ownBlock = some g ∨ W.heap.size ≤ g) (go' : Bool) :
    ∃ own2, RdO (W2.setCell ⟨nb, 2, none⟩ v') base EW EN S rb tb nb own2 ⟨go', top, { f with words := f.words ++ [x] } :: st⟩ := by
  have nd := h.nd
  rw [e] at nd
  simp only [List.nodup_cons, List.mem_append, not_or, List.nodup_append] at nd
  have obx : ∀ y, y ∈ own → y < W.heap.size ∧ ¬ S y ∧ base ≤ y := fun y hy => ⟨(h.ob_ y hy).2.1, (h.ob_ y hy).2.2, (h.ob_ y hy).1⟩
  rw [e] at obx
  simp only [List.mem_cons, List.mem_append] at obx
  have g_new : g ≠ nb ∧ g ∉ ob vk ∧ g ∉ own' ∧ g ≠ rb ∧ ¬ S g := by
    rcases hat with q | q
    · have q' := mem_ob.2 q
      have rn := h.rn
      rw [e] at rn
      simp only [List.mem_cons, List.mem_append, not_or] at rn
      exact ⟨fun z => nd.1.1.1 (z ▸ q'), fun z => nd.2.1.2.2 g q' g z rfl, fun z => nd.2.2.2 g (.inl q') g z rfl, fun z => rn.2.1.1 (z ▸ q'), (obx g (.inr (.inl (.inl q')))).2.1⟩
    · exact ⟨fun z => by have := (obx nb (.inl rfl)).1; omega, fun z => by have := (obx g (.inr (.inl (.inr z)))).1; omega, fun z => by have := (obx g (.inr (.inr z))).1; omega, fun z => by have := h.rb_; omega, fun z => by have := (h.sb g z).2; omega⟩
  have s1 : ∀ y, y < W.heap.size → y ≠ nb → vw.ownBlock ≠ some y → (W2.setCell ⟨nb, 2, none⟩ v').heap[y]? = W.heap[y]? := fun y hy ne q => ((gset W2 nb 2 v').block y (by omega) (fun z => ne (by cases z; rfl))).trans (hsame y hy q)
  have nw : vw.ownBlock ≠ some nb := fun q => nd.1.1.1 (mem_ob.2 q)
  have sy : Stay S W (W2.setCell ⟨nb, 2, none⟩ v') := fun y hy => s1 y (h.sb y hy).2 (fun z => (obx nb (.inl rfl)).2.1 (z ▸ hy)) (fun q => (obx y (.inr (.inl (.inl (mem_ob.2 q))))).2.1 hy)
  obtain ⟨xs, k1, k2⟩ := I.kk
  have hc : ∀ j, W2.cell? ⟨nb, j, none⟩ = W.cell? ⟨nb, j, none⟩ := fun j => World.cell?_of_block (w := W) (hsame nb I.lt nw)
  have hz : ∀ j, W2.frozen? ⟨nb, j, none⟩ = W.frozen? ⟨nb, j, none⟩ := fun j => by simp only [World.frozen?, hsame nb I.lt nw]
  have og : ob v' = [g] := by rw [hv]; rfl
  have gl : base ≤ g ∧ g < W2.heap.size := row_in hw (x := g) (by rw [hv]; rfl)
  refine ⟨nb :: (ob v' ++ ob vk ++ own'), ⟨v', vk, b', own', ⟨by simp; exact Nat.lt_of_lt_of_le I.lt hs, by simp [go_sem, hc, I.c0], by simp [go_sem, hc, I.c1], by simp [go_sem, hc, I.c2], by simp [go_sem, hc, I.c3], by simp [go_sem, hc, I.c4], by simp [go_sem, hc, I.c5], by simp [go_sem, hc, I.c6], fun j => by simp [go_sem, hz, I.z j], ?_, xs, ?_, k2.kept sy⟩, ?_, rfl⟩, ?_, ?_, h.rS, ?_, ?_, ?_⟩
  · show World.ownsRow _ base EW 4 v' (f.words ++ [x]).length (wcells (f.words ++ [x]))
    rw [List.length_append, wcells_snoc]
    exact row_kept hw (gset W2 nb 2 v') (fun y q z => by rw [hv] at q; have : g = y := by simpa [Value.ownBlock] using q
                                                         cases z; exact g_new.1 this)
  · exact row_same k1 (fun y q => s1 y (obx y (.inr (.inl (.inr (mem_ob.2 q))))).1 (fun z => nd.1.1.2 (z ▸ mem_ob.2 q)) (fun q2 => nd.2.1.2.2 y (mem_ob.2 q2) y (mem_ob.2 q) rfl))
  · exact ch_same sy C (fun y hy => s1 y (obx y (.inr (.inr hy))).1 (fun z => nd.1.2 (z ▸ hy)) (fun q2 => nd.2.2.2 y (.inl (mem_ob.2 q2)) y hy rfl))
  · rw [og]
    simp only [List.nodup_cons, List.mem_append, not_or, List.nodup_append, List.mem_cons, List.not_mem_nil, or_false]
    refine ⟨⟨⟨fun z => g_new.1 z.symm, nd.1.1.2⟩, nd.1.2⟩, ⟨⟨by simp, nd.2.1.2.1, fun y hy z hz q => ?_⟩, nd.2.2.1, fun y hy z hz q => ?_⟩⟩
    · subst q; subst hy; exact g_new.2.1 hz
    · subst q
      rcases hy with hy | hy
      · subst hy; exact g_new.2.2.1 hz
      · exact nd.2.2.2 y (.inr hy) y hz rfl
  · rw [og]
    have rn := h.rn
    rw [e] at rn
    simp only [List.mem_cons, List.mem_append, not_or, List.not_mem_nil, or_false] at rn ⊢
    exact ⟨rn.1, ⟨fun z => g_new.2.2.2.1 z.symm, rn.2.1.2⟩, rn.2.2⟩
  · exact ⟨h.rb_.1, by simp; exact Nat.lt_of_lt_of_le h.rb_.2 hs⟩
  · rw [og]
    intro y hy
    simp only [List.mem_cons, List.mem_append, List.not_mem_nil, or_false] at hy
    simp only [World.size_setCell]
    rcases hy with rfl | (rfl | hy) | hy
    · exact ⟨(obx _ (.inl rfl)).2.2, Nat.lt_of_lt_of_le (obx _ (.inl rfl)).1 hs, (obx _ (.inl rfl)).2.1⟩
    · exact ⟨gl.1, gl.2, g_new.2.2.2.2⟩
    · have o := obx y (.inr (.inl (.inr hy))); exact ⟨o.2.2, Nat.lt_of_lt_of_le o.1 hs, o.2.1⟩
    · have o := obx y (.inr (.inr hy)); exact ⟨o.2.2, Nat.lt_of_lt_of_le o.1 hs, o.2.1⟩
  · exact fun y hy => ⟨(h.sb y hy).1, by simp; exact Nat.lt_of_lt_of_le (h.sb y hy).2 hs⟩

/-- an item, and what stands around it -/
def Out (S : Nat → Prop) (W : World) (base : Nat) (EW EN : TypeId) (tb : Nat) (top : List Nd) (st : List Fr) (b : Nat) (fo : Fr) (out : Value) (own1 : List Nat) : Prop :=
  (st = [] ∧ b = tb ∧ fo = tf top ∧ out = .pointer none ∧ own1 = []) ∨ ∃ r b'', st = fo :: r ∧ out = .pointer (some ⟨b'', 0, none⟩) ∧ Ch S W base EW EN tb top r b'' own1
/-- the item in which another one stands -/
theorem Ch.outer {b : Nat} (h : Ch S W base EW EN tb top st b own) : ∃ fo vw vk out own1 xs, ItB S W base EW EN b fo vw vk out st.length ∧ own = b :: (ob vw ++ ob vk ++ own1) ∧ W.ownsRow base EN 5 vk fo.kids.length xs ∧ NCells S W xs fo.kids ∧ Out S W base EW EN tb top st b fo out own1 := by
  cases st with
  | nil =>
    obtain ⟨e, vw, vk, I, e2⟩ := h
    obtain ⟨xs, k1, k2⟩ := I.kk
    exact ⟨_, vw, vk, _, [], xs, I, by rw [e2]; simp, k1, k2, .inl ⟨rfl, e, rfl, rfl, rfl⟩⟩
  | cons f st =>
    obtain ⟨vw, vk, b', own', I, hc, e2⟩ := h
    obtain ⟨xs, k1, k2⟩ := I.kk
    exact ⟨_, vw, vk, _, own', xs, I, e2, k1, k2, .inr ⟨st, b', rfl, rfl, hc⟩⟩
/-- an item ends: its cells are put behind the kids of the one in which it stands -/
theorem RdO.shut {W3 : World} {f fo : Fr} {vw vk vwo vko outo : Value} {b' g n cap : Nat} {own' own1 : List Nat} {v' : Value} {xs : List Value} (h : RdO W base EW EN S rb tb nb own ⟨go, top, f :: st⟩)
    (I : ItB S W base EW EN nb f vw vk (.pointer (some ⟨b', 0, none⟩)) (st.length + 1)) (e : own = nb :: (ob vw ++ ob vk ++ own')) (Co : Out S W base EW EN tb top st b' fo outo own1)
    (Io : ItB S W base EW EN b' fo vwo vko outo st.length) (eo : own' = b' :: (ob vwo ++ ob vko ++ own1)) (x1 : W.ownsRow base EN 5 vko fo.kids.length xs) (x2 : NCells S W xs fo.kids)
    (hs : W.heap.size ≤ W3.heap.size) (hsame : ∀ y, y < W.heap.size → y ≠ rb → y ≠ b' → vko.ownBlock ≠ some y → W3.heap[y]? = W.heap[y]?) (hv : v' = .slice (some ⟨g, 0, none⟩) n cap)
    (hcell : ∀ j, W3.cell? ⟨b', j, none⟩ = if j = 4 then some v' else W.cell? ⟨b', j, none⟩) (hz : ∀ j, W3.frozen? ⟨b', j, none⟩ = false)
    (hw : W3.ownsRow base EN 5 v' (fo.kids.length + 1) (xs ++ [.string ⟨f.name.toArray⟩, .int .i64 f.a, vw, .bool f.block, vk])) (hat : vko.ownBlock = some g ∨ W.heap.size ≤ g) :
    ∃ (S2 : Nat → Prop) (own2 : List Nat), (∀ y, S y → S2 y) ∧ RdO W3 base EW EN S2 rb tb b' own2 (shut top (f :: st)) := by
  have nd := h.nd
  rw [e, eo] at nd
  simp only [List.nodup_cons, List.mem_append, not_or, List.nodup_append, List.mem_cons] at nd
  have obx : ∀ y, y ∈ own → y < W.heap.size ∧ ¬ S y ∧ base ≤ y := fun y hy => ⟨(h.ob_ y hy).2.1, (h.ob_ y hy).2.2, (h.ob_ y hy).1⟩
  have rn := h.rn
  rw [e, eo] at obx rn
  simp only [List.mem_cons, List.mem_append, not_or] at obx rn
  obtain ⟨⟨⟨n1, n2⟩, n3, ⟨n4, n5⟩, n6⟩, ⟨⟨p1, p2, p3⟩, ⟨⟨⟨q1, q2⟩, q3⟩, ⟨⟨r1, r2, r3⟩, r4, r5⟩⟩, p4⟩⟩ := nd
  have g_new : g ≠ nb ∧ g ≠ b' ∧ g ∉ ob vw ∧ g ∉ ob vk ∧ g ∉ ob vwo ∧ g ∉ own1 ∧ g ≠ rb ∧ ¬ S g := by
    rcases hat with q | q
    · have q' := mem_ob.2 q
      exact ⟨fun z => n5 (z ▸ q'), fun z => q2 (z ▸ q'), fun z => p4 g (.inl z) g (.inr (.inl (.inr q'))) rfl, fun z => p4 g (.inr z) g (.inr (.inl (.inr q'))) rfl, fun z => r3 g z g q' rfl, fun z => r5 g (.inr q') g z rfl, fun z => rn.2.2.2.1.2 (z ▸ q'), (obx g (.inr (.inr (.inr (.inl (.inr q')))))).2.1⟩
    · exact ⟨fun z => by have := (obx nb (.inl rfl)).1; omega, fun z => by have := (obx b' (.inr (.inr (.inl rfl)))).1; omega, fun z => by have := (obx g (.inr (.inl (.inl z)))).1; omega, fun z => by have := (obx g (.inr (.inl (.inr z)))).1; omega,
        fun z => by have := (obx g (.inr (.inr (.inr (.inl (.inl z)))))).1; omega, fun z => by have := (obx g (.inr (.inr (.inr (.inr z))))).1; omega, fun z => by have := h.rb_; omega, fun z => by have := (h.sb g z).2; omega⟩
  have sy : Stay S W W3 := fun y hy => hsame y (h.sb y hy).2 (fun z => h.rS (z ▸ hy)) (fun z => (obx b' (.inr (.inr (.inl rfl)))).2.1 (z ▸ hy)) (fun q => (obx y (.inr (.inr (.inr (.inl (.inr (mem_ob.2 q))))))).2.1 hy)
  -- the finished item
  have kw : ∀ y, vw.ownBlock = some y → W3.heap[y]? = W.heap[y]? := fun y q => by
    have m := mem_ob.2 q
    exact hsame y (obx y (.inr (.inl (.inl m)))).1 (fun z => rn.2.1.1 (z ▸ m)) (fun z => p4 y (.inl m) b' (.inl rfl) z) (fun q2 => p4 y (.inl m) y (.inr (.inl (.inr (mem_ob.2 q2)))) rfl)
  have kk : ∀ y, vk.ownBlock = some y → W3.heap[y]? = W.heap[y]? := fun y q => by
    have m := mem_ob.2 q
    exact hsame y (obx y (.inr (.inl (.inr m)))).1 (fun z => rn.2.1.2 (z ▸ m)) (fun z => p4 y (.inr m) b' (.inl rfl) z) (fun q2 => p4 y (.inr m) y (.inr (.inl (.inr (mem_ob.2 q2)))) rfl)
  obtain ⟨ys, y1, y2⟩ := I.kk
  let S2 : Nat → Prop := fun y => S y ∨ vw.ownBlock = some y ∨ vk.ownBlock = some y
  have mono : ∀ y, S y → S2 y := fun y hy => .inl hy
  have node : NCell S2 W3 [.string ⟨f.name.toArray⟩, .int .i64 f.a, vw, .bool f.block, vk] f.nd :=
    ⟨vw, vk, rfl, row_words (row_same I.ww kw) (fun y q => .inr (.inl q)), row_kids (row_same y1 kk) ((y2.kept sy).mono mono) (fun y q => .inr (.inr q))⟩
  have og : ob v' = [g] := by rw [hv]; rfl
  have gl : base ≤ g ∧ g < W3.heap.size := row_in hw (x := g) (by rw [hv]; rfl)
  have kwo : ∀ y, vwo.ownBlock = some y → W3.heap[y]? = W.heap[y]? := fun y q => by
    have m := mem_ob.2 q
    exact hsame y (obx y (.inr (.inr (.inr (.inl (.inl m)))))).1 (fun z => rn.2.2.2.1.1 (z ▸ m)) (fun z => q1 (z ▸ m)) (fun q2 => r3 y m y (mem_ob.2 q2) rfl)
  have k1 : ∀ y, y ∈ own1 → W3.heap[y]? = W.heap[y]? := fun y m => hsame y (obx y (.inr (.inr (.inr (.inr m))))).1 (fun z => rn.2.2.2.2 (z ▸ m)) (fun z => q3 (z ▸ m)) (fun q2 => r5 y (.inr (mem_ob.2 q2)) y m rfl)
  have In : ItB S2 W3 base EW EN b' { fo with kids := fo.kids ++ [f.nd] } vwo v' outo st.length := by
    refine ⟨Nat.lt_of_lt_of_le Io.lt hs, by rw [hcell]; simp; exact Io.c0, by rw [hcell]; simp; exact Io.c1, by rw [hcell]; simp; exact Io.c2, by rw [hcell]; simp; exact Io.c3, by rw [hcell]; simp, by rw [hcell]; simp; exact Io.c5, by rw [hcell]; simp; exact Io.c6, hz, row_same Io.ww kwo, _, ?_, ((x2.kept sy).mono mono).snoc node⟩
    rw [List.length_append]
    exact hw
  refine ⟨S2, b' :: (ob vwo ++ ob v' ++ own1), mono, ?_⟩
  have chn : Ch S2 W3 base EW EN tb (Go.Proofs.YtnjmokmlnpehdaaGreatDoor.Ym.shut top (f :: st)).top (Go.Proofs.YtnjmokmlnpehdaaGreatDoor.Ym.shut top (f :: st)).st b' (b' :: (ob vwo ++ ob v' ++ own1)) := by
    rcases Co with ⟨rfl, eb, rfl, rfl, rfl⟩ | ⟨r, b'', rfl, rfl, Cr⟩
    · exact ⟨eb, vwo, v', In, by simp⟩
    · exact ⟨vwo, v', b'', own1, In, (ch_same sy Cr k1).mono mono, rfl⟩
  have goF : (Go.Proofs.YtnjmokmlnpehdaaGreatDoor.Ym.shut top (f :: st)) = ⟨(Go.Proofs.YtnjmokmlnpehdaaGreatDoor.Ym.shut top (f :: st)).go, (Go.Proofs.YtnjmokmlnpehdaaGreatDoor.Ym.shut top (f :: st)).top, (Go.Proofs.YtnjmokmlnpehdaaGreatDoor.Ym.shut top (f :: st)).st⟩ := rfl
  refine ⟨chn, ?_, ?_, ?_, ⟨h.rb_.1, Nat.lt_of_lt_of_le h.rb_.2 hs⟩, ?_, ?_⟩
  · rw [og]
    simp only [List.nodup_cons, List.mem_append, not_or, List.nodup_append, List.mem_cons, List.not_mem_nil, or_false]
    refine ⟨⟨⟨q1, fun z => g_new.2.1 z.symm⟩, q3⟩, ⟨r1, by simp, fun y hy z hz q => ?_⟩, r4, fun y hy z hz q => ?_⟩
    · subst q; subst hz; exact g_new.2.2.2.2.1 hy
    · subst q
      rcases hy with hy | hy
      · exact r5 y (.inl hy) y hz rfl
      · subst hy; exact g_new.2.2.2.2.2.1 hz
  · rw [og]
    simp only [List.mem_cons, List.mem_append, not_or, List.not_mem_nil, or_false]
    exact ⟨rn.2.2.1, ⟨rn.2.2.2.1.1, fun z => g_new.2.2.2.2.2.2.1 z.symm⟩, rn.2.2.2.2⟩
  · rintro (s | s | s)
    · exact h.rS s
    · exact rn.2.1.1 (mem_ob.2 s)
    · exact rn.2.1.2 (mem_ob.2 s)
  · rw [og]
    intro y hy
    simp only [List.mem_cons, List.mem_append, List.not_mem_nil, or_false] at hy
    have key : ∀ y, (y = b' ∨ y ∈ ob vwo ∨ y ∈ own1) → base ≤ y ∧ y < W3.heap.size ∧ ¬ S2 y := fun y hy => by
      have m : y = nb ∨ ((y ∈ ob vw ∨ y ∈ ob vk) ∨ (y = b' ∨ ((y ∈ ob vwo ∨ y ∈ ob vko) ∨ y ∈ own1))) := by
        rcases hy with q | q | q
        · exact .inr (.inr (.inl q))
        · exact .inr (.inr (.inr (.inl (.inl q))))
        · exact .inr (.inr (.inr (.inr q)))
      have o := obx y m
      refine ⟨o.2.2, Nat.lt_of_lt_of_le o.1 hs, ?_⟩
      have d : ∀ z, (z ∈ ob vw ∨ z ∈ ob vk) → z ≠ y := fun z hz q => by
        refine p4 z hz y ?_ q
        rcases hy with q | q | q
        · exact .inl q
        · exact .inr (.inl (.inl q))
        · exact .inr (.inr q)
      rintro (s | s | s)
      · exact o.2.1 s
      · exact d y (.inl (mem_ob.2 s)) rfl
      · exact d y (.inr (mem_ob.2 s)) rfl
    rcases hy with hy | (hy | rfl) | hy
    · exact key y (.inl hy)
    · exact key y (.inr (.inl hy))
    · refine ⟨gl.1, gl.2, ?_⟩
      rintro (s | s | s)
      · exact g_new.2.2.2.2.2.2.2 s
      · exact g_new.2.2.1 (mem_ob.2 s)
      · exact g_new.2.2.2.1 (mem_ob.2 s)
    · exact key y (.inr (.inr hy))
  · rintro y (s | s | s)
    · exact ⟨(h.sb y s).1, Nat.lt_of_lt_of_le (h.sb y s).2 hs⟩
    · have o := obx y (.inr (.inl (.inl (mem_ob.2 s)))); exact ⟨o.2.2, Nat.lt_of_lt_of_le o.1 hs⟩
    · have o := obx y (.inr (.inl (.inr (mem_ob.2 s)))); exact ⟨o.2.2, Nat.lt_of_lt_of_le o.1 hs⟩
end

end Go.Proofs.YtnjmokmlnpehdaaGreatDoor.Ym

namespace Go.Proofs.YtnjmokmlnpehdaaGreatDoor.Yp
set_option linter.unusedSimpArgs false
set_option linter.unusedVariables false
open Go.RowKit Go.Proofs.YtnjmokmlnpehdaaGreatDoor.Bn Go.Proofs.YtnjmokmlnpehdaaGreatDoor.Zm Go.Proofs.YtnjmokmlnpehdaaGreatDoor.Ym

set_option maxHeartbeats 8000000
attribute [local go_sem ↓] Go.wp_at_zero Go.wp_at_succ

/-- the reader's function value: what may stand next -/
def fnv (go : Bool) (rb : Nat) : Value := .func (.func (if go then 88 else 72)) #[.pointer (some ⟨rb, 0, none⟩)] #[]
def tokv (t : Tk) : Value := .agg #[.int .i64 t.k, .int .i64 t.a, .int .i64 t.n, .string ⟨t.s.toArray⟩]
theorem infoW : (Tryz.prog.info? 45).map (fun i => (i.zero, i.size, i.bytes)) = some (some (.agg #[.bool false, .int .i64 0, .string ⟨#[]⟩, .int .i64 0]), 4, 40) := by kernel_rfl
theorem underW : Tryz.prog.underlying 22 = some (.slice 45) := by kernel_rfl
theorem infoI : (Tryz.prog.info? 25).map (fun i => (i.zero, i.size, i.bytes)) = some (some (.agg #[.string ⟨#[]⟩, .int .i64 0, .slice none 0 0, .bool false, .slice none 0 0]), 5, 80) := by kernel_rfl
theorem underI : Tryz.prog.underlying 23 = some (.slice 25) := by kernel_rfl
/-- the reader stands at r -/
def RdM (W : World) (base : Nat) (S : Nat → Prop) (rb tb : Nat) (r : Rd) : Prop :=
  ∃ nb own, RdB W rb tb nb (fnv r.go rb) ∧ RdO W base 45 25 S rb tb nb own r
def RdRes (base : Nat) (S : Nat → Prop) (rb tb : Nat) (x : Except Nat Rd) (w : World) (e : Ending) (w' : World) : Prop :=
  match x with
  | .error c => e = .returned (.int .i64 (c : Nat)) ∧ Below w.heap.size w w'
  | .ok r' => ∃ S' : Nat → Prop, e = .returned (.int .i64 0) ∧ Below base w w' ∧ (∀ y, S y → S' y) ∧ RdM w' base S' rb tb r'

set_option maxRecDepth 100000 in
theorem wordOf_any (k a n : Int) (s : ByteArray) (w : World) :
    Calls Tryz.prog 119 #[.agg #[.int .i64 k, .int .i64 a, .int .i64 n, .string s]] w fun e w' => e = .returned (.agg #[.bool (k == 2), .int .i64 n, .string s, .int .i64 a]) ∧ Below w.heap.size w w' := by
  go_enter Tryz.func119, Tryz.ntmps119
  go_wp2
  refine bodyPost_ret (v := .agg #[.bool (k == 2), .int .i64 n, .string s, .int .i64 a]) (by simp [results, Tryz.results119, go_sem]) rfl ⟨rfl, ?_⟩
  exact balloc (balloc (Below.refl _ _) _) _

set_option maxRecDepth 100000 in
theorem begin_name (base : Nat) (S : Nat → Prop) (rb tb : Nat) (t : Tk) (top : List Nd) (st : List Fr) (w : World) (hk : t.k = 1) (M : RdM w base S rb tb ⟨false, top, st⟩) (d1 : st.length ≤ 100000) :
    Calls Tryz.prog 72 #[.pointer (some ⟨rb, 0, none⟩), tokv t] w (RdRes base S rb tb (take ⟨false, top, st⟩ t) w) := by
  obtain ⟨nb, own, B, O⟩ := M
  have tk : take ⟨false, top, st⟩ t = .ok ⟨true, top, ⟨t.s, t.a, [], false, []⟩ :: st⟩ := by simp only [take]; rw [if_pos hk]
  rw [tk]
  unfold tokv
  rw [hk]
  obtain ⟨f, vw, vk, out, I, hn, _⟩ := O.ch.now
  have h6 := I.c6
  have hnl := I.lt
  obtain ⟨s, hs⟩ : ∃ s : ByteArray, (⟨t.s.toArray⟩ : ByteArray) = s := ⟨_, rfl⟩
  obtain ⟨a, ha⟩ : ∃ a : Int, (t.a : Int) = a := ⟨_, rfl⟩
  obtain ⟨n, hn'⟩ : ∃ n : Int, (t.n : Int) = n := ⟨_, rfl⟩
  obtain ⟨d, hd⟩ : ∃ d : Int, ((st.length : Nat) : Int) = d := ⟨_, rfl⟩
  rw [hd] at h6
  have d0 : 0 ≤ d ∧ d ≤ 100000 := by omega
  have HH := Lib.hid (And.intro hs (And.intro ha hd))
  have HO := Lib.hid O
  have br := O.rb_
  rw [hs, ha, hn']
  clear hs ha hd hn' I tk hk O d1 hn
  have K := Box.new w #[.int .i64 1, .int .i64 a, .int .i64 n, .string s] 80
  have B1 := balloc (Below.refl w.heap.size w) (.cells #[.int .i64 1, .int .i64 a, .int .i64 n, .string s] 80)
  have g6 := (B1.cell (p := ⟨nb, 6, none⟩) hnl).trans h6
  have R1 := B.kept (gbelow B1 none) (by simp)
  go_enter Tryz.func72, Tryz.ntmps72
  go_upto_region 3 with fail
  generalize w.alloc (.cells #[.int .i64 1, .int .i64 a, .int .i64 n, .string s] 80) = W0 at *
  obtain ⟨_, k0, k1, k2, k3, z0, z1, z2, z3⟩ := K.four
  obtain ⟨IT, hIT⟩ : ∃ IT : Obj, IT = .cells #[.string s, .int .i64 a, .slice none 0 0, .bool false, .slice none 0 0, .pointer (some ⟨nb, 0, none⟩), .int .i64 (d + 1)] 86 := ⟨_, rfl⟩
  have B2 := balloc (Below.refl W0.heap.size W0) IT
  have R2 := (((R1.kept (gbelow B2 none) (by simp)).now W0.heap.size).kept (gdrew _ none) (by simp)).take (fnv true rb)
  have u1 := (B2.cell (p := ⟨rb, 1, none⟩) R1.lt).trans R1.c1
  have v1 := (B2.frozen (p := ⟨rb, 1, none⟩) R1.lt).trans (R1.z 1)
  have x2 : World.cell? _ _ = some (.func (.func 72) #[.pointer (some ⟨rb, 0, none⟩)] #[]) := (B2.cell (p := ⟨rb, 2, none⟩) R1.lt).trans R1.c2
  have y2 := (B2.frozen (p := ⟨rb, 2, none⟩) R1.lt).trans (R1.z 2)
  have q1 := R1.c1
  have f1 := R1.z 1
  have hb : (((W0.alloc IT).setCell ⟨rb, 1, none⟩ (.pointer (some ⟨W0.heap.size, 0, none⟩))).drew.setCell ⟨rb, 2, none⟩ (fnv true rb)).heap[W0.heap.size]? = some IT := by
    have hr : rb ≠ W0.heap.size := by have := R1.lt; omega
    refine (Below.heap_setCell _ _ _ _ (Ne.symm hr)).trans ?_
    refine Eq.trans ?_ (MapKept.heap_alloc W0 IT).1
    exact Below.heap_setCell _ _ _ _ (Ne.symm hr)
  have G : w.grownBy (((W0.alloc IT).setCell ⟨rb, 1, none⟩ (.pointer (some ⟨W0.heap.size, 0, none⟩))).drew.setCell ⟨rb, 2, none⟩ (fnv true rb)) (some rb) :=
    ((((gbelow B1 (some rb)).trans (gbelow B2 (some rb))).trans (gset _ rb 1 _)).trans (gdrew _ (some rb))).trans (gset _ rb 2 _)
  have RES : RdRes base S rb tb (.ok ⟨true, top, ⟨t.s, t.a, [], false, []⟩ :: st⟩) w (.returned (.int .i64 0)) (((W0.alloc IT).setCell ⟨rb, 1, none⟩ (.pointer (some ⟨W0.heap.size, 0, none⟩))).drew.setCell ⟨rb, 2, none⟩ (fnv true rb)) := by
    obtain ⟨e1, e2, e3⟩ := HH
    have hO : RdO w base _ _ S rb tb nb own ⟨false, top, st⟩ := HO
    have bw : base ≤ w.heap.size := by omega
    refine ⟨S, rfl, ?_, fun _ h => h, W0.heap.size, _, R2, hO.push G (b := W0.heap.size) (t := t) (T := 86) ?_ ?_ true⟩
    · exact ((((B1.mono bw).alloc (Nat.le_trans bw B1.size) IT).setCell br.1 _).drew).setCell br.1 _
    · rw [hb, hIT, e1, e2, e3]
    · exact B1.size
  clear HH HO G hb R2 B1 B2
  rw [hIT] at x2 y2 u1 v1 RES
  go_region
  all_goals
    go_wp2
    refine bodyPost_ret (v := .int .i64 0) (by simp [results, Tryz.results72, go_sem]) rfl RES

set_option maxRecDepth 100000 in
theorem open_any (base : Nat) (S : Nat → Prop) (rb tb : Nat) (f : Fr) (top : List Nd) (st : List Fr) (w : World) (M : RdM w base S rb tb ⟨true, top, f :: st⟩) (d1 : st.length ≤ 100000) :
    Calls Tryz.prog 109 #[.pointer (some ⟨rb, 0, none⟩)] w (RdRes base S rb tb (if 6 < st.length + 1 then .error 7 else .ok ⟨false, top, { f with block := true } :: st⟩) w) := by
  obtain ⟨nb, own, B, O⟩ := M
  obtain ⟨vw, vk, b', own', I, C, e⟩ := O.head
  have br := O.rb_
  have bn := O.ob_ nb (by rw [e]; simp)
  have ne : rb ≠ nb := fun q => O.rn (by rw [e, q]; simp)
  have B' := (B.kept (gset w nb 3 (.bool true)) (fun q => ne (by cases q; rfl))).take (fnv false rb)
  have O' := (O.block false).kept (gset _ rb 2 (fnv false rb)) (fun x q => by cases q; exact ⟨O.rn, O.rS⟩) false
  have q1 := B.c1
  have h6 := I.c6
  have h3 := I.c3
  have z3 := I.z 3
  have q2 : w.cell? ⟨rb, 2, none⟩ = some (.func (.func 88) #[.pointer (some ⟨rb, 0, none⟩)] #[]) := B.c2
  have y2 := B.z 2
  obtain ⟨d, hd⟩ : ∃ d : Int, ((st.length + 1 : Nat) : Int) = d := ⟨_, rfl⟩
  rw [hd] at h6
  by_cases hl : 6 < st.length + 1
  · rw [if_pos hl]
    have hd6 : 6 < d := by omega
    clear B' O' O I C B e ne
    go_enter Tryz.func109, Tryz.ntmps109
    go_wp2
    refine bodyPost_ret (v := .int .i64 7) (by simp [results, Tryz.results109, go_sem]) rfl ⟨rfl, ?_⟩
    exact Below.refl _ _
  · rw [if_neg hl]
    have hd6 : ¬ 6 < d := by omega
    have RES : RdRes base S rb tb (.ok ⟨false, top, { f with block := true } :: st⟩) w (.returned (.int .i64 0)) ((w.setCell ⟨nb, 3, none⟩ (.bool true)).setCell ⟨rb, 2, none⟩ (fnv false rb)) :=
      ⟨S, rfl, ((Below.refl base w).setCell bn.1 _).setCell br.1 _, fun _ h => h, nb, own, B', O'⟩
    clear B' O' O I C B e
    go_enter Tryz.func109, Tryz.ntmps109
    go_wp2
    refine bodyPost_ret (v := .int .i64 0) (by simp [results, Tryz.results109, go_sem]) rfl RES

theorem app_same {w W wz : World} {v : Value} {b : Nat} (hb : Below w.heap.size w W) (hg : W.grownBy wz v.ownBlock) (hne : v.ownBlock ≠ some b) (hl : b < w.heap.size) : wz.heap[b]? = w.heap[b]? :=
  (hg.block b (Nat.lt_of_lt_of_le hl hb.size) (fun q => hne q.symm)).trans (hb.block b hl)
theorem app_frz {w wz : World} {b j : Nat} (h : wz.heap[b]? = w.heap[b]?) : wz.frozen? ⟨b, j, none⟩ = w.frozen? ⟨b, j, none⟩ := by simp only [World.frozen?, h]
theorem app_below {w W wz : World} {v : Value} {base : Nat} (hb : Below w.heap.size w W) (hg : W.grownBy wz v.ownBlock) (hv : ∀ x, v.ownBlock = some x → base ≤ x) (hw : base ≤ w.heap.size) : Below base w wz :=
  ⟨hg.os.trans hb.os, hg.tape.trans hb.tape, hg.output.trans hb.output, Nat.le_trans hb.size hg.size, fun k hk => app_same hb hg (fun q => by have := hv k q; omega) (by omega)⟩

end Go.Proofs.YtnjmokmlnpehdaaGreatDoor.Yp
