/- The reader of items in memory: the chain of the items that are open, each a block with growing rows of words and of kids. -/
import Derived.Test.YtabhbcedldjjjaaGreatDoorYrow
import Derived.Maps.AppendAt
import Derived.Maps.OwnIn
import Derived.Deep.AppendLies
import Derived.Laws.OwnMore
namespace Go.Proofs.YtabhbcedldjjjaaGreatDoor.Ym
set_option linter.unusedSimpArgs false
set_option linter.unusedVariables false
open Go Go.RowKit Go.Proofs.YtabhbcedldjjjaaGreatDoor.Zm

def wcell (x : Wd) : List Value := [.bool x.num, .int .i64 x.n, .string ⟨x.s.toArray⟩, .int .i64 x.a]
def wcells (l : List Wd) : List Value := l.flatMap wcell
theorem wcells_snoc (l : List Wd) (x : Wd) : wcells (l ++ [x]) = wcells l ++ wcell x := by simp [wcells]
theorem wcells_cons (l : List Wd) (x : Wd) : wcells (x :: l) = wcell x ++ wcells l := by simp [wcells]
theorem wcells_len (l : List Wd) : (wcells l).length = l.length * 4 := by
  induction l with
  | nil => rfl
  | cons x l ih => rw [wcells_cons, List.length_append, ih]; simp [wcell]; omega

/-- these cells are an item that is finished -/
def NCell (S : Nat → Prop) (W : World) (xs : List Value) : Nd → Prop
  | .mk nm a ws b ks => ∃ vw vk, xs = [.string ⟨nm.toArray⟩, .int .i64 a, vw, .bool b, vk] ∧ WdsV S W vw ws ∧ NdsV S W vk ks
def NCells (S : Nat → Prop) (W : World) : List Value → List Nd → Prop
  | xs, [] => xs = []
  | xs, n :: l => ∃ x ys, xs = x ++ ys ∧ NCell S W x n ∧ NCells S W ys l
section
variable {S T : Nat → Prop} {W W' : World}
theorem NCell.kept {xs : List Value} {n : Nd} (h : NCell S W xs n) (k : Stay S W W') : NCell S W' xs n := by
  cases n with
  | mk nm a ws b ks =>
    obtain ⟨vw, vk, e, h1, h2⟩ := h
    exact ⟨vw, vk, e, h1.kept k, h2.kept k⟩
theorem NCell.mono {xs : List Value} {n : Nd} (h : NCell S W xs n) (k : ∀ b, S b → T b) : NCell T W xs n := by
  cases n with
  | mk nm a ws b ks =>
    obtain ⟨vw, vk, e, h1, h2⟩ := h
    exact ⟨vw, vk, e, h1.mono k, h2.mono k⟩
theorem NCell.len {xs : List Value} {n : Nd} (h : NCell S W xs n) : xs.length = 5 := by
  cases n with
  | mk nm a ws b ks =>
    obtain ⟨vw, vk, rfl, _⟩ := h
    rfl
theorem NCells.kept {xs : List Value} {l : List Nd} (h : NCells S W xs l) (k : Stay S W W') : NCells S W' xs l := by
  induction l generalizing xs with
  | nil => exact h
  | cons n l ih =>
    obtain ⟨x, ys, e, h1, h2⟩ := h
    exact ⟨x, ys, e, h1.kept k, ih h2⟩
theorem NCells.mono {xs : List Value} {l : List Nd} (h : NCells S W xs l) (k : ∀ b, S b → T b) : NCells T W xs l := by
  induction l generalizing xs with
  | nil => exact h
  | cons n l ih =>
    obtain ⟨x, ys, e, h1, h2⟩ := h
    exact ⟨x, ys, e, h1.mono k, ih h2⟩
theorem NCells.snoc {xs x : List Value} {l : List Nd} {n : Nd} (h : NCells S W xs l) (hn : NCell S W x n) : NCells S W (xs ++ x) (l ++ [n]) := by
  induction l generalizing xs with
  | nil =>
    have e : xs = [] := h
    subst e
    exact ⟨x, [], by simp, hn, rfl⟩
  | cons m l ih =>
    obtain ⟨y, ys, e, h1, h2⟩ := h
    exact ⟨y, ys ++ x, by rw [e, List.append_assoc], h1, ih h2⟩
/-- cells of a block are words, if that block may hold them -/
theorem words_of {g : Nat} (hg : S g) : ∀ (l : List Wd) (o : Nat), (∀ (j : Nat) (u : Value), (wcells l)[j]? = some u → W.cell? ⟨g, o + j, none⟩ = some u) → WdsFrom S W g o l := by
  intro l
  induction l with
  | nil => intro o _; trivial
  | cons x l ih =>
    intro o h
    rw [wcells_cons] at h
    refine ⟨⟨hg, h 0 _ rfl, h 1 _ rfl, h 2 _ rfl, h 3 _ rfl⟩, ih (o + 4) (fun j u hj => ?_)⟩
    rw [show o + 4 + j = o + (4 + j) by omega]
    exact h (4 + j) u (by rw [List.getElem?_append_right (by simp [wcell])]; simpa [wcell] using hj)
theorem kids_of {g : Nat} (hg : S g) : ∀ (l : List Nd) (xs : List Value) (o : Nat), NCells S W xs l → (∀ (j : Nat) (u : Value), xs[j]? = some u → W.cell? ⟨g, o + j, none⟩ = some u) → NdsFrom S W g o l := by
  intro l
  induction l with
  | nil => intro xs o _ _; simp [NdsFrom]
  | cons n l ih =>
    intro xs o h hc
    obtain ⟨x, ys, rfl, h1, h2⟩ := h
    have x5 := h1.len
    simp only [NdsFrom]
    refine ⟨?_, ih ys (o + 5) h2 (fun j u hj => ?_)⟩
    · cases n with
      | mk nm a ws b ks =>
        obtain ⟨vw, vk, rfl, hw, hk⟩ := h1
        simp only [NdAt]
        obtain ⟨ptr, cap, rfl, hk⟩ := hk
        exact ⟨hg, hc 0 _ rfl, hc 1 _ rfl, ⟨vw, hc 2 _ rfl, hw⟩, hc 3 _ rfl, ptr, cap, hc 4 _ rfl, hk⟩
    · rw [show o + 5 + j = o + (5 + j) by omega]
      exact hc (5 + j) u (by rw [List.getElem?_append_right (by omega), x5]; simpa using hj)
end

def ob (v : Value) : List Nat := v.ownBlock.toList
theorem mem_ob {v : Value} {x : Nat} : x ∈ ob v ↔ v.ownBlock = some x := by unfold ob; cases v.ownBlock <;> simp [eq_comm]
theorem ob_none {v : Value} (h : v.ownBlock = none) : ob v = [] := by unfold ob; rw [h]; rfl

section
variable {S T : Nat → Prop} {W W' : World} {base : Nat} {E : TypeId}
theorem row_in {size n : Nat} {v : Value} {xs : List Value} (h : W.ownsRow base E size v n xs) {x : Nat} (q : v.ownBlock = some x) : base ≤ x ∧ x < W.heap.size := by
  rcases h.2 with ⟨h1, _⟩ | ⟨g, cap, cur, hv, hb, hg, _⟩
  · rw [h1] at q; cases q
  · rw [hv] at q
    have : g = x := by simpa [Value.ownBlock] using q
    subst this; exact ⟨hb, (Array.getElem?_eq_some_iff.1 hg).1⟩
theorem row_kept {size n : Nat} {v : Value} {xs : List Value} {row : Option Nat} (h : W.ownsRow base E size v n xs) (g : W.grownBy W' row) (ne : ∀ x, v.ownBlock = some x → row ≠ some x) : W'.ownsRow base E size v n xs := by
  refine h.kept g ?_
  cases e : v.ownBlock with
  | none => exact .inl rfl
  | some x => exact .inr (fun q => ne x e q.symm)
theorem row_form {size n : Nat} {v : Value} {xs : List Value} (h : W.ownsRow base E size v n xs) : (∃ ptr cap, v = .slice ptr n cap) := by
  rcases h.2 with ⟨h1, h2⟩ | ⟨g, cap, cur, hv, _⟩
  · exact ⟨none, 0, by rw [h1, h2]⟩
  · exact ⟨_, _, hv⟩
/-- a row of words that is finished -/
theorem row_words {v : Value} {l : List Wd} (h : W.ownsRow base E 4 v l.length (wcells l)) (hS : ∀ x, v.ownBlock = some x → S x) : WdsV S W v l := by
  by_cases e : l = []
  · obtain ⟨ptr, cap, rfl⟩ := row_form h
    exact ⟨ptr, cap, rfl, .inl e⟩
  · have hn : 0 < l.length := by cases l with
      | nil => exact absurd rfl e
      | cons => simp
    obtain ⟨g, cap, rfl, _, _⟩ := h.form hn
    refine ⟨_, cap, rfl, .inr ⟨g, 0, rfl, words_of (hS g rfl) l 0 (fun j u hj => ?_)⟩⟩
    have jl := (List.getElem?_eq_some_iff.1 hj).1
    rw [wcells_len] at jl
    rw [Nat.zero_add, h.cellAt j (by omega)]
    exact hj
theorem row_kids {v : Value} {l : List Nd} {xs : List Value} (h : W.ownsRow base E 5 v l.length xs) (hc : NCells S W xs l) (hS : ∀ x, v.ownBlock = some x → S x) : NdsV S W v l := by
  by_cases e : l = []
  · obtain ⟨ptr, cap, rfl⟩ := row_form h
    exact ⟨ptr, cap, rfl, .inl e⟩
  · have hn : 0 < l.length := by cases l with
      | nil => exact absurd rfl e
      | cons => simp
    obtain ⟨g, cap, rfl, _, _⟩ := h.form hn
    refine ⟨_, cap, rfl, .inr ⟨g, 0, rfl, kids_of (hS g rfl) l xs 0 hc (fun j u hj => ?_)⟩⟩
    have jl := (List.getElem?_eq_some_iff.1 hj).1
    have := h.1
    rw [Nat.zero_add, h.cellAt j (by omega)]
    exact hj

/-- an item that is open, in its block: its words and kids in rows of their own -/
structure ItB (S : Nat → Prop) (W : World) (base : Nat) (EW EN : TypeId) (b : Nat) (f : Fr) (vw vk out : Value) (d : Nat) : Prop where
  lt : b < W.heap.size
  c0 : W.cell? ⟨b, 0, none⟩ = some (.string ⟨f.name.toArray⟩)
  c1 : W.cell? ⟨b, 1, none⟩ = some (.int .i64 f.a)
  c2 : W.cell? ⟨b, 2, none⟩ = some vw
  c3 : W.cell? ⟨b, 3, none⟩ = some (.bool f.block)
  c4 : W.cell? ⟨b, 4, none⟩ = some vk
  c5 : W.cell? ⟨b, 5, none⟩ = some out
  c6 : W.cell? ⟨b, 6, none⟩ = some (.int .i64 d)
  z : ∀ j, W.frozen? ⟨b, j, none⟩ = false
  ww : W.ownsRow base EW 4 vw f.words.length (wcells f.words)
  kk : ∃ xs, W.ownsRow base EN 5 vk f.kids.length xs ∧ NCells S W xs f.kids
variable {EW EN : TypeId}
theorem ItB.mono {b d : Nat} {f : Fr} {vw vk out : Value} (h : ItB S W base EW EN b f vw vk out d) (k : ∀ x, S x → T x) : ItB T W base EW EN b f vw vk out d := by
  obtain ⟨xs, h1, h2⟩ := h.kk
  exact ⟨h.lt, h.c0, h.c1, h.c2, h.c3, h.c4, h.c5, h.c6, h.z, h.ww, xs, h1, h2.mono k⟩
theorem ItB.kept {b d : Nat} {f : Fr} {vw vk out : Value} {row : Option Nat} (h : ItB S W base EW EN b f vw vk out d) (g : W.grownBy W' row) (hS : ∀ x, S x → x < W.heap.size) (hr : ∀ r, row = some r → r ≠ b ∧ r ∉ ob vw ∧ r ∉ ob vk ∧ ¬ S r) :
    ItB S W' base EW EN b f vw vk out d := by
  have e := g.block b h.lt (fun q => (hr b q.symm).1 rfl)
  have hc : ∀ j, W'.cell? ⟨b, j, none⟩ = W.cell? ⟨b, j, none⟩ := fun j => World.cell?_of_block (w := W) e
  have hz : ∀ j, W'.frozen? ⟨b, j, none⟩ = W.frozen? ⟨b, j, none⟩ := fun j => by simp only [World.frozen?, e]
  have st : Stay S W W' := fun x hx => g.block x (hS x hx) (fun q => (hr x q.symm).2.2.2 hx)
  obtain ⟨xs, h1, h2⟩ := h.kk
  exact ⟨Nat.lt_of_lt_of_le h.lt g.size, (hc 0).trans h.c0, (hc 1).trans h.c1, (hc 2).trans h.c2, (hc 3).trans h.c3, (hc 4).trans h.c4, (hc 5).trans h.c5, (hc 6).trans h.c6, fun j => (hz j).trans (h.z j),
    row_kept h.ww g (fun x q e => (hr x e).2.1 (mem_ob.2 q)), xs, row_kept h1 g (fun x q e => (hr x e).2.2.1 (mem_ob.2 q)), h2.kept st⟩

/-- the text itself, as an item -/
def tf (top : List Nd) : Fr := ⟨[], 0, [], false, top⟩
/-- the items that are open, the innermost in block b, the text in block tb; own: all blocks that they are still written in -/
def Ch (S : Nat → Prop) (W : World) (base : Nat) (EW EN : TypeId) (tb : Nat) (top : List Nd) : List Fr → Nat → List Nat → Prop
  | [], b, own => b = tb ∧ ∃ vw vk, ItB S W base EW EN b (tf top) vw vk (.pointer none) 0 ∧ own = b :: (ob vw ++ ob vk)
  | f :: st, b, own => ∃ vw vk b' own', ItB S W base EW EN b f vw vk (.pointer (some ⟨b', 0, none⟩)) (st.length + 1) ∧ Ch S W base EW EN tb top st b' own' ∧ own = b :: (ob vw ++ ob vk ++ own')
theorem Ch.kept {tb : Nat} {top : List Nd} {row : Option Nat} (g : W.grownBy W' row) (hS : ∀ x, S x → x < W.heap.size) (hr : ∀ r, row = some r → ¬ S r) : ∀ {st : List Fr} {b : Nat} {own : List Nat},
    Ch S W base EW EN tb top st b own → (∀ r, row = some r → r ∉ own) → Ch S W' base EW EN tb top st b own
  | [], b, own, h, ho => by
    obtain ⟨e, vw, vk, h, e2⟩ := h
    refine ⟨e, vw, vk, h.kept g hS (fun r q => ?_), e2⟩
    have := ho r q
    rw [e2] at this
    simp only [List.mem_cons, List.mem_append, not_or] at this
    exact ⟨this.1, this.2.1, this.2.2, hr r q⟩
  | f :: st, b, own, h, ho => by
    obtain ⟨vw, vk, b', own', h, hc, e2⟩ := h
    have key : ∀ r, row = some r → r ≠ b ∧ r ∉ ob vw ∧ r ∉ ob vk ∧ r ∉ own' := fun r q => by
      have := ho r q
      rw [e2] at this
      simp only [List.mem_cons, List.mem_append, not_or] at this
      exact ⟨this.1, this.2.1.1, this.2.1.2, this.2.2⟩
    exact ⟨vw, vk, b', own', h.kept g hS (fun r q => ⟨(key r q).1, (key r q).2.1, (key r q).2.2.1, hr r q⟩), Ch.kept g hS hr hc (fun r q => (key r q).2.2.2), e2⟩
theorem Ch.mono {tb : Nat} {top : List Nd} (k : ∀ x, S x → T x) : ∀ {st : List Fr} {b : Nat} {own : List Nat}, Ch S W base EW EN tb top st b own → Ch T W base EW EN tb top st b own
  | [], b, own, h => by
    obtain ⟨e, vw, vk, h, e2⟩ := h
    exact ⟨e, vw, vk, h.mono k, e2⟩
  | f :: st, b, own, h => by
    obtain ⟨vw, vk, b', own', h, hc, e2⟩ := h
    exact ⟨vw, vk, b', own', h.mono k, Ch.mono k hc, e2⟩
/-- the innermost item, whatever it is: its block's cells -/
theorem Ch.now {tb b : Nat} {top : List Nd} {st : List Fr} {own : List Nat} (h : Ch S W base EW EN tb top st b own) : ∃ f vw vk out, ItB S W base EW EN b f vw vk out st.length ∧ b ∈ own ∧ (st = [] → b = tb ∧ f = tf top ∧ out = .pointer none) := by
  cases st with
  | nil =>
    obtain ⟨e, vw, vk, h, e2⟩ := h
    exact ⟨_, vw, vk, _, h, by rw [e2]; simp, fun _ => ⟨e, rfl, rfl⟩⟩
  | cons f st =>
    obtain ⟨vw, vk, b', own', h, hc, e2⟩ := h
    exact ⟨f, vw, vk, _, h, by rw [e2]; simp, fun q => by cases q⟩
/-- the text's block is among them -/
theorem Ch.text {tb : Nat} {top : List Nd} : ∀ {st : List Fr} {b : Nat} {own : List Nat}, Ch S W base EW EN tb top st b own → tb ∈ own
  | [], b, own, h => by
    obtain ⟨e, vw, vk, h, e2⟩ := h
    rw [e2, e]; simp
  | f :: st, b, own, h => by
    obtain ⟨vw, vk, b', own', h, hc, e2⟩ := h
    rw [e2]; simp [Ch.text hc]
end

end Go.Proofs.YtabhbcedldjjjaaGreatDoor.Ym
