/- Items in memory: a node of five cells, a slice of them, words of four cells; the blocks that hold them (S); kept while those blocks stay. -/
import Derived.Below
import Derived.Test.YtabhbcedldjjjaaGreatDoorJYa
namespace Go.Proofs.YtabhbcedldjjjaaGreatDoor.Ym
set_option linter.unusedSimpArgs false
set_option linter.unusedVariables false
open Go Go.RowKit Go.Proofs.YtabhbcedldjjjaaGreatDoor.Zm

/-- the blocks of S stay as they are -/
def Stay (S : Nat → Prop) (w w' : World) : Prop := ∀ b, S b → w'.heap[b]? = w.heap[b]?

theorem Stay.refl (S : Nat → Prop) (w : World) : Stay S w w := fun _ _ => rfl
theorem Stay.trans {S : Nat → Prop} {a b c : World} (h : Stay S a b) (k : Stay S b c) : Stay S a c := fun x hx => (k x hx).trans (h x hx)
theorem Stay.mono {S T : Nat → Prop} {a b : World} (h : Stay T a b) (hS : ∀ x, S x → T x) : Stay S a b := fun x hx => h x (hS x hx)

theorem Stay.cell {S : Nat → Prop} {w w' : World} (h : Stay S w w') {p : Addr} (hp : S p.block) : w'.cell? p = w.cell? p := by
  unfold World.cell?
  rw [h _ hp]

/-- four cells are a word -/
def WdAt (S : Nat → Prop) (W : World) (g o : Nat) (x : Wd) : Prop :=
  S g ∧ W.cell? ⟨g, o, none⟩ = some (.bool x.num) ∧ W.cell? ⟨g, o + 1, none⟩ = some (.int .i64 x.n) ∧ W.cell? ⟨g, o + 2, none⟩ = some (.string ⟨x.s.toArray⟩) ∧ W.cell? ⟨g, o + 3, none⟩ = some (.int .i64 x.a)

def WdsFrom (S : Nat → Prop) (W : World) (g : Nat) : Nat → List Wd → Prop
  | _, [] => True
  | o, x :: l => WdAt S W g o x ∧ WdsFrom S W g (o + 4) l

/-- a slice of words -/
def WdsV (S : Nat → Prop) (W : World) (v : Value) (l : List Wd) : Prop :=
  ∃ ptr cap, v = .slice ptr l.length cap ∧ (l = [] ∨ ∃ g o, ptr = some ⟨g, o, none⟩ ∧ WdsFrom S W g o l)

mutual
/-- five cells are an item -/
def NdAt (S : Nat → Prop) (W : World) (g o : Nat) : Nd → Prop
  | .mk nm a ws b ks => S g ∧ W.cell? ⟨g, o, none⟩ = some (.string ⟨nm.toArray⟩) ∧ W.cell? ⟨g, o + 1, none⟩ = some (.int .i64 a) ∧
    (∃ v, W.cell? ⟨g, o + 2, none⟩ = some v ∧ WdsV S W v ws) ∧ W.cell? ⟨g, o + 3, none⟩ = some (.bool b) ∧
    ∃ ptr cap, W.cell? ⟨g, o + 4, none⟩ = some (.slice ptr ks.length cap) ∧ (ks = [] ∨ ∃ g' o', ptr = some ⟨g', o', none⟩ ∧ NdsFrom S W g' o' ks)
def NdsFrom (S : Nat → Prop) (W : World) (g o : Nat) : List Nd → Prop
  | [] => True
  | n :: l => NdAt S W g o n ∧ NdsFrom S W g (o + 5) l
end

/-- a slice of items -/
def NdsV (S : Nat → Prop) (W : World) (v : Value) (l : List Nd) : Prop :=
  ∃ ptr cap, v = .slice ptr l.length cap ∧ (l = [] ∨ ∃ g o, ptr = some ⟨g, o, none⟩ ∧ NdsFrom S W g o l)

theorem WdAt.kept {S : Nat → Prop} {W W' : World} {g o : Nat} {x : Wd} (h : WdAt S W g o x) (k : Stay S W W') : WdAt S W' g o x := by
  obtain ⟨h0, h1, h2, h3, h4⟩ := h
  exact ⟨h0, (k.cell h0).trans h1, (k.cell h0).trans h2, (k.cell h0).trans h3, (k.cell h0).trans h4⟩

theorem WdsFrom.kept {S : Nat → Prop} {W W' : World} {g o : Nat} {l : List Wd} (h : WdsFrom S W g o l) (k : Stay S W W') : WdsFrom S W' g o l := by
  induction l generalizing o with
  | nil => trivial
  | cons x l ih => exact ⟨h.1.kept k, ih h.2⟩

theorem WdsV.kept {S : Nat → Prop} {W W' : World} {v : Value} {l : List Wd} (h : WdsV S W v l) (k : Stay S W W') : WdsV S W' v l := by
  obtain ⟨ptr, cap, e, h⟩ := h
  refine ⟨ptr, cap, e, ?_⟩
  rcases h with h | ⟨g, o, e, h⟩
  · exact .inl h
  · exact .inr ⟨g, o, e, h.kept k⟩

mutual
theorem NdAt.kept {S : Nat → Prop} {W W' : World} (k : Stay S W W') : ∀ {g o : Nat} {n : Nd}, NdAt S W g o n → NdAt S W' g o n
  | g, o, .mk nm a ws b ks, h => by
    simp only [NdAt] at h ⊢
    obtain ⟨h0, h1, h2, ⟨v, h3, hv⟩, h4, ptr, cap, h5, hk⟩ := h
    refine ⟨h0, (k.cell h0).trans h1, (k.cell h0).trans h2, ⟨v, (k.cell h0).trans h3, hv.kept k⟩, (k.cell h0).trans h4, ptr, cap, (k.cell h0).trans h5, ?_⟩
    rcases hk with hk | ⟨g', o', e, hk⟩
    · exact .inl hk
    · exact .inr ⟨g', o', e, NdsFrom.kept k hk⟩
theorem NdsFrom.kept {S : Nat → Prop} {W W' : World} (k : Stay S W W') : ∀ {g o : Nat} {l : List Nd}, NdsFrom S W g o l → NdsFrom S W' g o l
  | g, o, [], h => by simp [NdsFrom]
  | g, o, n :: l, h => by
    simp only [NdsFrom] at h ⊢
    exact ⟨NdAt.kept k h.1, NdsFrom.kept k h.2⟩
end

theorem NdsV.kept {S : Nat → Prop} {W W' : World} {v : Value} {l : List Nd} (h : NdsV S W v l) (k : Stay S W W') : NdsV S W' v l := by
  obtain ⟨ptr, cap, e, h⟩ := h
  refine ⟨ptr, cap, e, ?_⟩
  rcases h with h | ⟨g, o, e, h⟩
  · exact .inl h
  · exact .inr ⟨g, o, e, h.kept k⟩

/-! ### more blocks may hold them -/
theorem WdAt.mono {S T : Nat → Prop} {W : World} {g o : Nat} {x : Wd} (h : WdAt S W g o x) (k : ∀ b, S b → T b) : WdAt T W g o x := ⟨k _ h.1, h.2⟩
theorem WdsFrom.mono {S T : Nat → Prop} {W : World} {g o : Nat} {l : List Wd} (h : WdsFrom S W g o l) (k : ∀ b, S b → T b) : WdsFrom T W g o l := by
  induction l generalizing o with
  | nil => trivial
  | cons x l ih => exact ⟨h.1.mono k, ih h.2⟩
theorem WdsV.mono {S T : Nat → Prop} {W : World} {v : Value} {l : List Wd} (h : WdsV S W v l) (k : ∀ b, S b → T b) : WdsV T W v l := by
  obtain ⟨ptr, cap, e, h⟩ := h
  refine ⟨ptr, cap, e, ?_⟩
  rcases h with h | ⟨g, o, e, h⟩
  · exact .inl h
  · exact .inr ⟨g, o, e, h.mono k⟩

mutual
theorem NdAt.mono {S T : Nat → Prop} {W : World} (k : ∀ b, S b → T b) : ∀ {g o : Nat} {n : Nd}, NdAt S W g o n → NdAt T W g o n
  | g, o, .mk nm a ws b ks, h => by
    simp only [NdAt] at h ⊢
    obtain ⟨h0, h1, h2, ⟨v, h3, hv⟩, h4, ptr, cap, h5, hk⟩ := h
    refine ⟨k _ h0, h1, h2, ⟨v, h3, hv.mono k⟩, h4, ptr, cap, h5, ?_⟩
    rcases hk with hk | ⟨g', o', e, hk⟩
    · exact .inl hk
    · exact .inr ⟨g', o', e, NdsFrom.mono k hk⟩
theorem NdsFrom.mono {S T : Nat → Prop} {W : World} (k : ∀ b, S b → T b) : ∀ {g o : Nat} {l : List Nd}, NdsFrom S W g o l → NdsFrom T W g o l
  | g, o, [], h => by simp [NdsFrom]
  | g, o, n :: l, h => by
    simp only [NdsFrom] at h ⊢
    exact ⟨NdAt.mono k h.1, NdsFrom.mono k h.2⟩
end

theorem NdsV.mono {S T : Nat → Prop} {W : World} {v : Value} {l : List Nd} (h : NdsV S W v l) (k : ∀ b, S b → T b) : NdsV T W v l := by
  obtain ⟨ptr, cap, e, h⟩ := h
  refine ⟨ptr, cap, e, ?_⟩
  rcases h with h | ⟨g, o, e, h⟩
  · exact .inl h
  · exact .inr ⟨g, o, e, h.mono k⟩

/-- what lies below a mark stays while the world grows above it -/
theorem Stay.below {m : Nat} {w w' : World} (h : Below m w w') : Stay (· < m) w w' := fun b hb => h.block b hb

theorem NdsFrom.get {S : Nat → Prop} {W : World} {g o : Nat} {l : List Nd} (h : NdsFrom S W g o l) (i : Nat) (hi : i < l.length) : NdAt S W g (o + 5 * i) l[i] := by
  induction l generalizing o i with
  | nil => exact absurd hi (by simp)
  | cons n l ih =>
    simp only [NdsFrom] at h
    cases i with
    | zero => exact h.1
    | succ i =>
      have := ih h.2 i (by simpa using hi)
      rw [show o + 5 * (i + 1) = o + 5 + 5 * i by omega]
      exact this

theorem NdsFrom.snoc {S : Nat → Prop} {W : World} {g o : Nat} {l : List Nd} {n : Nd} (h : NdsFrom S W g o l) (hn : NdAt S W g (o + 5 * l.length) n) : NdsFrom S W g o (l ++ [n]) := by
  induction l generalizing o with
  | nil => simp only [List.nil_append, NdsFrom]; exact ⟨hn, trivial⟩
  | cons m l ih =>
    simp only [List.cons_append, NdsFrom] at h ⊢
    refine ⟨h.1, ih h.2 ?_⟩
    rw [show o + 5 + 5 * l.length = o + 5 * (m :: l).length by simp; omega]
    exact hn

theorem WdsFrom.get {S : Nat → Prop} {W : World} {g o : Nat} {l : List Wd} (h : WdsFrom S W g o l) (i : Nat) (hi : i < l.length) : WdAt S W g (o + 4 * i) l[i] := by
  induction l generalizing o i with
  | nil => exact absurd hi (by simp)
  | cons n l ih =>
    cases i with
    | zero => exact h.1
    | succ i =>
      have := ih h.2 i (by simpa using hi)
      rw [show o + 4 * (i + 1) = o + 4 + 4 * i by omega]
      exact this

theorem WdsFrom.snoc {S : Nat → Prop} {W : World} {g o : Nat} {l : List Wd} {x : Wd} (h : WdsFrom S W g o l) (hn : WdAt S W g (o + 4 * l.length) x) : WdsFrom S W g o (l ++ [x]) := by
  induction l generalizing o with
  | nil => exact ⟨hn, trivial⟩
  | cons m l ih =>
    refine ⟨h.1, ih h.2 ?_⟩
    rw [show o + 4 + 4 * l.length = o + 4 * (m :: l).length by simp; omega]
    exact hn

end Go.Proofs.YtabhbcedldjjjaaGreatDoor.Ym
