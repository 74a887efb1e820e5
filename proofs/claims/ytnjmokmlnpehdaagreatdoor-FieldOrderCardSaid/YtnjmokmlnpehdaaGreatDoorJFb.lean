/- Texts that are joined: FrameT, Zrow, Ztok, Zapp, Zmap, Zcode2, Zcut, Yput. -/
import Derived.WalkKit
import Derived.OpenShut
import Derived.ChangeSame
import Derived.Deep.Slices
import Derived.Deep.Fields
import Derived.SliceStrings
import Derived.Test.YtnjmokmlnpehdaaGreatDoorJP
import Derived.Test.YtnjmokmlnpehdaaGreatDoorJQ
import Derived.Test.YtnjmokmlnpehdaaGreatDoorJK
import Derived.Test.YtnjmokmlnpehdaaGreatDoorJZ
import Derived.Test.YtnjmokmlnpehdaaGreatDoorProg
import Derived.OwnWalk
import Derived.Maps.StringElems
import Derived.Maps.OwnOps
import Derived.Test.YtnjmokmlnpehdaaGreatDoorShelf
import Derived.Lib.SmallJoins
import Derived.Laws.OwnMore
namespace Go.Proofs.YtnjmokmlnpehdaaGreatDoor
set_option linter.unusedSimpArgs false
set_option linter.unusedVariables false
open Go.RowKit Go.ChangeShapes Go.WideShapes Go.Deep

structure TkI where
  k : Int
  a : Int
  n : Int
  s : ByteArray

/-- the slice's elements are z 0, z 1, .., and they lie in one block that is there -/
def TokensOf (w : World) (a : Option Addr) (len cap : Nat) (z : Nat → TkI) : Prop :=
  len ≤ cap ∧ cap ≤ maxLen ∧ (∀ i, i < len → (Lit.int .i64 (z i).k).wf = true ∧ (Lit.int .i64 (z i).a).wf = true ∧ (Lit.int .i64 (z i).n).wf = true ∧ (z i).s.size ≤ maxLen) ∧
  (len = 0 ∨ ∃ b off, a = some ⟨b, off, none⟩ ∧ b < w.heap.size ∧ ∀ i, i < len →
    w.cell? ⟨b, off + i * 4, none⟩ = some (.int .i64 (z i).k) ∧ w.cell? ⟨b, off + (i * 4 + 1), none⟩ = some (.int .i64 (z i).a) ∧
    w.cell? ⟨b, off + (i * 4 + 2), none⟩ = some (.int .i64 (z i).n) ∧ w.cell? ⟨b, off + (i * 4 + 3), none⟩ = some (.string (z i).s))

section
variable {H : Type} {enc : TypeId × Value → H} {P : Program} {w : World} {base : Nat} {spare : Nat → Bool} {held : Bool}

theorem token_open {e : TypeId} {f0 f1 f2 f3 : Field} {n : Nat} {cs : List Value} {y : DataW H × List MemPlace} {p : Addr} (he : P.underlying e = some (.struct #[f0, f1, f2, f3]))
    (hone : oneCellFields P #[f0, f1, f2, f3] = true) (hC : P.cellsOf e = 4)
    (h0 : P.underlying f0.type = some (.int .i64)) (h1 : P.underlying f1.type = some (.int .i64)) (h2 : P.underlying f2.type = some (.int .i64)) (h3 : P.underlying f3.type = some .string)
    (hc : w.cells? base p (P.cellsOf e) = some cs) (h : DataW.trod enc P w base spare held n e cs = some y) :
    ∃ z : TkI, ((Lit.int .i64 z.k).wf = true ∧ (Lit.int .i64 z.a).wf = true ∧ (Lit.int .i64 z.n).wf = true ∧ z.s.size ≤ maxLen) ∧
      w.cell? (p.add 0) = some (.int .i64 z.k) ∧ w.cell? (p.add 1) = some (.int .i64 z.a) ∧ w.cell? (p.add 2) = some (.int .i64 z.n) ∧ w.cell? (p.add 3) = some (.string z.s) := by
  rw [hC] at hc
  obtain ⟨_, hcl, hat⟩ := World.cells?_some hc
  match cs, hcl with
  | [c0, c1, c2, c3], _ =>
    obtain ⟨xs, m, _, _, _, hlen, hg⟩ := DataW.trod_struct he h
    obtain ⟨o0, k0⟩ := hone_of hone 0 f0 rfl
    obtain ⟨o1, k1⟩ := hone_of hone 1 f1 rfl
    obtain ⟨o2, k2⟩ := hone_of hone 2 f2 rfl
    obtain ⟨o3, k3⟩ := hone_of hone 3 f3 rfl
    match xs, hlen with
    | [y0, y1, y2, y3], _ =>
      have g0 : DataW.trod enc P w base spare held m f0.type [c0] = some y0 := by simpa [o0, k0] using hg 0 f0 rfl
      have g1 : DataW.trod enc P w base spare held m f1.type [c1] = some y1 := by simpa [o1, k1] using hg 1 f1 rfl
      have g2 : DataW.trod enc P w base spare held m f2.type [c2] = some y2 := by simpa [o2, k2] using hg 2 f2 rfl
      have g3 : DataW.trod enc P w base spare held m f3.type [c3] = some y3 := by simpa [o3, k3] using hg 3 f3 rfl
      obtain ⟨i0, e0, _, w0⟩ := DataW.trod_int h0 g0
      obtain ⟨i1, e1, _, w1⟩ := DataW.trod_int h1 g1
      obtain ⟨i2, e2, _, w2⟩ := DataW.trod_int h2 g2
      obtain ⟨s, e3, _, w3⟩ := DataW.trod_string h3 g3
      simp only [List.cons.injEq, and_true] at e0 e1 e2 e3
      subst e0; subst e1; subst e2; subst e3
      exact ⟨⟨i0, i1, i2, s⟩, ⟨w0, w1, w2, w3⟩, hat 0 (by omega), hat 1 (by omega), hat 2 (by omega), hat 3 (by omega)⟩

theorem tokens_open {t e : TypeId} {f0 f1 f2 f3 : Field} {fuel : Nat} {cs : List Value} {x : DataW H × List MemPlace} {a : Option Addr} {len cap : Nat} (ht : P.underlying t = some (.slice e))
    (he : P.underlying e = some (.struct #[f0, f1, f2, f3])) (hone : oneCellFields P #[f0, f1, f2, f3] = true) (hC : P.cellsOf e = 4)
    (h0 : P.underlying f0.type = some (.int .i64)) (h1 : P.underlying f1.type = some (.int .i64)) (h2 : P.underlying f2.type = some (.int .i64)) (h3 : P.underlying f3.type = some .string)
    (hcs : cs = [.slice a len cap]) (h : DataW.trod enc P w base spare held fuel t cs = some x) : ∃ z, TokensOf w a len cap z := by
  rcases open_slice ht h with ⟨e1, _⟩ | ⟨p, l, c, m, n, D, Pl, e1, _, hl, hm, hmm, _, hi⟩
  · rw [hcs] at e1
    simp at e1
    obtain ⟨rfl, rfl, rfl⟩ := e1
    exact ⟨fun _ => ⟨0, 0, 0, ByteArray.empty⟩, Nat.le_refl _, Nat.zero_le _, fun i h => by omega, .inl rfl⟩
  · rw [hcs] at e1
    simp at e1
    obtain ⟨rfl, rfl, rfl⟩ := e1
    have hml : len ≤ m := by rw [hmm]; split <;> omega
    have each : ∀ i, ∃ z : TkI, i < len → ((Lit.int .i64 z.k).wf = true ∧ (Lit.int .i64 z.a).wf = true ∧ (Lit.int .i64 z.n).wf = true ∧ z.s.size ≤ maxLen) ∧
        w.cell? ((p.add (i * 4)).add 0) = some (.int .i64 z.k) ∧ w.cell? ((p.add (i * 4)).add 1) = some (.int .i64 z.a) ∧ w.cell? ((p.add (i * 4)).add 2) = some (.int .i64 z.n) ∧ w.cell? ((p.add (i * 4)).add 3) = some (.string z.s) := by
      intro i
      by_cases h : i < len
      · obtain ⟨cs', hc, hd⟩ := hi i (by omega)
        obtain ⟨z, hz⟩ := token_open he hone hC h0 h1 h2 h3 hc hd
        rw [hC] at hz
        exact ⟨z, fun _ => hz⟩
      · exact ⟨⟨0, 0, 0, ByteArray.empty⟩, fun g => absurd g h⟩
    obtain ⟨z, hz⟩ := Classical.axiomOfChoice each
    refine ⟨z, hl, hm, fun i h => (hz i h).1, ?_⟩
    rcases Nat.eq_zero_or_pos len with g | g
    · exact .inl g
    · obtain ⟨b, off, spot⟩ := p
      have c0 := (hz 0 g).2.1
      have hspot : spot = none := by simpa [Addr.add] using World.cell?_spot c0
      subst hspot
      refine .inr ⟨b, off, rfl, ?_, fun i h => ?_⟩
      · have := World.block_lt_of_cell? w _ c0
        simpa [Addr.add] using this
      · obtain ⟨_, q0, q1, q2, q3⟩ := hz i h
        rw [Go.WideShapes.add_plain, Go.WideShapes.add_plain] at q0 q1 q2 q3
        rw [Nat.add_zero] at q0
        exact ⟨q0, by rw [← Nat.add_assoc]; exact q1, by rw [← Nat.add_assoc]; exact q2, by rw [← Nat.add_assoc]; exact q3⟩
end
end Go.Proofs.YtnjmokmlnpehdaaGreatDoor

namespace Go.Proofs.YtnjmokmlnpehdaaGreatDoor.Zk
set_option linter.unusedSimpArgs false
set_option linter.unusedVariables false
open Go.RowKit Go.Proofs.YtnjmokmlnpehdaaGreatDoor.Zm Go.Proofs.YtnjmokmlnpehdaaGreatDoor.Rk

/-- a token's cells -/
def tkv (t : Tk) : List Value := [.int .i64 t.k, .int .i64 t.a, .int .i64 t.n, .string ⟨t.s.toArray⟩]
def tks (a : List Tk) : List Value := a.flatMap tkv
theorem tks_snoc (a : List Tk) (t : Tk) : tks (a ++ [t]) = tks a ++ tkv t := by simp [tks]
theorem tks_len (a : List Tk) : (tks a).length = a.length * 4 := by
  induction a with
  | nil => rfl
  | cons t a ih => simp only [tks, List.flatMap_cons, List.length_append, List.length_cons] at *; rw [ih]; simp [tkv]; omega

theorem tks_at (a : List Tk) (i j : Nat) (h : i < a.length) (hj : j < 4) : (tks a)[i * 4 + j]? = (tkv a[i])[j]? := by
  induction a generalizing i with
  | nil => simp at h
  | cons t a ih =>
    show (tkv t ++ tks a)[i * 4 + j]? = _
    cases i with
    | zero =>
      rw [List.getElem?_append_left (by simp [tkv]; omega)]
      simp
    | succ i =>
      rw [List.getElem?_append_right (by simp [tkv]; omega)]
      simp only [List.length_cons] at h
      rw [show (i + 1) * 4 + j - (tkv t).length = i * 4 + j by simp [tkv]; omega, ih i (by omega)]
      simp

/-- the call's own slice of tokens, which grows -/
structure OneT (EL : TypeId) (w W : World) (v : Value) (a : List Tk) : Prop where
  below : Below w.heap.size w W
  a : W.ownsRow w.heap.size EL 4 v a.length (tks a)
section
variable {EL : TypeId} {w W w1 : World} {v : Value} {a : List Tk}
theorem OneT.start (EL : TypeId) (w : World) (h : Below w.heap.size w W) : OneT EL w W (.slice none 0 0) [] := ⟨h, World.ownsRow_nil _ _ _ _⟩
theorem owns_belowT {base k : Nat} {xs : List Value} (h : W.ownsRow base EL 4 v k xs) (hb : Below W.heap.size W w1) : w1.ownsRow base EL 4 v k xs :=
  h.kept (row := none) ⟨hb.os, hb.tape, hb.output, hb.size, fun i hi _ => hb.block i hi⟩ (by cases v.ownBlock <;> simp)
theorem owns_still {base k z : Nat} {xs : List Value} (h : W.ownsRow base EL z v k xs) (hg : W.grownBy w1 none) : w1.ownsRow base EL z v k xs :=
  h.kept (row := none) hg (by cases v.ownBlock <;> simp)
theorem OneT.kept (x : OneT EL w W v a) (hb : Below W.heap.size W w1) : OneT EL w w1 v a := ⟨Pr.bthen x.below hb, owns_belowT x.a hb⟩
theorem own_atT {base x n : Nat} {xs : List Value} (h : W.ownsRow base EL 4 v n xs) (e : v.ownBlock = some x) : base ≤ x := by
  rcases h.2 with ⟨h1, _⟩ | ⟨g, cap, cur, hv, hb, hg, _⟩
  · rw [h1] at e; cases e
  · rw [hv] at e
    have : g = x := by simpa [Value.ownBlock] using e
    subst this; exact hb
theorem OneT.next {W2 : World} {o1 : Obj} {g1 c1 : Nat} {t : Tk} (X : OneT EL w W v a)
    (h1 : W2.ownsRow w.heap.size EL 4 (.slice (some ⟨g1, 0, none⟩) (a.length + 1) c1) (a.length + 1) (tks a ++ tkv t)) (r1 : (W.alloc o1).grownBy W2 v.ownBlock) :
    OneT EL w W2 (.slice (some ⟨g1, 0, none⟩) (a.length + 1) c1) (a ++ [t]) :=
  ⟨below_grown (Pr.balloc X.below o1) r1 (fun x e => own_atT X.a e) (Nat.le_refl _), by rw [tks_snoc]; simpa using h1⟩
theorem OneT.grow {W2 : World} {o1 : Obj} {t : Tk} {v2 : Value} (X : OneT EL w W v a)
    (h1 : W2.ownsRow w.heap.size EL 4 v2 (a.length + 1) (tks a ++ tkv t)) (r1 : (W.alloc o1).grownBy W2 v.ownBlock) : OneT EL w W2 v2 (a ++ [t]) :=
  ⟨below_grown (Pr.balloc X.below o1) r1 (fun x e => own_atT X.a e) (Nat.le_refl _), by rw [tks_snoc]; simpa using h1⟩
theorem keeps_other {base : Nat} {v : Value} {n b : Nat} {xs : List Value} {W2 : World} {o : Obj} {z : Nat} (hw : W.ownsRow base EL z v n xs) (ho : W.heap[b]? = some o) (hm : ∀ c T r, o ≠ .cells c T r) (r1 : W.grownBy W2 v.ownBlock) : W2.heap[b]? = some o := by
  rw [r1.block b (Array.getElem?_eq_some_iff.1 ho).1 (fun e => ?_)]
  · exact ho
  · rcases hw.2 with ⟨h1, _⟩ | ⟨g, cap, cur, hv, _, hc, _⟩
    · rw [h1] at e; cases e
    · rw [hv] at e
      have e : b = g := by simpa [Value.ownBlock] using e
      subst e
      rw [hc] at ho
      injection ho with ho
      exact hm _ _ _ ho.symm
theorem OneT.form (X : OneT EL w W v a) : ∃ p cap, v = .slice p a.length cap := by
  rcases X.a.2 with ⟨h1, h2⟩ | ⟨g, cap, cur, hv, _⟩
  · have : a.length = 0 := by
      have := tks_len a
      simp_all
    exact ⟨none, 0, by rw [h1, this]⟩
  · exact ⟨_, cap, hv⟩

/-- a row of tokens that lies somewhere and is frozen nowhere -/
structure RowT (W : World) (g : Nat) (a : List Tk) : Prop where
  lt : g < W.heap.size
  at_ : ∀ i (h : i < a.length) j, j < 4 → W.cell? ⟨g, i * 4 + j, none⟩ = (tkv a[i])[j]?
theorem RowT.kept {g : Nat} (p : RowT W g a) (hb : Below W.heap.size W w1) : RowT w1 g a :=
  ⟨Nat.lt_of_lt_of_le p.lt hb.size, fun i h j hj => (hb.cell p.lt).trans (p.at_ i h j hj)⟩
theorem RowT.of_owns {base g cap : Nat} {e : TypeId} (h : W.ownsRow base e 4 (.slice (some ⟨g, 0, none⟩) a.length cap) a.length (tks a)) (hn : 0 < a.length) : RowT W g a := by
  refine ⟨?_, fun i hi j hj => ?_⟩
  · obtain ⟨g', cap', e1, _, hlt⟩ := h.form hn
    cases e1; exact hlt
  · rw [h.cellAt (i * 4 + j) (by omega), tks_at a i j hi hj]
end

end Go.Proofs.YtnjmokmlnpehdaaGreatDoor.Zk

namespace Go.Proofs.YtnjmokmlnpehdaaGreatDoor.Zk
set_option linter.unusedSimpArgs false
set_option linter.unusedVariables false
open Go.RowKit Go.Proofs.YtnjmokmlnpehdaaGreatDoor.Zm Go.Proofs.YtnjmokmlnpehdaaGreatDoor.Rk Go.Proofs.YtnjmokmlnpehdaaGreatDoor.Bn

set_option maxHeartbeats 1000000

/-- a token of whole numbers, as the frames tell it -/
def tkI (t : Tk) : TkI := ⟨t.k, t.a, t.n, ⟨t.s.toArray⟩⟩

/-- v's n elements are z 0, z 1, .. -/
def TokAt (W : World) (v : Value) (n : Nat) (z : Nat → TkI) : Prop :=
  ∃ ptr cap, v = .slice ptr n cap ∧ (n = 0 ∨ ∃ g off, ptr = some ⟨g, off, none⟩ ∧ g < W.heap.size ∧ ∀ i, i < n →
    W.cell? ⟨g, off + i * 4, none⟩ = some (.int .i64 (z i).k) ∧ W.cell? ⟨g, off + i * 4 + 1, none⟩ = some (.int .i64 (z i).a) ∧
    W.cell? ⟨g, off + i * 4 + 2, none⟩ = some (.int .i64 (z i).n) ∧ W.cell? ⟨g, off + i * 4 + 3, none⟩ = some (.string (z i).s))

theorem TokAt.kept {W w1 : World} {v : Value} {n : Nat} {z : Nat → TkI} (h : TokAt W v n z) (hb : Below W.heap.size W w1) : TokAt w1 v n z := by
  obtain ⟨ptr, cap, rfl, h⟩ := h
  refine ⟨ptr, cap, rfl, ?_⟩
  rcases h with h | ⟨g, off, rfl, hg, hc⟩
  · exact .inl h
  · exact .inr ⟨g, off, rfl, Nat.lt_of_lt_of_le hg hb.size, fun i hi => by
      obtain ⟨c0, c1, c2, c3⟩ := hc i hi
      exact ⟨(hb.cell hg).trans c0, (hb.cell hg).trans c1, (hb.cell hg).trans c2, (hb.cell hg).trans c3⟩⟩

theorem TokAt.of_frame {w : World} {a : Option Addr} {len cap : Nat} {z : Nat → TkI} (h : TokensOf w a len cap z) : TokAt w (.slice a len cap) len z := by
  obtain ⟨_, _, _, h⟩ := h
  refine ⟨a, cap, rfl, ?_⟩
  rcases h with h | ⟨b, off, h1, h2, h3⟩
  · exact .inl h
  · exact .inr ⟨b, off, h1, h2, fun i hi => by obtain ⟨c0, c1, c2, c3⟩ := h3 i hi; simp only [← Nat.add_assoc] at c1 c2 c3; exact ⟨c0, c1, c2, c3⟩⟩

theorem TokAt.of_own {EL : TypeId} {w W : World} {v : Value} {a : List Tk} (h : OneT EL w W v a) : TokAt W v a.length (fun i => tkI (a.getD i ⟨0, 0, 0, []⟩)) := by
  rcases Nat.eq_zero_or_pos a.length with h0 | h0
  · obtain ⟨ptr, cap, rfl⟩ := h.form
    exact ⟨ptr, cap, rfl, .inl h0⟩
  · obtain ⟨g, cap, rfl, hg, lt1⟩ := h.a.form h0
    have R := RowT.of_owns h.a h0
    refine ⟨_, _, rfl, .inr ⟨g, 0, rfl, R.lt, fun i hi => ?_⟩⟩
    have e : a.getD i ⟨0, 0, 0, []⟩ = a[i] := by simp [List.getD, hi]
    simp only [Nat.zero_add, e]
    exact ⟨R.at_ i hi 0 (by omega), R.at_ i hi 1 (by omega), R.at_ i hi 2 (by omega), R.at_ i hi 3 (by omega)⟩

/-- two tokens compared -/
theorem tok_neq (a b c a' b' c' : Int) (s s' : ByteArray) (w : World) :
    (binOp .neq 80 (.agg #[.int .i64 a, .int .i64 b, .int .i64 c, .string s]) (.agg #[.int .i64 a', .int .i64 b', .int .i64 c', .string s'])).run Tryz.prog w = .ok (.bool (!decide (a = a' ∧ b = b' ∧ c = c' ∧ s = s'))) w := by
  by_cases h1 : a = a'
  · by_cases h2 : b = b'
    · by_cases h3 : c = c'
      · by_cases h4 : s = s'
        · subst h1 h2 h3 h4; simp [go_sem]
        · simp [go_sem, h1, h2, h3, h4]; intro e; exact h4 (by rw [ByteArray.toList_eq, ByteArray.toList_eq] at e; exact ByteArray.ext (Array.toList_inj.1 e))
      · simp [go_sem, h1, h2, h3]
    · simp [go_sem, h1, h2]
  · simp [go_sem, h1]

/-- a token but for its place -/
def bareI (t : TkI) : Int × Int × ByteArray := (t.k, t.n, t.s)

end Go.Proofs.YtnjmokmlnpehdaaGreatDoor.Zk

namespace Go.Proofs.YtnjmokmlnpehdaaGreatDoor.Zk
set_option linter.unusedSimpArgs false
set_option linter.unusedVariables false
open Go.RowKit Go.Proofs.YtnjmokmlnpehdaaGreatDoor.Zm Go.Proofs.YtnjmokmlnpehdaaGreatDoor.Rk

/-- slice u has m elements of so many cells, which are news -/
def Holds (w : World) (size : Nat) (u : Value) (m : Nat) (news : List Value) : Prop :=
  ∃ A c, u = .slice A m c ∧ news.length = m * size ∧ (∀ x ∈ news, x.oneCell' = true) ∧ ((A = none ∧ m = 0) ∨ ∃ ad, A = some ad ∧ ∀ j x, news[j]? = some x → w.cell? (ad.add j) = some x)

theorem wpList_put_behind {P : Program} {w : World} {ops : Array Oper} {rest : List Oper} {o : Oper} {a : Act} {Q : Exit → Act → World → Prop} (hgd : Region.wanted o (yielded ops a.tmps) = true) (s x : Operand) (t : TypeId)
    (ho : o.op = .call { callee := .builtin .append, args := #[s, x], argTypes := #[t, t] })
    (base : Nat) (e : TypeId) (i : TypeInfo) (z : Value) (size bytes : Nat) (ht : P.underlying t = some (.slice e)) (hi : P.info? e = some i) (hz : i.zero = some z)
    (hsize : i.size = size) (hby : i.bytes = bytes) (hzs : z.cells.size = size) (hsz : 0 < size)
    (v : Value) (n : Nat) (xs : List Value) (hs : a.eval s = v) (hown : w.ownsRow base e size v n xs)
    (u : Value) (m : Nat) (news : List Value) (hx : a.eval x = u) (hr : Holds w size u m news)
    (h63 : n + m ≤ maxLen) (hbytes : (n + m) * bytes ≤ 140737488355328) (hbase : base ≤ w.heap.size)
    (h : ∀ v' w', w'.ownsRow base e size v' (n + m) (xs ++ news) → w.grownBy w' v.ownBlock → wpList P ops Q rest (a.put o.dst v') w') : wpList P ops Q (o :: rest) a w := by
  obtain ⟨A, c, rfl, hl, h1, hA⟩ := hr
  rcases hA with ⟨rfl, rfl⟩ | ⟨ad, rfl, hc⟩
  · obtain rfl : news = [] := List.eq_nil_of_length_eq_zero (by simpa using hl)
    have run : (Builtin.append_ #[t, t] o.type #[v, .slice none 0 c]).run P w = .ok v w := by
      rcases hown.2 with ⟨hv, hn⟩ | ⟨g, cap, cur, hv, _, _, hnc, _⟩
      · subst hv; simp [Builtin.append_, run_underlying ht, sizeOf, typeInfo, hi, Builtin.lenOf, Builtin.firstCells]
      · subst hv; simp [Builtin.append_, run_underlying ht, sizeOf, typeInfo, hi, Builtin.lenOf, Builtin.firstCells, hnc, storeCells]
    refine wpList_step fun K hK => ?_
    simp only [hgd, if_true]
    unfold Oper.wp execOp
    simp only [ho, resolve, invoke, builtin, Sem.run_bind, Sem.run_pure, Result.andThen_ok, List.map_toArray, List.map_cons, List.map_nil, hs, hx, run]
    exact hK _ _ (h v w (by simpa using hown) (World.grownBy.refl w _))
  · refine wpList_step fun K hK => ?_
    simp only [hgd, if_true]
    exact wp_append_own w s x t ho base e i z size bytes ht hi hz hsize hby hzs hsz v n xs hs hown ad m c news hx hl hc h1 h63 hbytes hbase (fun v' w' h2 h3 _ => hK _ _ (h v' w' h2 h3))

theorem one_tks (a : List Tk) : ∀ x ∈ tks a, x.oneCell' = true := by
  intro x hx
  obtain ⟨t, _, ht⟩ := List.mem_flatMap.1 hx
  simp [tkv] at ht
  rcases ht with rfl | rfl | rfl | rfl <;> rfl

theorem Holds.of_own {EL : TypeId} {W : World} {base : Nat} {v : Value} {a : List Tk} (h : W.ownsRow base EL 4 v a.length (tks a)) : Holds W 4 v a.length (tks a) := by
  rcases h.2 with ⟨hv, hn⟩ | ⟨g, cap, cur, hv, _, hc, h1, h2, h3, h4⟩
  · exact ⟨none, 0, by rw [hv, hn], by rw [tks_len], one_tks a, .inl ⟨rfl, hn⟩⟩
  · refine ⟨some ⟨g, 0, none⟩, cap, hv, by rw [tks_len], one_tks a, .inr ⟨_, rfl, fun j x hj => ?_⟩⟩
    subst hv
    have hj' : j < a.length * 4 := by rw [← tks_len]; exact (List.getElem?_eq_some_iff.1 hj).1
    have := h.cellAt j hj'
    rw [← hj, ← this]
    unfold Addr.add
    by_cases e : j = 0 <;> simp [e]

theorem TokAt.of_row {EL : TypeId} {W : World} {base : Nat} {v : Value} {a : List Tk} (h : W.ownsRow base EL 4 v a.length (tks a)) : TokAt W v a.length (fun i => tkI (a.getD i ⟨0, 0, 0, []⟩)) := by
  rcases Nat.eq_zero_or_pos a.length with h0 | h0
  · rcases h.2 with ⟨hv, hn⟩ | ⟨g, cap, cur, hv, _⟩
    · exact ⟨none, 0, by rw [hv, hn], .inl h0⟩
    · exact ⟨_, _, hv, .inl h0⟩
  · obtain ⟨g, cap, rfl, hg, lt1⟩ := h.form h0
    have R := RowT.of_owns h h0
    refine ⟨_, _, rfl, .inr ⟨g, 0, rfl, R.lt, fun i hi => ?_⟩⟩
    have e : a.getD i ⟨0, 0, 0, []⟩ = a[i] := by simp [List.getD, hi]
    simp only [Nat.zero_add, e]
    exact ⟨R.at_ i hi 0 (by omega), R.at_ i hi 1 (by omega), R.at_ i hi 2 (by omega), R.at_ i hi 3 (by omega)⟩

theorem bare_tk {a c : List Tk} (h : c.map bare = a.map bare) : c.length = a.length ∧ ∀ i, i < c.length → bareI (tkI (c.getD i ⟨0, 0, 0, []⟩)) = bareI (tkI (a.getD i ⟨0, 0, 0, []⟩)) := by
  have hl : c.length = a.length := by have := congrArg List.length h; simpa using this
  refine ⟨hl, fun i hi => ?_⟩
  have := congrArg (fun l => l[i]?) h
  simp only [List.getElem?_map, List.getElem?_eq_getElem hi, List.getElem?_eq_getElem (show i < a.length by omega), Option.map_some] at this
  injection this with this
  have e1 : c.getD i ⟨0, 0, 0, []⟩ = c[i] := by simp [List.getD, hi]
  have e2 : a.getD i ⟨0, 0, 0, []⟩ = a[i]'(by omega) := by simp [List.getD, show i < a.length by omega]
  rw [e1, e2]
  unfold bare at this
  injection this with t1 t2
  injection t2 with t2 t3
  simp [bareI, tkI, t1, t2, t3]

theorem tks_append (a b : List Tk) : tks (a ++ b) = tks a ++ tks b := by simp [tks]

end Go.Proofs.YtnjmokmlnpehdaaGreatDoor.Zk

namespace Go.Proofs.YtnjmokmlnpehdaaGreatDoor.Zp
set_option linter.unusedSimpArgs false
set_option linter.unusedVariables false
open Go.RowKit Go.Maps Go.Proofs.YtnjmokmlnpehdaaGreatDoor.Zm Go.Proofs.YtnjmokmlnpehdaaGreatDoor.Zr

set_option maxHeartbeats 1000000

/-- a literal's entry -/
theorem wpList_insert_own {H : Type} {P : Program} (w : World) {ops : Array Oper} {rest : List Oper} {o : Oper} {a : Act} {Q : Exit → Act → World → Prop}
    (hg : o.guard = none) (m x v : Operand) (t : TypeId) (hop : o.op = Op.insert t m x v)
    (k e : TypeId) (K : Keyed P k) (ht : P.underlying t = some (.map k e)) (R : Value → Option (DataW H × List MemPlace)) (b n : Nat) (D : DataW H)
    (hm : a.eval m = .map (some b)) (hown : w.ownsMap P k R b n D) (hn : n < maxLen) (key val : Value) (kl : Lit) (hx : a.eval x = key) (hv : a.eval v = val) (hkey : keyOf P k key = some kl)
    (d : DataW H) (ps : List MemPlace) (hval : R val = some (d, ps))
    (hK : ∀ w', w'.ownsMap P k R b (n + 1) (D.put kl d) → w.grownBy w' (some b) → wpList P ops Q rest (a.put o.dst undef) w') :
    wpList P ops Q (o :: rest) a w := by
  refine wpList_plain hg fun K' hK' => ?_
  obtain ⟨w', hrun, r1, r2⟩ := hown.update K ht hn hkey hval
  unfold Oper.wp
  simp [execOp, hop, hm, hx, hv, hrun, Result.andThen]
  exact hK' _ _ (hK w' r1 r2)

/-- a look-up at elements that are texts -/
theorem wpList_lookup_own_string {H : Type} {P : Program} (w : World) {ops : Array Oper} {rest : List Oper} {o : Oper} {a : Act} {Q : Exit → Act → World → Prop}
    (hg : o.guard = none) (m x : Operand) (t : TypeId) (hop : o.op = Op.lookup t m x false)
    (k e : TypeId) (K : Keyed P k) (ht : P.underlying t = some (.map k e)) (he : P.underlying e = some .string) (hz : (zeroValue e).run P w = .ok (.string ⟨#[]⟩) w) (b n : Nat) (D : DataW H)
    (hm : a.eval m = .map (some b)) (hown : w.ownsMap P k (plainElem P e) b n D) (key : Value) (kl : Lit) (hx : a.eval x = key) (hkey : keyOf P k key = some kl)
    (hK : ∀ s : ByteArray, D.atKey kl (.lit (.string [])) = .lit (.string s.data.toList) → wpList P ops Q rest (a.put o.dst (.string s)) w) :
    wpList P ops Q (o :: rest) a w := by
  refine wpList_plain hg fun K' hK' => ?_
  obtain ⟨v, ps, hrun, hv⟩ := hown.lookup K ht hz (plainElem_string he (show (⟨#[]⟩ : ByteArray).size ≤ maxLen by decide)) hkey
  obtain ⟨s, rfl, hs, hws⟩ := plainElem_string_inv he hv
  unfold Oper.wp
  simp [execOp, hop, hm, hx, hrun, Result.andThen]
  exact hK' _ _ (hK s (by simpa using (Prod.mk.inj hs).1))

theorem law8 : Keyed Tryz.prog 5 := int_keyed Tryz.underlying5
theorem lawI : Keyed Tryz.prog 3 := int_keyed Tryz.underlying3
theorem zeroI (w : World) : (zeroValue 3).run Tryz.prog w = .ok (.int .i64 0) w := by kernel_rfl
theorem zeroS (w : World) : (zeroValue 9).run Tryz.prog w = .ok (.string ⟨#[]⟩) w := by kernel_rfl

/-- what the map of signs reads as -/
def signD : DataW Unit := .map [(.int .u8 59, .lit (.int .i64 5)), (.int .u8 123, .lit (.int .i64 3)), (.int .u8 125, .lit (.int .i64 4))]

/-- a block that is the map of signs -/
def Signs (w : World) (b : Nat) : Prop := w.ownsMap Tryz.prog 5 (plainElem Tryz.prog 3) b 3 signD

theorem Signs.lt {w : World} {b : Nat} (h : Signs w b) : b < w.heap.size := World.ownsMap.lt h
theorem Signs.kept {w w' : World} {b : Nat} (h : Signs w b) (hb : Below w.heap.size w w') : Signs w' b := by
  have hl := h.lt
  obtain ⟨es, clock, hb0, F, hs, hD⟩ := h
  exact ⟨es, clock, (hb.block b hl).trans hb0, F, hs, hD⟩
theorem Signs.alloc {w : World} {b : Nat} (h : Signs w b) (o : Obj) : Signs (w.alloc o) b := World.ownsMap.alloc h o

theorem Signs.grown {EL : TypeId} {base n z : Nat} {v : Value} {xs : List Value} {W W2 : World} {b : Nat} (h : Signs W b) (hw : W.ownsRow base EL z v n xs) (r1 : W.grownBy W2 v.ownBlock) : Signs W2 b := by
  obtain ⟨es, clock, hb0, F, hs, hD⟩ := h
  exact ⟨es, clock, Zk.keeps_other hw hb0 (by intro c T r e; cases e) r1, F, hs, hD⟩

theorem u8_of (c : UInt8) (n : Nat) : ((Lit.int .u8 n).sameKey (.int .u8 (c.toNat : Int))) = decide (c.toNat = n) := by
  simp [Lit.sameKey]; omega

theorem signD_at (c : UInt8) : signD.atKey (.int .u8 (c.toNat : Int)) (.lit (.int .i64 0)) = .lit (.int .i64 (sign c : Nat)) := by
  have e1 := u8_of c 59
  have e2 := u8_of c 123
  have e3 := u8_of c 125
  unfold sign
  by_cases h1 : c.toNat = 59
  · simp [h1, signD, DataW.atKey, Lit.sameKey]
  · by_cases h2 : c.toNat = 123
    · simp [h2, signD, DataW.atKey, Lit.sameKey]
    · by_cases h3 : c.toNat = 125
      · simp [h3, signD, DataW.atKey, Lit.sameKey]
      · have a1 : ¬ ((59 : Int) = c.toNat) := by omega
        have a2 : ¬ ((123 : Int) = c.toNat) := by omega
        have a3 : ¬ ((125 : Int) = c.toNat) := by omega
        simp [h1, h2, h3, a1, a2, a3, signD, DataW.atKey, Lit.sameKey]

def SignsRes (w : World) (e : Ending) (w' : World) : Prop := ∃ b, e = .returned (.map (some b)) ∧ Signs w' b ∧ w.heap.size ≤ b ∧ Below w.heap.size w w'

set_option maxRecDepth 100000 in
theorem signKinds_any (w : World) : Calls Tryz.prog 68 #[] w fun e w' => SignsRes w e w' := by
  have hmm := @run_makeMap Tryz.prog
  go_enter Tryz.func68, Tryz.ntmps68
  have hown0 : (w.alloc (.map #[] 0)).ownsMap Tryz.prog 5 (plainElem (H := Unit) Tryz.prog 3) w.heap.size 0 (.map []) := World.ownsMap_made _ _ _ _
  go_wp2_with (first
    | (refine wpList_insert_own _ rfl _ _ _ 97 rfl 5 3 law8 Tryz.underlying97 _ w.heap.size 2 _ rfl hown2 (by unfold maxLen; omega) _ _ _ rfl rfl (keyOf_int_mk Tryz.underlying5 (by decide)) _ [] (plainElem_int Tryz.underlying3 (by decide)) ?_; intro w3 hown3 hgr3)
    | (refine wpList_insert_own _ rfl _ _ _ 97 rfl 5 3 law8 Tryz.underlying97 _ w.heap.size 1 _ rfl hown1 (by unfold maxLen; omega) _ _ _ rfl rfl (keyOf_int_mk Tryz.underlying5 (by decide)) _ [] (plainElem_int Tryz.underlying3 (by decide)) ?_; intro w2 hown2 hgr2)
    | (refine wpList_insert_own _ rfl _ _ _ 97 rfl 5 3 law8 Tryz.underlying97 _ w.heap.size 0 _ rfl hown0 (by unfold maxLen; omega) _ _ _ rfl rfl (keyOf_int_mk Tryz.underlying5 (by decide)) _ [] (plainElem_int Tryz.underlying3 (by decide)) ?_; intro w1 hown1 hgr1))
  go_ret
  exact ⟨_, rfl, hown3, Nat.le_refl _, ((((Below.refl _ _).alloc (Nat.le_refl _) _).grown hgr1 (by simp) (fun j hj => by cases hj; exact Nat.le_refl _)).grown hgr2 (by have := hgr1.size; simp at this; omega) (fun j hj => by cases hj; exact Nat.le_refl _)).grown hgr3 (by have := hgr1.size; have := hgr2.size; simp at *; omega) (fun j hj => by cases hj; exact Nat.le_refl _)⟩

set_option maxRecDepth 100000 in
theorem kindOf_any (c : UInt8) (b : Nat) (w : World) (S : Signs w b) : Calls Tryz.prog 70 #[.int .u8 c.toNat, .map (some b)] w fun e w' => e = .returned (.int .i64 (kindB c : Nat)) ∧ w = w' := by
  have cl := isLetter_any c
  have cd := isDigit_any c
  have hs := signD_at c
  have hw8 : (Lit.int .u8 (c.toNat : Int)).wf = true := WalkArith.wf_u8 ⟨by omega, by have := c.toNat_lt; omega⟩
  cases h1 : letter c with
  | true =>
    rw [h1] at cl
    have HK := Lib.hid (kindB_letter h1)
    clear h1 hs
    go_enter Tryz.func70, Tryz.ntmps70
    go_wp2_with fail
    refine (cl _).mono ?_
    rintro e w' ⟨rfl, rfl⟩
    go_wp2_with fail
    go_ret
    exact ⟨by rw [HK.out]; rfl, rfl⟩
  | false =>
    rw [h1] at cl
    cases h2 : digit c with
    | true =>
      rw [h2] at cd
      have HK := Lib.hid (kindB_digit h2)
      clear h1 h2 hs
      go_enter Tryz.func70, Tryz.ntmps70
      go_wp2_with fail
      refine (cl _).mono ?_
      rintro e w' ⟨rfl, rfl⟩
      go_wp2_with fail
      refine (cd _).mono ?_
      rintro e w' ⟨rfl, rfl⟩
      go_wp2_with fail
      go_ret
      exact ⟨by rw [HK.out]; rfl, rfl⟩
    | false =>
      rw [h2] at cd
      have HK : Hid (kindB c = sign c) := Lib.hid (by unfold kindB sign; rw [h1, h2]; simp)
      have HS := Lib.hid hs
      clear h1 h2 hs
      go_enter Tryz.func70, Tryz.ntmps70
      go_wp2_with fail
      refine (cl _).mono ?_
      rintro e w' ⟨rfl, rfl⟩
      go_wp2_with fail
      refine (cd _).mono ?_
      rintro e w' ⟨rfl, rfl⟩
      go_wp2_with (at_lookup; refine wpList_lookup_own_int _ rfl _ _ 97 rfl 5 3 .i64 law8 Tryz.underlying97 Tryz.underlying3 (zeroI _) b 3 signD rfl S _ _ rfl (keyOf_int_mk Tryz.underlying5 hw8) ?_; intro k hat hwk)
      go_ret
      rw [HS.out] at hat
      exact ⟨by rw [HK.out]; injection hat with h; injection h with _ h; rw [h]; rfl, rfl⟩

/-! ## The texts of signs, by their kinds -/
def sgText (k : Int) : List UInt8 := if k = 3 then [123] else if k = 4 then [125] else if k = 5 then [59] else []

/-- a block that is the map of signs' texts -/
def SgTexts (w : World) (b : Nat) : Prop := ∃ D : DataW Unit, w.ownsMap Tryz.prog 3 (plainElem Tryz.prog 9) b 3 D ∧ ∀ k : Int, D.atKey (.int .i64 k) (.lit (.string [])) = .lit (.string (sgText k))

theorem SgTexts.lt {w : World} {b : Nat} (h : SgTexts w b) : b < w.heap.size := by obtain ⟨D, h, _⟩ := h; exact World.ownsMap.lt h
theorem SgTexts.kept {w w' : World} {b : Nat} (h : SgTexts w b) (hb : Below w.heap.size w w') : SgTexts w' b := by
  have hl := h.lt
  obtain ⟨D, ⟨es, clock, hb0, F, hs, hD⟩, hat⟩ := h
  exact ⟨D, ⟨es, clock, (hb.block b hl).trans hb0, F, hs, hD⟩, hat⟩
theorem SgTexts.alloc {w : World} {b : Nat} (h : SgTexts w b) (o : Obj) : SgTexts (w.alloc o) b := by
  obtain ⟨D, h, hat⟩ := h; exact ⟨D, World.ownsMap.alloc h o, hat⟩

/-- what is in the texts, while signs are still to come -/
def part (left : Lit → Bool) (k : Int) : List UInt8 :=
  if k = 3 ∧ left (.int .u8 123) = false then [123] else if k = 4 ∧ left (.int .u8 125) = false then [125] else if k = 5 ∧ left (.int .u8 59) = false then [59] else []

theorem part_start (k : Int) : part (Maps.has signD) k = [] := by
  have h1 : Maps.has signD (.int .u8 123) = true := by decide
  have h2 : Maps.has signD (.int .u8 125) = true := by decide
  have h3 : Maps.has signD (.int .u8 59) = true := by decide
  unfold part; simp [h1, h2, h3]

theorem part_end (left : Lit → Bool) (h : ∀ kl, left kl = false) (k : Int) : part left k = sgText k := by
  unfold part sgText; simp [h]

theorem same_u8 (x y : Int) : (Lit.int .u8 x).sameKey (.int .u8 y) = decide (x = y) := by simp [Lit.sameKey]

theorem signD_key {x c : Int} (h : ∀ zd, signD.atKey (.int .u8 x) zd = .lit (.int .i64 c)) : (x = 59 ∧ c = 5) ∨ (x = 123 ∧ c = 3) ∨ (x = 125 ∧ c = 4) := by
  have h := h .nil
  by_cases h1 : x = 59
  · subst h1; simp [signD, DataW.atKey, Lit.sameKey] at h; exact .inl ⟨rfl, h.symm⟩
  · by_cases h2 : x = 123
    · subst h2; simp [signD, DataW.atKey, Lit.sameKey] at h; exact .inr (.inl ⟨rfl, h.symm⟩)
    · by_cases h3 : x = 125
      · subst h3; simp [signD, DataW.atKey, Lit.sameKey] at h; exact .inr (.inr ⟨rfl, h.symm⟩)
      · have a1 : ¬ ((59 : Int) = x) := by omega
        have a2 : ¬ ((123 : Int) = x) := by omega
        have a3 : ¬ ((125 : Int) = x) := by omega
        simp [a1, a2, a3, signD, DataW.atKey, Lit.sameKey] at h

theorem part_step {left : Lit → Bool} {D : DataW Unit} {x c : Int} (h : ∀ k : Int, D.atKey (.int .i64 k) (.lit (.string [])) = .lit (.string (part left k)))
    (hx : (x = 59 ∧ c = 5) ∨ (x = 123 ∧ c = 3) ∨ (x = 125 ∧ c = 4)) (hD : IsMap D) (k : Int) :
    (D.put (.int .i64 c) (.lit (.string [UInt8.ofNat x.toNat]))).atKey (.int .i64 k) (.lit (.string [])) = .lit (.string (part (fun z => left z && !z.sameKey (.int .u8 x)) k)) := by
  by_cases hk : k = c
  · subst hk
    rw [atKey_put_same hD (by trivial)]
    rcases hx with ⟨rfl, rfl⟩ | ⟨rfl, rfl⟩ | ⟨rfl, rfl⟩ <;> simp [part, same_u8] <;> decide
  · rw [atKey_put_other (by intro e; injection e with _ e; exact hk e), h k]
    rcases hx with ⟨rfl, rfl⟩ | ⟨rfl, rfl⟩ | ⟨rfl, rfl⟩ <;> simp [part, same_u8, hk]

def SgRes (w : World) (e : Ending) (w' : World) : Prop := ∃ b, e = .returned (.map (some b)) ∧ SgTexts w' b ∧ w.heap.size ≤ b ∧ Below w.heap.size w w'

set_option maxRecDepth 100000 in
theorem signTexts_any (w : World) : Calls Tryz.prog 100 #[] w fun e w' => SgRes w e w' := by
  have hmm := @run_makeMap Tryz.prog
  have ck := fun w => signKinds_any w
  go_enter Tryz.func100, Tryz.ntmps100
  go_wp2_with fail
  refine (ck _).mono ?_
  rintro e w1 ⟨b, rfl, S, hb, hB⟩
  have hown0 : (w.alloc (.map #[] 0)).ownsMap Tryz.prog 3 (plainElem (H := Unit) Tryz.prog 9) w.heap.size 0 (.map []) := World.ownsMap_made _ _ _ _
  go_wp2_with (at_range; refine wpList_range_own _ rfl _ 97 rfl 5 3 law8 Tryz.underlying97 _ b 3 signD rfl S ?_; intro w2 hrg hg hs2)
  go_frame
  simp only [World.size_alloc] at hb hB
  have hz1 : w.heap.size + 1 ≤ w1.heap.size := by have := hB.size; simpa using this
  have hown2 : w2.ownsMap Tryz.prog 3 (plainElem (H := Unit) Tryz.prog 9) w.heap.size 0 (.map []) := by
    obtain ⟨es, clock, hb0, F, hs, hD⟩ := hown0
    exact World.ownsMap.kept ⟨es, clock, (hB.block _ (by simp)).trans hb0, F, hs, hD⟩ hg (by simp)
  have hB2 : Below w.heap.size w w2 := (((Below.refl _ w).alloc (Nat.le_refl _) _).trans (hB.mono (by omega))).grown hg (by omega) (fun j hj => by cases hj)
  have hsz : Maps.size signD = 3 := by rfl
  rw [hsz] at hrg
  have hz2 : w1.heap.size < w2.heap.size := by omega
  clear hown0 hB hg hs2 hsz S
  obtain ⟨r, hr⟩ : ∃ r, w1.heap.size = r := ⟨_, rfl⟩
  rw [hr] at hrg hz1 hz2 ⊢
  clear hr
  go_loopw [2] (fun _ wr => ∃ (left : Lit → Bool) (cnt n : Nat) (D2 : DataW Unit), wr.ranges Tryz.prog 5 (plainElem Tryz.prog 3) b r 3 signD left cnt ∧ wr.ownsMap Tryz.prog 3 (plainElem Tryz.prog 9) w.heap.size n D2 ∧ n + cnt ≤ 3 ∧
    Hid (∀ k : Int, D2.atKey (.int .i64 k) (.lit (.string [])) = .lit (.string (part left k))) ∧ Below w.heap.size w wr) (fun _ wr => wr.rangeLeft b r)
  case atStart => exact ⟨_, _, 0, _, hrg, hown2, by omega, Lib.hid (fun k => by rw [part_start]; rfl), hB2⟩
  case round =>
    clear hrg hown2 hB2
    obtain ⟨left, cnt, n, D2, hrg, hown, hn, HP, hB⟩ := hrel
    have hle := hrg.left_eq
    have HL := Lib.hid hle
    clear hle
    go_wp2_with (at_next; refine wpList_next_ranges_ii _ rfl _ rfl 5 3 .u8 .i64 law8 Tryz.underlying5 Tryz.underlying3 b r 3 _ _ _ rfl hrg ?_ ?_)
    · intro hc0 hl0
      have Y : Hid (SgTexts wr w.heap.size) := Lib.hid ⟨D2, hown.mono (by omega), fun k => by rw [HP.out k, part_end left hl0]⟩
      clear hl0
      go_wp2_with fail
      go_ret
      exact ⟨_, rfl, Y.out, Nat.le_refl _, hB⟩
    · intro x c w3 cnt3 hwx hwc hlx hat hrg3 hlt hg3 hs3 hen
      have hx := signD_key hat
      have hown3 := hown.kept hg3 (by simp; omega)
      have hB3 : Below w.heap.size w w3 := hB.grown hg3 hB.size (fun j hj => by cases hj; omega)
      have hc2 : 0 ≤ c ∧ c ≤ 5 := by omega
      have hx2 : 0 ≤ x ∧ x ≤ 127 := by omega
      have e1 : ∀ w, (convert 5 21 (.int .u8 x)).run Tryz.prog w = .ok (.int .i32 x) w := fun w => by
        rcases hx with ⟨rfl, _⟩ | ⟨rfl, _⟩ | ⟨rfl, _⟩ <;> kernel_rfl
      have e2 : ∀ w, (convert 21 9 (.int .i32 x)).run Tryz.prog w = .ok (.string ⟨#[UInt8.ofNat x.toNat]⟩) w := fun w => by
        rcases hx with ⟨rfl, _⟩ | ⟨rfl, _⟩ | ⟨rfl, _⟩ <;> kernel_rfl
      have HX := Lib.hid hx
      have hn3 : n + cnt3 + 1 ≤ 3 := by omega
      clear hx hlx hown hrg hn
      go_wp2_with (at_mapUpdate; refine wpList_mapUpdate_own _ rfl _ _ _ 123 rfl 3 9 lawI Tryz.underlying123 _ w.heap.size n _ rfl hown3 (by unfold maxLen; omega) _ _ _ rfl rfl (keyOf_int_mk Tryz.underlying3 hwc) _ [] (plainElem_string Tryz.underlying9 (show (⟨#[UInt8.ofNat x.toNat]⟩ : ByteArray).size ≤ maxLen by show 1 ≤ maxLen; unfold maxLen; omega)) ?_; intro w4 hown4 hg4)
      have hrg4 := hrg3.kept hg4 (by simp; omega) (by simp; omega)
      have hB4 : Below w.heap.size w w4 := hB3.grown hg4 hB3.size (fun j hj => by cases hj; exact Nat.le_refl _)
      have HM := Lib.hid hrg4.left_eq
      have HR := Lib.hid hrg4
      have HO := Lib.hid hown4
      have HP4 : Hid (∀ k : Int, (D2.put (.int .i64 c) (.lit (.string [UInt8.ofNat x.toNat]))).atKey (.int .i64 k) (.lit (.string [])) = .lit (.string (part (fun z => left z && !z.sameKey (.int .u8 x)) k))) := Lib.hid (part_step HP.out HX.out hown3.isMap)
      clear hrg4 hown4 hrg3 hown3 hat hen
      go_roundw
      case rel => exact ⟨_, cnt3, HR.out, n + 1, _, HO.out, by omega, HP4, hB4⟩
      case measure => rw [HM.out, HL.out]; exact hlt

end Go.Proofs.YtnjmokmlnpehdaaGreatDoor.Zp

namespace Go.Proofs.YtnjmokmlnpehdaaGreatDoor.Zp
set_option linter.unusedSimpArgs false
set_option linter.unusedVariables false
open Go.RowKit Go.Maps Go.Proofs.YtnjmokmlnpehdaaGreatDoor.Zm Go.Proofs.YtnjmokmlnpehdaaGreatDoor.Zr Go.Proofs.YtnjmokmlnpehdaaGreatDoor.Bn

set_option maxHeartbeats 1000000

/-! ## One token -/
theorem Clone_any (s : ByteArray) (w : World) (h : s.size ≤ 1000000) : Calls Tryz.prog 107 #[.string s] w fun e w' => e = .returned (.string s) ∧ Below w.heap.size w w' := by
  have cs := fun w => Tryz.stringslite_Clone s w (by omega)
  clear h
  go_enter Tryz.func107, Tryz.ntmps107
  go_wp2_with fail
  refine (cs _).mono ?_
  rintro e w' ⟨rfl, hb⟩
  go_wp2_with fail
  go_ret
  exact ⟨rfl, hb⟩

theorem of_by {t : ByteArray} {l : List UInt8} (h : by_ t = l) : t = ⟨l.toArray⟩ := by
  apply ByteArray.ext; rw [← h]

/-- what cutOne tells of what stands at p: a token and the place behind it, or an error and its place -/
def OneRes (st : Step) (p : Nat) (w : World) (e : Ending) (w' : World) : Prop :=
  (match st with
  | .tok k n s len => e = .returned (.tuple #[.agg #[.int .i64 (k : Nat), .int .i64 (p : Nat), .int .i64 (n : Nat), .string ⟨s.toArray⟩], .int .i64 ((p + len : Nat) : Int), .int .i64 0])
  | .err er o => e = .returned (.tuple #[.agg #[.int .i64 0, .int .i64 0, .int .i64 0, .string ⟨#[]⟩], .int .i64 ((p + o : Nat) : Int), .int .i64 (er : Nat)])
  | _ => False) ∧ Below w.heap.size w w'

set_option maxRecDepth 100000 in
theorem cutName_any (s : ByteArray) (p : Nat) (w : World) (st : Step) (hm : s.size ≤ 65536) (hp : p < s.size) (hl : letter s[p] = true) (hst : Hid (Zm.step s[p] ((by_ s).drop (p + 1)) = st)) :
    Calls Tryz.prog 86 #[.string s, .int .i64 p] w fun e w' => OneRes st p w e w' := by
  obtain ⟨t, ht, hz, hs⟩ := slice_from s p (by omega)
  obtain ⟨n, hn⟩ : ∃ n, ((by_ t).takeWhile inner).length = n := ⟨_, rfl⟩
  have hnl : n ≤ s.size - p := by rw [← hn, ← hz, ← by_len]; exact takeWhile_le _
  have c1 := fun w => run_any _ _ asks_inner t n w (by omega) hn
  have hn1 : (((by_ s).drop (p + 1)).takeWhile inner).length + 1 = n := by
    rw [← hn, ht, drop_at s p hp, List.takeWhile_cons, if_pos (letter_inner hl)]; rfl
  have hst' := hst.out
  rw [step_letter hl, hn1] at hst'
  obtain ⟨q, hq⟩ : ∃ q, p + n = q := ⟨_, rfl⟩
  have hpq : p ≤ q := by omega
  have hqs : q ≤ s.size := by omega
  have S1 : IntKind.i64.wrap ((p : Int) + (n : Int)) = (q : Int) := by rw [IntWalk.i64_in _ (by omega)]; omega
  have S2 : IntKind.i64.wrap ((q : Int) - (p : Int)) = (n : Int) := by rw [IntWalk.i64_in _ (by omega)]; omega
  by_cases h16 : 16 < n
  · have d1 : decide ((16 : Int) < (n : Int)) = true := decide_eq_true (by omega)
    rw [if_pos h16] at hst'
    have Y : Hid (st = .err 6 0) := Lib.hid hst'.symm
    clear hst' hst hn hn1 hz ht hq h16
    go_enter Tryz.func86, Tryz.ntmps86
    go_wp2_with fail
    refine (c1 _).mono ?_
    rintro e w' ⟨rfl, rfl⟩
    go_wp2_with fail
    refine bodyPost_ret (v := .tuple #[.agg #[.int .i64 0, .int .i64 0, .int .i64 0, .string ⟨#[]⟩], .int .i64 (p : Int), .int .i64 6]) (by simp [results, Tryz.results86, go_sem]) rfl ?_
    rw [Y.out]
    exact ⟨rfl, balloc (Below.refl _ _) _⟩
  · have d1 : decide ((16 : Int) < (n : Int)) = false := decide_eq_false (by omega)
    rw [if_neg h16] at hst'
    obtain ⟨t2, ht2, hz2, hs2⟩ := slice_mid s p q hpq hqs
    have c2 := fun w => Clone_any t2 w (by omega)
    have Y : Hid (OneRes st p w (.returned (.tuple #[.agg #[.int .i64 1, .int .i64 p, .int .i64 0, .string t2], .int .i64 q, .int .i64 0])) w) := Lib.hid (by
      have : t2 = ⟨(s[p] :: ((by_ s).drop (p + 1)).takeWhile inner).toArray⟩ := of_by (by
        rw [ht2, drop_at s p hp, show q - p = (((by_ s).drop (p + 1)).takeWhile inner).length + 1 by omega, List.take_succ_cons, take_takeWhile])
      rw [← hst']
      exact ⟨by rw [this, ← hq]; rfl, Below.refl _ _⟩)
    clear hst' hst hn hn1 hz ht hq h16 hz2 ht2
    go_enter Tryz.func86, Tryz.ntmps86
    go_wp2_with fail
    refine (c1 _).mono ?_
    rintro e w' ⟨rfl, rfl⟩
    go_wp2_with fail
    refine (c2 _).mono ?_
    rintro e w1 ⟨rfl, hb⟩
    have B := bthen (balloc (Below.refl _ w) _) hb
    have X := (Box.new w #[.int .i64 0, .int .i64 0, .int .i64 0, .string ⟨#[]⟩] 80).kept hb
    obtain ⟨z, x0, x1, x2, x3, f0, f1, f2, f3⟩ := Box.four X
    clear hb X
    go_wp2_with fail
    refine bodyPost_ret (v := .tuple #[.agg #[.int .i64 1, .int .i64 p, .int .i64 0, .string t2], .int .i64 q, .int .i64 0]) (by simp [results, Tryz.results86, go_sem, x0, x1, x2, x3]) rfl ⟨Y.out.1, ?_⟩
    exact bset (bset (bset (bset B (Nat.le_refl _) _ _) (Nat.le_refl _) _ _) (Nat.le_refl _) _ _) (Nat.le_refl _) _ _

theorem decFrom_val (l : List UInt8) : ∀ acc : Nat, (∀ c ∈ l, digit c = true) → Lib.decFrom acc l = some (l.foldl (fun n c => 10 * n + (c.toNat - 48)) acc) := by
  induction l with
  | nil => intro acc _; rfl
  | cons c r ih =>
    intro acc h
    have hc := digit_bd (h c (by simp))
    rw [Lib.decFrom, Lib.digitVal, if_pos hc]
    show Lib.decFrom (acc * 10 + (c.toNat - 48)) r = _
    rw [ih _ (fun d hd => h d (by simp [hd])), List.foldl_cons, Nat.mul_comm acc 10]

theorem atoi_val (c : UInt8) (r : List UInt8) (h : ∀ d ∈ c :: r, digit d = true) : Lib.atoi (c :: r) = some ((val (c :: r) : Nat) : Int) := by
  have hc := digit_bd (h c (by simp))
  have n1 : (c == 45) = false := by rw [beq_eq_false_iff_ne]; intro e; subst e; exact absurd hc.1 (by decide)
  have n2 : (c == 43) = false := by rw [beq_eq_false_iff_ne]; intro e; subst e; exact absurd hc.1 (by decide)
  rw [Lib.atoi, n1, n2]
  simp only [Bool.false_eq_true, if_false, Lib.decNat, List.isEmpty_cons]
  rw [decFrom_val _ 0 h]; rfl

theorem Atoi_below (s : ByteArray) (n : Int) (hl : s.size ≤ 18) (h : Lib.atoi s.data.toList = some n) (w : World) :
    Calls Tryz.prog 108 #[.string s] w fun e w' => e = .returned (.tuple #[.int .i64 n, .nilIface]) ∧ Below w.heap.size w w' :=
  (Tryz.strconv_Atoi s n hl h w).mono fun e w' ⟨h1, t, h2⟩ => ⟨h1, by rw [h2]; exact Joins.below_bytesWorld _ _ _ _ (Nat.le_refl _)⟩

set_option maxRecDepth 100000 in
theorem cutNumber_any (s : ByteArray) (p : Nat) (w : World) (st : Step) (hm : s.size ≤ 65536) (hp : p < s.size) (hl : digit s[p] = true) (hst : Hid (Zm.step s[p] ((by_ s).drop (p + 1)) = st)) :
    Calls Tryz.prog 87 #[.string s, .int .i64 p] w fun e w' => OneRes st p w e w' := by
  obtain ⟨t, ht, hz, hs⟩ := slice_from s p (by omega)
  obtain ⟨n, hn⟩ : ∃ n, ((by_ t).takeWhile digit).length = n := ⟨_, rfl⟩
  have hnl : n ≤ s.size - p := by rw [← hn, ← hz, ← by_len]; exact takeWhile_le _
  have c1 := fun w => run_any _ _ asks_digit t n w (by omega) hn
  have hn1 : (((by_ s).drop (p + 1)).takeWhile digit).length + 1 = n := by
    rw [← hn, ht, drop_at s p hp, List.takeWhile_cons, if_pos hl]; rfl
  have hst' := hst.out
  rw [step_digit hl, hn1] at hst'
  obtain ⟨q, hq⟩ : ∃ q, p + n = q := ⟨_, rfl⟩
  have hpq : p ≤ q := by omega
  have hqs : q ≤ s.size := by omega
  have S1 : IntKind.i64.wrap ((p : Int) + (n : Int)) = (q : Int) := by rw [IntWalk.i64_in _ (by omega)]; omega
  have S2 : IntKind.i64.wrap ((q : Int) - (p : Int)) = (n : Int) := by rw [IntWalk.i64_in _ (by omega)]; omega
  by_cases h9 : 9 < n
  · have d1 : decide ((9 : Int) < (n : Int)) = true := decide_eq_true (by omega)
    rw [if_pos h9] at hst'
    have Y : Hid (st = .err 6 0) := Lib.hid hst'.symm
    clear hst' hst hn hn1 hz ht hq h9
    go_enter Tryz.func87, Tryz.ntmps87
    go_wp2_with fail
    refine (c1 _).mono ?_
    rintro e w' ⟨rfl, rfl⟩
    go_wp2_with fail
    refine bodyPost_ret (v := .tuple #[.agg #[.int .i64 0, .int .i64 0, .int .i64 0, .string ⟨#[]⟩], .int .i64 (p : Int), .int .i64 6]) (by simp [results, Tryz.results87, go_sem]) rfl ?_
    rw [Y.out]
    exact ⟨rfl, balloc (Below.refl _ _) _⟩
  have d1 : decide ((9 : Int) < (n : Int)) = false := decide_eq_false (by omega)
  rw [if_neg h9] at hst'
  have n9 : n ≤ 9 := by omega
  clear h9
  by_cases h48 : s[p].toNat = 48 ∧ 1 < n
  · have d2 : ((s[p].toNat : Int) == 48) = true := beq_iff_eq.2 (by omega)
    have d3 : decide ((1 : Int) < (n : Int)) = true := decide_eq_true (by omega)
    rw [if_pos h48] at hst'
    have Y : Hid (st = .err 5 0) := Lib.hid hst'.symm
    clear hst' hst hn hn1 hz ht hq h48
    go_enter Tryz.func87, Tryz.ntmps87
    go_wp2_with fail
    refine (c1 _).mono ?_
    rintro e w' ⟨rfl, rfl⟩
    go_wp2_with fail
    refine bodyPost_ret (v := .tuple #[.agg #[.int .i64 0, .int .i64 0, .int .i64 0, .string ⟨#[]⟩], .int .i64 (p : Int), .int .i64 5]) (by simp [results, Tryz.results87, go_sem]) rfl ?_
    rw [Y.out]
    exact ⟨rfl, balloc (Below.refl _ _) _⟩
  rw [if_neg h48] at hst'
  obtain ⟨x2, x3, d2, d3⟩ : ∃ x2 x3 : Bool, ((s[p].toNat : Int) == 48) = x2 ∧ decide ((1 : Int) < (n : Int)) = x3 := ⟨_, _, rfl, rfl⟩
  have h23 : x2 = false ∨ (x2 = true ∧ x3 = false) := by
    cases x2 with
    | false => exact .inl rfl
    | true => exact .inr ⟨rfl, by rw [← d3]; exact decide_eq_false (fun h => h48 ⟨by have := beq_iff_eq.1 d2; omega, by omega⟩)⟩
  clear h48
  by_cases hin : startsInner (((by_ s).drop (p + 1)).drop (((by_ s).drop (p + 1)).takeWhile digit).length) = true
  · rw [if_pos hin] at hst'
    have hqs2 : q < s.size := by
      rcases Nat.lt_or_ge q s.size with g | g
      · exact g
      · rw [List.drop_drop, List.drop_eq_nil_of_le (by rw [by_len]; omega)] at hin; cases hin
    have ci := fun w => inName_any s[q] w
    have hi : inner s[q] = true := by
      rw [List.drop_drop, show p + 1 + (((by_ s).drop (p + 1)).takeWhile digit).length = q by omega, drop_at s q hqs2] at hin; exact hin
    rw [hi] at ci
    have Y : Hid (st = .err 5 n) := Lib.hid hst'.symm
    have HQ := Lib.hid hq
    clear hst' hst hn hn1 hz ht hq hin hi
    rcases h23 with rfl | ⟨rfl, rfl⟩
    all_goals
      go_enter Tryz.func87, Tryz.ntmps87
      go_wp2_with fail
      refine (c1 _).mono ?_
      rintro e w' ⟨rfl, rfl⟩
      go_wp2_with fail
      refine (ci _).mono ?_
      rintro e w' ⟨rfl, rfl⟩
      go_wp2_with fail
      refine bodyPost_ret (v := .tuple #[.agg #[.int .i64 0, .int .i64 0, .int .i64 0, .string ⟨#[]⟩], .int .i64 (q : Int), .int .i64 5]) (by simp [results, Tryz.results87, go_sem]) rfl ?_
      rw [Y.out]
      exact ⟨by rw [← HQ.out]; rfl, balloc (Below.refl _ _) _⟩
  rw [if_neg hin] at hst'
  obtain ⟨t2, ht2, hz2, hs2⟩ := slice_mid s p q hpq hqs
  have hb2 : by_ t2 = s[p] :: ((by_ s).drop (p + 1)).takeWhile digit := by
    rw [ht2, drop_at s p hp, show q - p = (((by_ s).drop (p + 1)).takeWhile digit).length + 1 by omega, List.take_succ_cons, take_takeWhile]
  have hdg : ∀ d ∈ s[p] :: ((by_ s).drop (p + 1)).takeWhile digit, digit d = true := fun d hd => by
    rcases List.mem_cons.1 hd with rfl | hd
    · exact hl
    · exact mem_takeWhile _ d hd
  obtain ⟨v, hv⟩ : ∃ v : Nat, val (s[p] :: ((by_ s).drop (p + 1)).takeWhile digit) = v := ⟨_, rfl⟩
  have ca := fun w => Atoi_below t2 (v : Int) (by omega) (by rw [show t2.data.toList = by_ t2 from rfl, hb2, atoi_val _ _ hdg, hv]) w
  have hv9 : v ≤ 999999999 := by
    have h1 := val_lt _ hdg
    have h2 : 10 ^ (s[p] :: ((by_ s).drop (p + 1)).takeWhile digit).length ≤ 10 ^ 9 := Nat.pow_le_pow_right (by decide) (by simp; omega)
    rw [hv] at h1; omega
  have Y : Hid (OneRes st p w (.returned (.tuple #[.agg #[.int .i64 2, .int .i64 p, .int .i64 v, .string ⟨#[]⟩], .int .i64 q, .int .i64 0])) w) := Lib.hid (by
    rw [← hst', hv]
    exact ⟨by rw [← hq]; rfl, Below.refl _ _⟩)
  have hno : q < s.size → ∃ h : q < s.size, inner s[q] = false := fun g => ⟨g, by
    rw [List.drop_drop, show p + 1 + (((by_ s).drop (p + 1)).takeWhile digit).length = q by omega, drop_at s q g] at hin
    simpa [startsInner] using hin⟩
  clear hst' hst hn hn1 hz ht hq hin hz2 ht2 hb2 hdg hv
  by_cases hqs2 : q < s.size
  · obtain ⟨_, hi⟩ := hno hqs2
    have ci := fun w => inName_any s[q] w
    rw [hi] at ci
    clear hi hno
    rcases h23 with rfl | ⟨rfl, rfl⟩
    all_goals
      go_enter Tryz.func87, Tryz.ntmps87
      go_wp2_with fail
      refine (c1 _).mono ?_
      rintro e w' ⟨rfl, rfl⟩
      go_wp2_with fail
      refine (ci _).mono ?_
      rintro e w' ⟨rfl, rfl⟩
      go_wp2_with fail
      refine (ca _).mono ?_
      rintro e w1 ⟨rfl, hb⟩
      have B := bthen (balloc (Below.refl _ w) _) hb
      have X := (Box.new w #[.int .i64 0, .int .i64 0, .int .i64 0, .string ⟨#[]⟩] 80).kept hb
      obtain ⟨z, x0, x1, x2, x3, f0, f1, f2, f3⟩ := Box.four X
      clear hb X
      go_wp2_with fail
      refine bodyPost_ret (v := .tuple #[.agg #[.int .i64 2, .int .i64 p, .int .i64 v, .string ⟨#[]⟩], .int .i64 q, .int .i64 0]) (by simp [results, Tryz.results87, go_sem, x0, x1, x2, x3]) rfl ⟨Y.out.1, ?_⟩
      exact bset (bset (bset (bset B (Nat.le_refl _) _ _) (Nat.le_refl _) _ _) (Nat.le_refl _) _ _) (Nat.le_refl _) _ _
  · have d4 : decide ((q : Int) < (s.size : Int)) = false := decide_eq_false (by omega)
    clear hno
    rcases h23 with rfl | ⟨rfl, rfl⟩
    all_goals
      go_enter Tryz.func87, Tryz.ntmps87
      go_wp2_with fail
      refine (c1 _).mono ?_
      rintro e w' ⟨rfl, rfl⟩
      go_wp2_with fail
      refine (ca _).mono ?_
      rintro e w1 ⟨rfl, hb⟩
      have B := bthen (balloc (Below.refl _ w) _) hb
      have X := (Box.new w #[.int .i64 0, .int .i64 0, .int .i64 0, .string ⟨#[]⟩] 80).kept hb
      obtain ⟨z, x0, x1, x2, x3, f0, f1, f2, f3⟩ := Box.four X
      clear hb X
      go_wp2_with fail
      refine bodyPost_ret (v := .tuple #[.agg #[.int .i64 2, .int .i64 p, .int .i64 v, .string ⟨#[]⟩], .int .i64 q, .int .i64 0]) (by simp [results, Tryz.results87, go_sem, x0, x1, x2, x3]) rfl ⟨Y.out.1, ?_⟩
      exact bset (bset (bset (bset B (Nat.le_refl _) _ _) (Nat.le_refl _) _ _) (Nat.le_refl _) _ _) (Nat.le_refl _) _ _


theorem OneRes.shape {st : Step} {p : Nat} {w w' : World} {e : Ending} (h : OneRes st p w e w') :
    ∃ (a0 a1 a2 : Int) (a3 : ByteArray) (q er : Int), e = .returned (.tuple #[.agg #[.int .i64 a0, .int .i64 a1, .int .i64 a2, .string a3], .int .i64 q, .int .i64 er]) ∧ Below w.heap.size w w' := by
  obtain ⟨h, hb⟩ := h
  cases st with
  | skip n => cases h
  | wrong => cases h
  | err er o => exact ⟨_, _, _, _, _, _, h, hb⟩
  | tok k n s len => exact ⟨_, _, _, _, _, _, h, hb⟩

set_option maxRecDepth 100000 in
theorem cutOne_any (s : ByteArray) (p k : Nat) (w : World) (st : Step) (hm : s.size ≤ 65536) (hp : p < s.size) (hk : kindB s[p] = k) (hk0 : k ≠ 0) (hst : Hid (Zm.step s[p] ((by_ s).drop (p + 1)) = st)) :
    Calls Tryz.prog 71 #[.string s, .int .i64 p, .int .i64 (k : Nat)] w fun e w' => OneRes st p w e w' := by
  by_cases hk1 : k = 1
  · have cc := fun w => cutName_any s p w st hm hp (kind1 (hk.trans hk1)) hst
    clear hst hk hk0
    rw [hk1]
    go_enter Tryz.func71, Tryz.ntmps71
    go_wp2_with fail
    refine (cc _).mono ?_
    intro e w1 hr
    have HR := Lib.hid hr
    obtain ⟨a0, a1, a2, a3, qq, er, rfl, hb⟩ := hr.shape
    have B := bthen (balloc (Below.refl _ w) _) hb
    have X := (Box.new w #[.int .i64 0, .int .i64 0, .int .i64 0, .string ⟨#[]⟩] 80).kept hb
    obtain ⟨z, x0, x1, x2, x3, f0, f1, f2, f3⟩ := Box.four X
    clear hb X hr
    go_wp2_with fail
    refine bodyPost_ret (v := .tuple #[.agg #[.int .i64 a0, .int .i64 a1, .int .i64 a2, .string a3], .int .i64 qq, .int .i64 er]) (by simp [results, Tryz.results71, go_sem, x0, x1, x2, x3]) rfl ⟨HR.out.1, ?_⟩
    exact bset (bset (bset (bset B (Nat.le_refl _) _ _) (Nat.le_refl _) _ _) (Nat.le_refl _) _ _) (Nat.le_refl _) _ _
  by_cases hk2 : k = 2
  · have cc := fun w => cutNumber_any s p w st hm hp (kind2 (hk.trans hk2)) hst
    clear hst hk hk0 hk1
    rw [hk2]
    go_enter Tryz.func71, Tryz.ntmps71
    go_wp2_with fail
    refine (cc _).mono ?_
    intro e w1 hr
    have HR := Lib.hid hr
    obtain ⟨a0, a1, a2, a3, qq, er, rfl, hb⟩ := hr.shape
    have B := bthen (balloc (Below.refl _ w) _) hb
    have X := (Box.new w #[.int .i64 0, .int .i64 0, .int .i64 0, .string ⟨#[]⟩] 80).kept hb
    obtain ⟨z, x0, x1, x2, x3, f0, f1, f2, f3⟩ := Box.four X
    clear hb X hr
    go_wp2_with fail
    refine bodyPost_ret (v := .tuple #[.agg #[.int .i64 a0, .int .i64 a1, .int .i64 a2, .string a3], .int .i64 qq, .int .i64 er]) (by simp [results, Tryz.results71, go_sem, x0, x1, x2, x3]) rfl ⟨HR.out.1, ?_⟩
    exact bset (bset (bset (bset B (Nat.le_refl _) _ _) (Nat.le_refl _) _ _) (Nat.le_refl _) _ _) (Nat.le_refl _) _ _
  have Y : Hid (OneRes st p w (.returned (.tuple #[.agg #[.int .i64 (k : Nat), .int .i64 p, .int .i64 0, .string ⟨#[]⟩], .int .i64 ((p + 1 : Nat) : Int), .int .i64 0])) w) := Lib.hid (by
    rw [← hst.out, step_sign (by omega), hk]
    exact ⟨rfl, Below.refl _ _⟩)
  have d1 : ((k : Int) == 1) = false := beq_eq_false_iff_ne.2 (by omega)
  have d2 : ((k : Int) == 2) = false := beq_eq_false_iff_ne.2 (by omega)
  have S1 : IntKind.i64.wrap ((p : Int) + 1) = ((p + 1 : Nat) : Int) := by rw [IntWalk.i64_in _ (by omega)]; omega
  clear hst hk hk0 hk1 hk2
  go_enter Tryz.func71, Tryz.ntmps71
  go_wp2_with fail
  refine bodyPost_ret (v := .tuple #[.agg #[.int .i64 (k : Nat), .int .i64 p, .int .i64 0, .string ⟨#[]⟩], .int .i64 ((p + 1 : Nat) : Int), .int .i64 0]) (by simp [results, Tryz.results71, go_sem]) rfl ⟨Y.out.1, ?_⟩
  first
    | exact bset (bset (bset (bset (balloc (Below.refl _ _) _) (Nat.le_refl _) _ _) (Nat.le_refl _) _ _) (Nat.le_refl _) _ _) (Nat.le_refl _) _ _
    | exact balloc (Below.refl _ _) _

end Go.Proofs.YtnjmokmlnpehdaaGreatDoor.Zp

namespace Go.Proofs.YtnjmokmlnpehdaaGreatDoor.Zp
set_option linter.unusedSimpArgs false
set_option linter.unusedVariables false
open Go.RowKit Go.Maps Go.Proofs.YtnjmokmlnpehdaaGreatDoor.Zm Go.Proofs.YtnjmokmlnpehdaaGreatDoor.Zr Go.Proofs.YtnjmokmlnpehdaaGreatDoor.Bn Go.Proofs.YtnjmokmlnpehdaaGreatDoor.Zk

set_option maxHeartbeats 1000000

/-- what Cut tells, the slice's base at B -/
def CutRes (R : Except (Nat × Nat) (List Tk)) (w : World) (e : Ending) (w' : World) : Prop :=
  match R with
  | .ok a => ∃ v, e = .returned (.tuple #[v, .int .i64 0, .int .i64 0]) ∧ OneT 80 w w' v a
  | .error (er, q) => e = .returned (.tuple #[.slice none 0 0, .int .i64 (q : Nat), .int .i64 (er : Nat)]) ∧ Below w.heap.size w w'

/-- what Cut tells of a text -/
def cutR (s : ByteArray) : Except (Nat × Nat) (List Tk) := if 65536 < s.size then .error (6, 0) else cut (by_ s) 0 0

theorem infoT : (Tryz.prog.info? 80).map (fun i => (i.zero, i.size, i.bytes)) = some (some (.agg #[.int .i64 0, .int .i64 0, .int .i64 0, .string ⟨#[]⟩]), 4, 40) := by kernel_rfl
theorem underT : Tryz.prog.underlying 74 = some (.slice 80) := by kernel_rfl

theorem tot_zero (l : List UInt8) : tot l 0 [] = cut l 0 0 := by unfold tot; cases cut l 0 0 <;> rfl

set_option maxRecDepth 100000 in
theorem Cut_any (s : ByteArray) (w : World) (R : Except (Nat × Nat) (List Tk)) (hm : s.size ≤ maxLen) (hR : Hid (cutR s = R)) :
    Calls Tryz.prog 51 #[.string s] w fun e w' => CutRes R w e w' := by
  unfold maxLen at hm
  by_cases h0 : 65536 < s.size
  · have d1 : decide ((65536 : Int) < (s.size : Int)) = true := decide_eq_true (by omega)
    have Y : Hid (R = .error (6, 0)) := Lib.hid (by rw [← hR.out, cutR, if_pos h0])
    clear h0 hR hm
    go_enter Tryz.func51, Tryz.ntmps51
    go_wp2_with fail
    refine bodyPost_ret (v := .tuple #[.slice none 0 0, .int .i64 0, .int .i64 6]) (by simp [results, Tryz.results51, go_sem]) rfl ?_
    rw [Y.out]; exact ⟨rfl, Below.refl _ _⟩
  have d1 : decide ((65536 : Int) < (s.size : Int)) = false := decide_eq_false (by omega)
  have h65 : s.size ≤ 65536 := by omega
  have HR : Hid (cut (by_ s) 0 0 = R) := Lib.hid (by rw [← hR.out, cutR, if_neg h0])
  clear h0 hR hm
  have ck := fun w => signKinds_any w
  have cp := fun w => pass_any s 0 w (by omega) (by omega)
  obtain ⟨i0, hi, hz0, hz1, hz2⟩ := info_parts infoT
  go_enter Tryz.func51, Tryz.ntmps51
  go_wp2_with fail
  refine (ck _).mono ?_
  rintro e w1 ⟨b, rfl, S, hb, hB⟩
  go_wp2_with fail
  refine (cp _).mono ?_
  rintro e w' ⟨p0, rfl, ⟨hp1, hp2, hp3, hp4⟩, rfl⟩
  have HP : Hid (tot ((by_ s).drop p0) p0 [] = R) := Lib.hid (by rw [← HR.out, hp3, List.drop_zero, tot_zero])
  have HB := Lib.hid hp4
  clear hp3 hp4 ck cp HR hp1
  go_wp2_with fail
  go_loopw [5, 7] (fun L I wr => ∃ (p : Nat) (a : List Tk), p ≤ s.size ∧ I = .int .i64 p ∧ OneT 80 w wr L a ∧ a.length ≤ 8192 ∧ Signs wr b ∧ Hid (tot ((by_ s).drop p) p a = R) ∧ Hid (∀ h : p < s.size, Zm.blank s[p] = false ∧ s[p].toNat ≠ 35)) (fun _ I _ => s.size - (intOf I).toNat)
  case atStart => exact ⟨p0, [], hp2, rfl, OneT.start _ _ hB, by simp, S, HP, HB⟩
  case round =>
    clear S hB HP HB hp2 hb
    obtain ⟨p, a, hp, rfl, hO, ha, S, HT, HB⟩ := hrel
    obtain ⟨ptr, cap, rfl⟩ := hO.form
    by_cases hlt : p < s.size
    · obtain ⟨kb, hkb⟩ : ∃ kb, kindB s[p] = kb := ⟨_, rfl⟩
      have ck := kindOf_any s[p] b wr S
      rw [hkb] at ck
      obtain ⟨hbl, h35⟩ := HB.out hlt
      have HD := Lib.hid (drop_at s p hlt)
      by_cases hk0 : kb = 0
      · have Y : Hid (R = .error (5, p)) := Lib.hid (by rw [← HT.out, HD.out, tot_wrong _ _ (step_wrong hbl h35 (hkb.trans hk0))])
        have hBw := hO.below
        subst hk0
        clear hbl h35 hkb HD HT HB hO
        go_wp2_with fail
        refine ck.mono ?_
        rintro e w' ⟨rfl, rfl⟩
        go_wp2_with fail
        refine bodyPost_ret (v := .tuple #[.slice none 0 0, .int .i64 p, .int .i64 5]) (by simp [results, Tryz.results51, go_sem]) rfl ?_
        rw [Y.out]; exact ⟨rfl, hBw⟩
      · have k0 : ((kb : Int) == 0) = false := beq_eq_false_iff_ne.2 (by omega)
        by_cases hfull : a.length = 8192
        · have d2 : ((a.length : Int) == 8192) = true := beq_iff_eq.2 (by omega)
          have Y : Hid (R = .error (6, p)) := Lib.hid (by rw [← HT.out, HD.out, tot_full _ _ (step_not_skip hbl h35) (step_not_wrong (by rw [hkb]; exact hk0)) hfull])
          have hBw := hO.below
          clear hbl h35 hkb HD HT HB hO hfull hk0
          go_wp2_with fail
          refine ck.mono ?_
          rintro e w' ⟨rfl, rfl⟩
          go_wp2_with fail
          refine bodyPost_ret (v := .tuple #[.slice none 0 0, .int .i64 p, .int .i64 6]) (by simp [results, Tryz.results51, go_sem]) rfl ?_
          rw [Y.out]; exact ⟨rfl, hBw⟩
        · have d2 : ((a.length : Int) == 8192) = false := beq_eq_false_iff_ne.2 (by omega)
          obtain ⟨st, hst⟩ : ∃ st, Zm.step s[p] ((by_ s).drop (p + 1)) = st := ⟨_, rfl⟩
          have cc := fun w => cutOne_any s p kb w st h65 hlt hkb hk0 (Lib.hid hst)
          have ns := step_not_skip (r := (by_ s).drop (p + 1)) hbl h35
          have nw := step_not_wrong (c := s[p]) (r := (by_ s).drop (p + 1)) (by rw [hkb]; exact hk0)
          rw [hst] at ns nw
          cases st with
          | skip n => exact absurd rfl (ns n)
          | wrong => exact absurd rfl nw
          | err er o =>
            have Y : Hid (R = .error (er, p + o)) := Lib.hid (by rw [← HT.out, HD.out, tot_err _ _ hst hfull])
            have her : ((er : Int) != 0) = true := by
              rcases (step_err hst).1 with rfl | rfl <;> rfl
            clear hbl h35 hkb HD HT HB hfull hk0 hst ns nw
            go_wp2_with fail
            refine ck.mono ?_
            rintro e w' ⟨rfl, rfl⟩
            go_wp2_with fail
            refine (cc _).mono ?_
            rintro e w2 ⟨rfl, hb2⟩
            have hBw := (hO.kept hb2).below
            clear hO cc hb2
            go_wp2_with fail
            refine bodyPost_ret (v := .tuple #[.slice none 0 0, .int .i64 ((p + o : Nat) : Int), .int .i64 (er : Nat)]) (by simp [results, Tryz.results51, go_sem]) rfl ?_
            rw [Y.out]; exact ⟨rfl, balloc hBw _⟩
          | tok k n t len =>
            have hlen := step_tok_le hst
            have hlen2 : p + len ≤ s.size := by have := hlen.2; rw [List.length_drop, by_len] at this; omega
            obtain ⟨q, hq⟩ : ∃ q, p + len = q := ⟨_, rfl⟩
            have hpq : p < q := by omega
            have hqs : q ≤ s.size := by omega
            have HN : Hid (tot ((by_ s).drop q) q (a ++ [⟨k, p, n, t⟩]) = R) := Lib.hid (by
              rw [← HT.out, HD.out, tot_tok _ _ hst hfull, List.drop_drop, show p + 1 + (len - 1) = q by omega, hq])
            have cp := fun w => pass_any s q w hqs (by omega)
            have cc : ∀ w, Calls Tryz.prog 71 #[.string s, .int .i64 p, .int .i64 (kb : Nat)] w fun e w' =>
                e = .returned (.tuple #[.agg #[.int .i64 (k : Nat), .int .i64 (p : Nat), .int .i64 (n : Nat), .string ⟨t.toArray⟩], .int .i64 (q : Nat), .int .i64 0]) ∧ Below w.heap.size w w' :=
              fun w => (cc w).mono (fun e w' h => ⟨by rw [← hq]; exact h.1, h.2⟩)
            have hal : a.length < 8192 := by omega
            clear hbl h35 hkb HD HT HB hfull hk0 hst ns nw hlen hlen2 hq
            go_wp2_with fail
            refine ck.mono ?_
            rintro e w' ⟨rfl, rfl⟩
            go_wp2_with fail
            refine (cc _).mono ?_
            rintro e w2 ⟨rfl, hb2⟩
            replace hO := hO.kept hb2
            replace S := S.kept hb2
            clear cc hb2
            have sz := hO.below.size
            go_wp2_with (first
              | (at_builtin; refine wpList_append_own _ rfl _ _ 74 rfl w.heap.size 80 i0 (.agg #[.int .i64 0, .int .i64 0, .int .i64 0, .string ⟨#[]⟩]) 4 40 underT hi hz0 hz1 hz2 rfl (by decide) _ a.length (tks a) rfl ((hO.a.alloc _).alloc _) ⟨w2.heap.size + 1, 0, none⟩ 1 1 [.int .i64 (k : Nat), .int .i64 (p : Nat), .int .i64 (n : Nat), .string ⟨t.toArray⟩] rfl rfl ?c1 ?c2 ?c3 ?c4 ?c5 ?m1))
            case c1 =>
              intro j u hj
              match j, hj with
              | 0, hj => simp at hj; subst hj; simp [Addr.add, go_sem]
              | 1, hj => simp at hj; subst hj; simp [Addr.add, go_sem]
              | 2, hj => simp at hj; subst hj; simp [Addr.add, go_sem]
              | 3, hj => simp at hj; subst hj; simp [Addr.add, go_sem]
            case c2 => intro u hu; simp at hu; rcases hu with rfl | rfl | rfl | rfl <;> rfl
            case c3 => unfold maxLen; omega
            case c4 => omega
            case c5 => simp; omega
            intro v3 w3 hown3 hg3 _
            have S3 : Signs w3 b := ((S.alloc _).alloc _).grown ((hO.a.alloc _).alloc _) hg3
            have X3 := (hO.kept (balloc (Below.refl _ _) (.cells #[.int .i64 (k : Nat), .int .i64 (p : Nat), .int .i64 (n : Nat), .string ⟨t.toArray⟩] 80))).grow (t := ⟨k, p, n, t⟩) hown3 hg3
            clear hown3 hg3 hO S sz
            go_wp2_with fail
            refine (cp _).mono ?_
            rintro e w' ⟨p2, rfl, ⟨hp1, hp2, hp3, hp4⟩, rfl⟩
            have HN2 : Hid (tot ((by_ s).drop p2) p2 (a ++ [⟨k, p, n, t⟩]) = R) := Lib.hid (by rw [hp3]; exact HN.out)
            have HB2 := Lib.hid hp4
            clear hp3 hp4 cp HN
            go_wp2_with fail
            go_roundw
            case rel => exact ⟨p2, _, hp2, by go_num, X3, by simp; omega, S3, HN2, HB2⟩
            case measure => simp [intOf]; omega
    · have hE : Hid (R = .ok a) := Lib.hid (by rw [← HT.out, List.drop_eq_nil_of_le (by rw [by_len]; omega), tot_nil])
      have Y : Hid (CutRes R w (.returned (.tuple #[.slice ptr a.length cap, .int .i64 0, .int .i64 0])) wr) := Lib.hid (by rw [hE.out]; exact ⟨_, rfl, hO⟩)
      clear hO HB
      go_wp2_with fail
      exact bodyPost_ret (v := .tuple #[.slice ptr a.length cap, .int .i64 0, .int .i64 0]) (by simp [results, Tryz.results51, go_sem]) rfl Y.out

end Go.Proofs.YtnjmokmlnpehdaaGreatDoor.Zp

namespace Go.Proofs.YtnjmokmlnpehdaaGreatDoor.Yg
set_option linter.unusedSimpArgs false
set_option linter.unusedVariables false
open Go Go.RowKit Go.Proofs.YtnjmokmlnpehdaaGreatDoor.Zk Go.Proofs.YtnjmokmlnpehdaaGreatDoor.Zm Go.Proofs.YtnjmokmlnpehdaaGreatDoor.Rk Go.Proofs.YtnjmokmlnpehdaaGreatDoor.Bn Go.Proofs.YtnjmokmlnpehdaaGreatDoor.Zp

/-- a block of cells of type T -/
def Blk (W : World) (b : Nat) (T : TypeId) (c : Array Value) : Prop := W.heap[b]? = some (.cells c T (0, 0))
section
variable {W W1 : World} {b g : Nat} {T : TypeId} {c : Array Value}
theorem Blk.lt (h : Blk W b T c) : b < W.heap.size := (Array.getElem?_eq_some_iff.1 h).1
theorem Blk.kept (h : Blk W b T c) (B : Below W.heap.size W W1) : Blk W1 b T c := (B.block b h.lt).trans h
theorem Blk.at_ (h : W.heap.size = g) : Blk (W.alloc (.cells c T (0, 0))) g T c := by
  subst h
  exact (MapKept.heap_alloc W _).1
theorem Blk.cell (h : Blk W b T c) (j : Nat) : W.cell? ⟨b, j, none⟩ = c[j]? := by simp [World.cell?, show W.heap[b]? = _ from h]
theorem Blk.frz (h : Blk W b T c) (j : Nat) : W.frozen? ⟨b, j, none⟩ = false := by simp [World.frozen?, show W.heap[b]? = _ from h]
end

/-- the call's own row: n elements of sz cells each -/
structure OneC (EL : TypeId) (sz : Nat) (w W : World) (v : Value) (n : Nat) (xs : List Value) : Prop where
  below : Below w.heap.size w W
  row : W.ownsRow w.heap.size EL sz v n xs
section
variable {EL : TypeId} {sz n : Nat} {w W w1 : World} {v : Value} {xs : List Value}
theorem OneC.start (EL : TypeId) (sz : Nat) (w : World) (h : Below w.heap.size w W) : OneC EL sz w W (.slice none 0 0) 0 [] := ⟨h, World.ownsRow_nil _ _ _ _⟩
theorem OneC.kept (x : OneC EL sz w W v n xs) (hb : Below W.heap.size W w1) : OneC EL sz w w1 v n xs :=
  ⟨x.below.trans (hb.mono x.below.size), x.row.kept (row := none) ⟨hb.os, hb.tape, hb.output, hb.size, fun i hi _ => hb.block i hi⟩ (by cases v.ownBlock <;> simp)⟩
theorem OneC.form (x : OneC EL sz w W v n xs) : ∃ p cap, v = .slice p n cap := by
  rcases x.row.2 with ⟨h1, h2⟩ | ⟨g, cap, cur, hv, _⟩
  · exact ⟨none, 0, by rw [h1, h2]⟩
  · exact ⟨_, _, hv⟩
theorem OneC.own (x : OneC EL sz w W v n xs) {k : Nat} (e : v.ownBlock = some k) : w.heap.size ≤ k ∧ k < W.heap.size := x.row.lt k e
theorem OneC.fresh (EL : TypeId) (sz : Nat) (w : World) (B : Below w.heap.size w W) (cs : Array Value) (n g : Nat) (hg : W.heap.size = g) (hm : n ≤ maxLen) (hs : cs.size = n * sz) :
    OneC EL sz w (W.alloc (.cells cs EL (0, 0))) (.slice (some ⟨g, 0, none⟩) n n) n cs.toList := by
  subst hg
  refine ⟨B.alloc B.size _, by simpa using hs, .inr ⟨W.heap.size, n, cs, rfl, B.size, (MapKept.heap_alloc W _).1, Nat.le_refl _, hm, hs, ?_⟩⟩
  rw [List.take_of_length_le (by simpa using (by omega : cs.size ≤ n * sz))]
theorem OneC.holds (x : OneC EL sz w W v n xs) (h1 : ∀ u ∈ xs, u.oneCell' = true) : Holds W sz v n xs := by
  rcases x.row.2 with ⟨hv, hn⟩ | ⟨g, cap, cur, hv, _, hc, _⟩
  · exact ⟨none, 0, by rw [hv, hn], x.row.1, h1, .inl ⟨rfl, hn⟩⟩
  · refine ⟨some ⟨g, 0, none⟩, cap, hv, x.row.1, h1, .inr ⟨_, rfl, fun j u hj => x.row.cells (by rw [hv]; rfl) j u hj⟩⟩
/-- a block holds one element -/
theorem holds_one {c : Array Value} {g : Nat} (h : Blk W g EL c) (hs : c.size = sz) (h1 : ∀ u ∈ c.toList, u.oneCell' = true) : Holds W sz (.slice (some ⟨g, 0, none⟩) 1 1) 1 c.toList := by
  refine ⟨_, _, rfl, by simpa using hs, h1, .inr ⟨_, rfl, fun j u hj => ?_⟩⟩
  rw [show (⟨g, 0, none⟩ : Addr).add j = ⟨g, j, none⟩ by unfold Addr.add; split <;> simp_all, h.cell j, ← Array.getElem?_toList]
  exact hj
/-- something is put behind the call's own -/
theorem put_c {P : Program} {ops : Array Oper} {rest : List Oper} {o : Oper} {a : Act} {Q : Exit → Act → World → Prop} (TL : TypeId) {EL : TypeId} {z : Value} {bytes : Nat} (ht : P.underlying TL = some (.slice EL))
    (hi : (P.info? EL).map (fun i => (i.zero, i.size, i.bytes)) = some (some z, sz, bytes)) (hzs : z.cells.size = sz) (hsz : 0 < sz) (hgd : Region.wanted o (yielded ops a.tmps) = true) (s x : Operand)
    (ho : o.op = .call { callee := .builtin .append, args := #[s, x], argTypes := #[TL, TL] })
    {V : Value} (X : OneC EL sz w W V n xs) (hs : a.eval s = V) {u : Value} {m : Nat} {ys : List Value} (hx : a.eval x = u) (hr : Holds W sz u m ys) (hL : (n + m) * bytes ≤ 140737488355328) (hL2 : n + m ≤ maxLen)
    (h : ∀ v' w', OneC EL sz w w' v' (n + m) (xs ++ ys) → (∀ b T c, ¬ T = EL → Blk W b T c → Blk w' b T c) → wpList P ops Q rest (a.put o.dst v') w') : wpList P ops Q (o :: rest) a W := by
  obtain ⟨i0, hi, hz0, hz1, hz2⟩ := info_parts hi
  refine Zk.wpList_put_behind hgd s x TL ho w.heap.size EL i0 z sz bytes ht hi hz0 hz1 hz2 hzs hsz V n xs hs X.row u m ys hx hr hL2 hL X.below.size (fun v' w' h1 h2 => h v' w' ?_ ?_)
  · exact ⟨Rk.below_grown X.below h2 (fun k e => (X.own e).1) (Nat.le_refl _), h1⟩
  · intro b T c hT hb
    refine (h2.block b hb.lt (fun e => ?_)).trans hb
    rcases X.row.2 with ⟨q, _⟩ | ⟨g, cap, cur, hv, _, hg, _⟩
    · rw [q] at e; cases e
    · rw [hv] at e
      have e : b = g := by simpa [Value.ownBlock] using e
      subst e
      rw [show W.heap[b]? = _ from hb] at hg
      injection hg with hg
      injection hg with _ hg _
      exact hT hg
end

end Go.Proofs.YtnjmokmlnpehdaaGreatDoor.Yg
