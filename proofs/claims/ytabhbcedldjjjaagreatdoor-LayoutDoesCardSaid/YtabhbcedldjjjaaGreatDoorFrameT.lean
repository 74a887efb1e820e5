/- What the frames tell a walk of a slice of tokens that came in (structs of three whole numbers and a text). -/
import Derived.WalkKit
import Derived.OpenShut
import Derived.ChangeSame
import Derived.Deep.Slices
import Derived.Deep.Fields
import Derived.SliceStrings
namespace Go.Proofs.YtabhbcedldjjjaaGreatDoor
set_option linter.unusedSimpArgs false
set_option linter.unusedVariables false
open Go.RowKit Go.ChangeShapes Go.WideShapes Go.Deep

structure TkI where
  k : Int
  a : Int
  n : Int
  s : ByteArray

/-- the slice's elements are z 0, z 1, .., and they lie in one block that is there -/
def TokensOf (w : World) (a : Option Addr) (len cap : Nat) (z : Nat → TkI) : Prop :=
  len ≤ cap ∧ cap ≤ maxLen ∧ (∀ i, i < len → (Lit.int .i64 (z i).k).wf = true ∧ (Lit.int .i64 (z i).a).wf = true ∧ (Lit.int .i64 (z i).n).wf = true ∧ (z i).s.size ≤ maxLen) ∧
  (len = 0 ∨ ∃ b off, a = some ⟨b, off, none⟩ ∧ b < w.heap.size ∧ ∀ i, i < len →
    w.cell? ⟨b, off + i * 4, none⟩ = some (.int .i64 (z i).k) ∧ w.cell? ⟨b, off + (i * 4 + 1), none⟩ = some (.int .i64 (z i).a) ∧
    w.cell? ⟨b, off + (i * 4 + 2), none⟩ = some (.int .i64 (z i).n) ∧ w.cell? ⟨b, off + (i * 4 + 3), none⟩ = some (.string (z i).s))

section
variable {H : Type} {enc : TypeId × Value → H} {P : Program} {w : World} {base : Nat} {spare : Nat → Bool} {held : Bool}

theorem token_open {e : TypeId} {f0 f1 f2 f3 : Field} {n : Nat} {cs : List Value} {y : DataW H × List MemPlace} {p : Addr} (he : P.underlying e = some (.struct #[f0, f1, f2, f3]))
    (hone : oneCellFields P #[f0, f1, f2, f3] = true) (hC : P.cellsOf e = 4)
    (h0 : P.underlying f0.type = some (.int .i64)) (h1 : P.underlying f1.type = some (.int .i64)) (h2 : P.underlying f2.type = some (.int .i64)) (h3 : P.underlying f3.type = some .string)
    (hc : w.cells? base p (P.cellsOf e) = some cs) (h : DataW.trod enc P w base spare held n e cs = some y) :
    ∃ z : TkI, ((Lit.int .i64 z.k).wf = true ∧ (Lit.int .i64 z.a).wf = true ∧ (Lit.int .i64 z.n).wf = true ∧ z.s.size ≤ maxLen) ∧
      w.cell? (p.add 0) = some (.int .i64 z.k) ∧ w.cell? (p.add 1) = some (.int .i64 z.a) ∧ w.cell? (p.add 2) = some (.int .i64 z.n) ∧ w.cell? (p.add 3) = some (.string z.s) := by
  rw [hC] at hc
  obtain ⟨_, hcl, hat⟩ := World.cells?_some hc
  match cs, hcl with
  | [c0, c1, c2, c3], _ =>
    obtain ⟨xs, m, _, _, _, hlen, hg⟩ := DataW.trod_struct he h
    obtain ⟨o0, k0⟩ := hone_of hone 0 f0 rfl
    obtain ⟨o1, k1⟩ := hone_of hone 1 f1 rfl
    obtain ⟨o2, k2⟩ := hone_of hone 2 f2 rfl
    obtain ⟨o3, k3⟩ := hone_of hone 3 f3 rfl
    match xs, hlen with
    | [y0, y1, y2, y3], _ =>
      have g0 : DataW.trod enc P w base spare held m f0.type [c0] = some y0 := by simpa [o0, k0] using hg 0 f0 rfl
      have g1 : DataW.trod enc P w base spare held m f1.type [c1] = some y1 := by simpa [o1, k1] using hg 1 f1 rfl
      have g2 : DataW.trod enc P w base spare held m f2.type [c2] = some y2 := by simpa [o2, k2] using hg 2 f2 rfl
      have g3 : DataW.trod enc P w base spare held m f3.type [c3] = some y3 := by simpa [o3, k3] using hg 3 f3 rfl
      obtain ⟨i0, e0, _, w0⟩ := DataW.trod_int h0 g0
      obtain ⟨i1, e1, _, w1⟩ := DataW.trod_int h1 g1
      obtain ⟨i2, e2, _, w2⟩ := DataW.trod_int h2 g2
      obtain ⟨s, e3, _, w3⟩ := DataW.trod_string h3 g3
      simp only [List.cons.injEq, and_true] at e0 e1 e2 e3
      subst e0; subst e1; subst e2; subst e3
      exact ⟨⟨i0, i1, i2, s⟩, ⟨w0, w1, w2, w3⟩, hat 0 (by omega), hat 1 (by omega), hat 2 (by omega), hat 3 (by omega)⟩

theorem tokens_open {t e : TypeId} {f0 f1 f2 f3 : Field} {fuel : Nat} {cs : List Value} {x : DataW H × List MemPlace} {a : Option Addr} {len cap : Nat} (ht : P.underlying t = some (.slice e))
    (he : P.underlying e = some (.struct #[f0, f1, f2, f3])) (hone : oneCellFields P #[f0, f1, f2, f3] = true) (hC : P.cellsOf e = 4)
    (h0 : P.underlying f0.type = some (.int .i64)) (h1 : P.underlying f1.type = some (.int .i64)) (h2 : P.underlying f2.type = some (.int .i64)) (h3 : P.underlying f3.type = some .string)
    (hcs : cs = [.slice a len cap]) (h : DataW.trod enc P w base spare held fuel t cs = some x) : ∃ z, TokensOf w a len cap z := by
  rcases open_slice ht h with ⟨e1, _⟩ | ⟨p, l, c, m, n, D, Pl, e1, _, hl, hm, hmm, _, hi⟩
  · rw [hcs] at e1
    simp at e1
    obtain ⟨rfl, rfl, rfl⟩ := e1
    exact ⟨fun _ => ⟨0, 0, 0, ByteArray.empty⟩, Nat.le_refl _, Nat.zero_le _, fun i h => by omega, .inl rfl⟩
  · rw [hcs] at e1
    simp at e1
    obtain ⟨rfl, rfl, rfl⟩ := e1
    have hml : len ≤ m := by rw [hmm]; split <;> omega
    have each : ∀ i, ∃ z : TkI, i < len → ((Lit.int .i64 z.k).wf = true ∧ (Lit.int .i64 z.a).wf = true ∧ (Lit.int .i64 z.n).wf = true ∧ z.s.size ≤ maxLen) ∧
        w.cell? ((p.add (i * 4)).add 0) = some (.int .i64 z.k) ∧ w.cell? ((p.add (i * 4)).add 1) = some (.int .i64 z.a) ∧ w.cell? ((p.add (i * 4)).add 2) = some (.int .i64 z.n) ∧ w.cell? ((p.add (i * 4)).add 3) = some (.string z.s) := by
      intro i
      by_cases h : i < len
      · obtain ⟨cs', hc, hd⟩ := hi i (by omega)
        obtain ⟨z, hz⟩ := token_open he hone hC h0 h1 h2 h3 hc hd
        rw [hC] at hz
        exact ⟨z, fun _ => hz⟩
      · exact ⟨⟨0, 0, 0, ByteArray.empty⟩, fun g => absurd g h⟩
    obtain ⟨z, hz⟩ := Classical.axiomOfChoice each
    refine ⟨z, hl, hm, fun i h => (hz i h).1, ?_⟩
    rcases Nat.eq_zero_or_pos len with g | g
    · exact .inl g
    · obtain ⟨b, off, spot⟩ := p
      have c0 := (hz 0 g).2.1
      have hspot : spot = none := by simpa [Addr.add] using World.cell?_spot c0
      subst hspot
      refine .inr ⟨b, off, rfl, ?_, fun i h => ?_⟩
      · have := World.block_lt_of_cell? w _ c0
        simpa [Addr.add] using this
      · obtain ⟨_, q0, q1, q2, q3⟩ := hz i h
        rw [Go.WideShapes.add_plain, Go.WideShapes.add_plain] at q0 q1 q2 q3
        rw [Nat.add_zero] at q0
        exact ⟨q0, by rw [← Nat.add_assoc]; exact q1, by rw [← Nat.add_assoc]; exact q2, by rw [← Nat.add_assoc]; exact q3⟩
end
end Go.Proofs.YtabhbcedldjjjaaGreatDoor
