/- A slice of tokens that is read, wherever it lies; the reference's Same, and the law's exact. -/
import Derived.Test.YtabhbcedldjjjaaGreatDoorZrow
import Derived.Test.YtabhbcedldjjjaaGreatDoorFrameT
import Derived.Test.YtabhbcedldjjjaaGreatDoorJK
import Derived.Test.YtabhbcedldjjjaaGreatDoorJZ
import Derived.Test.YtabhbcedldjjjaaGreatDoorProg
namespace Go.Proofs.YtabhbcedldjjjaaGreatDoor.Zk
set_option linter.unusedSimpArgs false
set_option linter.unusedVariables false
open Go.RowKit Go.Proofs.YtabhbcedldjjjaaGreatDoor.Zm Go.Proofs.YtabhbcedldjjjaaGreatDoor.Rk Go.Proofs.YtabhbcedldjjjaaGreatDoor.Bn

set_option maxHeartbeats 1000000

/-- a token of whole numbers, as the frames tell it -/
def tkI (t : Tk) : TkI := ⟨t.k, t.a, t.n, ⟨t.s.toArray⟩⟩

/-- v's n elements are z 0, z 1, .. -/
def TokAt (W : World) (v : Value) (n : Nat) (z : Nat → TkI) : Prop :=
  ∃ ptr cap, v = .slice ptr n cap ∧ (n = 0 ∨ ∃ g off, ptr = some ⟨g, off, none⟩ ∧ g < W.heap.size ∧ ∀ i, i < n →
    W.cell? ⟨g, off + i * 4, none⟩ = some (.int .i64 (z i).k) ∧ W.cell? ⟨g, off + i * 4 + 1, none⟩ = some (.int .i64 (z i).a) ∧
    W.cell? ⟨g, off + i * 4 + 2, none⟩ = some (.int .i64 (z i).n) ∧ W.cell? ⟨g, off + i * 4 + 3, none⟩ = some (.string (z i).s))

theorem TokAt.kept {W w1 : World} {v : Value} {n : Nat} {z : Nat → TkI} (h : TokAt W v n z) (hb : Below W.heap.size W w1) : TokAt w1 v n z := by
  obtain ⟨ptr, cap, rfl, h⟩ := h
  refine ⟨ptr, cap, rfl, ?_⟩
  rcases h with h | ⟨g, off, rfl, hg, hc⟩
  · exact .inl h
  · exact .inr ⟨g, off, rfl, Nat.lt_of_lt_of_le hg hb.size, fun i hi => by
      obtain ⟨c0, c1, c2, c3⟩ := hc i hi
      exact ⟨(hb.cell hg).trans c0, (hb.cell hg).trans c1, (hb.cell hg).trans c2, (hb.cell hg).trans c3⟩⟩

theorem TokAt.of_frame {w : World} {a : Option Addr} {len cap : Nat} {z : Nat → TkI} (h : TokensOf w a len cap z) : TokAt w (.slice a len cap) len z := by
  obtain ⟨_, _, _, h⟩ := h
  refine ⟨a, cap, rfl, ?_⟩
  rcases h with h | ⟨b, off, h1, h2, h3⟩
  · exact .inl h
  · exact .inr ⟨b, off, h1, h2, fun i hi => by obtain ⟨c0, c1, c2, c3⟩ := h3 i hi; simp only [← Nat.add_assoc] at c1 c2 c3; exact ⟨c0, c1, c2, c3⟩⟩

theorem TokAt.of_own {EL : TypeId} {w W : World} {v : Value} {a : List Tk} (h : OneT EL w W v a) : TokAt W v a.length (fun i => tkI (a.getD i ⟨0, 0, 0, []⟩)) := by
  rcases Nat.eq_zero_or_pos a.length with h0 | h0
  · obtain ⟨ptr, cap, rfl⟩ := h.form
    exact ⟨ptr, cap, rfl, .inl h0⟩
  · obtain ⟨g, cap, rfl, hg, lt1⟩ := h.a.form h0
    have R := RowT.of_owns h.a h0
    refine ⟨_, _, rfl, .inr ⟨g, 0, rfl, R.lt, fun i hi => ?_⟩⟩
    have e : a.getD i ⟨0, 0, 0, []⟩ = a[i] := by simp [List.getD, hi]
    simp only [Nat.zero_add, e]
    exact ⟨R.at_ i hi 0 (by omega), R.at_ i hi 1 (by omega), R.at_ i hi 2 (by omega), R.at_ i hi 3 (by omega)⟩

/-- two tokens compared -/
theorem tok_neq (a b c a' b' c' : Int) (s s' : ByteArray) (w : World) :
    (binOp .neq 72 (.agg #[.int .i64 a, .int .i64 b, .int .i64 c, .string s]) (.agg #[.int .i64 a', .int .i64 b', .int .i64 c', .string s'])).run Tryz.prog w = .ok (.bool (!decide (a = a' ∧ b = b' ∧ c = c' ∧ s = s'))) w := by
  by_cases h1 : a = a'
  · by_cases h2 : b = b'
    · by_cases h3 : c = c'
      · by_cases h4 : s = s'
        · subst h1 h2 h3 h4; simp [go_sem]
        · simp [go_sem, h1, h2, h3, h4]; intro e; exact h4 (by rw [ByteArray.toList_eq, ByteArray.toList_eq] at e; exact ByteArray.ext (Array.toList_inj.1 e))
      · simp [go_sem, h1, h2, h3]
    · simp [go_sem, h1, h2]
  · simp [go_sem, h1]

/-- a token but for its place -/
def bareI (t : TkI) : Int × Int × ByteArray := (t.k, t.n, t.s)

end Go.Proofs.YtabhbcedldjjjaaGreatDoor.Zk
