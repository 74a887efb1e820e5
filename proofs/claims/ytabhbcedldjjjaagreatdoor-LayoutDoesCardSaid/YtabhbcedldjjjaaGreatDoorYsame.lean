/- What Same of package tree comes to, for any items. -/
import Derived.Test.YtabhbcedldjjjaaGreatDoorYgen
import Derived.Test.YtabhbcedldjjjaaGreatDoorJK
import Derived.Test.YtabhbcedldjjjaaGreatDoorProg
import Derived.BigRegion
import Derived.Deep.CutRange
namespace Go.Proofs.YtabhbcedldjjjaaGreatDoor.Yg
set_option linter.unusedSimpArgs false
set_option linter.unusedVariables false
open Go Go.RowKit Go.Proofs.YtabhbcedldjjjaaGreatDoor.Zm Go.Proofs.YtabhbcedldjjjaaGreatDoor.Ym Go.Proofs.YtabhbcedldjjjaaGreatDoor.Bn

set_option maxHeartbeats 2000000

def stw (x : WI) : Bool × Int × ByteArray := (x.num, x.n, x.s)
mutual
def SameN : NI → NI → Prop
  | .mk nm _ ws b ks, .mk nm' _ ws' b' ks' => nm = nm' ∧ b = b' ∧ ws.map stw = ws'.map stw ∧ SameL ks ks'
def SameL : List NI → List NI → Prop
  | [], m => m = []
  | n :: l, m => ∃ x k, m = x :: k ∧ SameN n x ∧ SameL l k
end
theorem sameL_iff (l m : List NI) : SameL l m ↔ l.length = m.length ∧ ∀ i (h1 : i < l.length) (h2 : i < m.length), SameN l[i] m[i] := by
  induction l generalizing m with
  | nil =>
    simp only [SameL]
    constructor
    · rintro rfl; exact ⟨rfl, fun i h => by simp at h⟩
    · rintro ⟨h, _⟩; exact List.eq_nil_of_length_eq_zero (by simpa using h.symm)
  | cons n l ih =>
    simp only [SameL]
    constructor
    · rintro ⟨x, k, rfl, h1, h2⟩
      obtain ⟨e, h3⟩ := (ih k).1 h2
      refine ⟨by simp [e], fun i q1 q2 => ?_⟩
      cases i with
      | zero => exact h1
      | succ i => exact h3 i (by simpa using q1) (by simpa using q2)
    · rintro ⟨e, h⟩
      cases m with
      | nil => simp at e
      | cons x k => exact ⟨x, k, rfl, h 0 (by simp) (by simp), (ih k).2 ⟨by simpa using e, fun i q1 q2 => h (i + 1) (by simpa using q1) (by simpa using q2)⟩⟩
theorem stw_iff (l m : List WI) : l.map stw = m.map stw ↔ l.length = m.length ∧ ∀ i (h1 : i < l.length) (h2 : i < m.length), stw l[i] = stw m[i] := by
  constructor
  · intro h
    have e : l.length = m.length := by simpa using congrArg List.length h
    refine ⟨e, fun i h1 h2 => ?_⟩
    have := congrArg (fun x => x[i]?) h
    simpa [h1, h2] using this
  · rintro ⟨e, h⟩
    apply List.ext_getElem
    · simpa using e
    · intro i h1 h2
      simpa using h i (by simpa using h1) (by simpa using h2)

theorem wd_eql (p p' : Bool) (n n' a : Int) (s s' : ByteArray) (w : World) :
    (binOp .eql 64 (.agg #[.bool p, .int .i64 n, .string s, .int .i64 a]) (.agg #[.bool p', .int .i64 n', .string s', .int .i64 a])).run Tryz.prog w = .ok (.bool (decide (p = p' ∧ n = n' ∧ s = s'))) w := by
  by_cases h1 : p = p'
  · by_cases h3 : n = n'
    · by_cases h4 : s = s'
      · subst h1 h3 h4; simp [go_sem]
      · simp [go_sem, h1, h3, h4]; intro e; exact h4 (by rw [ByteArray.toList_eq, ByteArray.toList_eq] at e; exact ByteArray.ext (Array.toList_inj.1 e))
    · simp [go_sem, h1, h3]
  · simp [go_sem, h1]

mutual
/-- words are no more than they may be -/
def WsN (M : Nat) : NI → Prop
  | .mk _ _ ws _ ks => ws.length ≤ M ∧ WsL M ks
def WsL (M : Nat) : List NI → Prop
  | [] => True
  | n :: l => WsN M n ∧ WsL M l
end
theorem WsL.get {M : Nat} {l : List NI} (h : WsL M l) (i : Nat) (hi : i < l.length) : WsN M l[i] := by
  induction l generalizing i with
  | nil => exact absurd hi (by simp)
  | cons n l ih =>
    simp only [WsL] at h
    cases i with
    | zero => exact h.1
    | succ i => exact ih h.2 i (by simpa using hi)

end Go.Proofs.YtabhbcedldjjjaaGreatDoor.Yg
