/- The reference's way to read items, told by the machine. No condition. -/
import Derived.Test.YtjebdoecigmkhaaDoorYmath
namespace Go.Proofs.YtjebdoecigmkhaaDoor.Ym
set_option linter.unusedSimpArgs false
set_option linter.unusedVariables false
open Go.Proofs.YtjebdoecigmkhaaDoor.Zm

/-- the text's end: nothing may be open -/
def fin (n : Nat) : Except (Nat × Nat) Rd → Except (Nat × Nat) (List Nd)
  | .error x => .error x
  | .ok r => if r.st = [] then .ok r.top else .error (5, n)
/-- items are put into the innermost item that is open, or into the text -/
def addK (top : List Nd) (st : List Fr) (out : List Nd) : Rd :=
  match st with
  | [] => ⟨false, top ++ out, []⟩
  | f :: st => ⟨false, top, { f with kids := f.kids ++ out } :: st⟩
theorem addK_nil (top : List Nd) (st : List Fr) : addK top st [] = ⟨false, top, st⟩ := by
  cases st <;> simp [addK]
theorem addK_len (top : List Nd) (st : List Fr) (out : List Nd) : (addK top st out).st.length = st.length := by
  cases st <;> simp [addK]
theorem addK_go (top : List Nd) (st : List Fr) (out : List Nd) : (addK top st out).go = false := by
  cases st <;> rfl
theorem addK_add (top : List Nd) (st : List Fr) (out out2 : List Nd) : addK (addK top st out).top (addK top st out).st out2 = addK top st (out ++ out2) := by
  cases st <;> simp [addK]
theorem addK_is (top : List Nd) (st : List Fr) (out : List Nd) : addK top st out = ⟨false, (addK top st out).top, (addK top st out).st⟩ := by
  cases st <;> rfl
theorem shut_add (top : List Nd) (f : Fr) (st : List Fr) : shut top (f :: st) = addK top st [f.nd] := by
  cases st <;> rfl
theorem run_drop (A : List Tk) (k : Nat) (h : k < A.length) (r : Rd) : run (A.drop k) r = match take r A[k] with | .error e => .error (e, A[k].a) | .ok r' => run (A.drop (k + 1)) r' := by
  rw [List.drop_eq_getElem_cons h]
  rfl
theorem run_past (A : List Tk) (k : Nat) (h : A.length ≤ k) (r : Rd) : run (A.drop k) r = .ok r := by
  rw [List.drop_eq_nil_of_le h]
  rfl

/-- what reading items comes to that stand in so many blocks, from token k on -/
def ISaid (A : List Tk) (n deep k : Nat) (out : List Nd) (k' at' er' : Nat) : Prop :=
  (er' = 0 ∧ (deep = 0 → k' = A.length) ∧ (0 < deep → ∃ h : k' < A.length, A[k'].k = 4) ∧ ∀ top st, st.length = deep → run (A.drop k) ⟨false, top, st⟩ = run (A.drop k') (addK top st out)) ∨
  (er' ≠ 0 ∧ ∀ top st, st.length = deep → fin n (run (A.drop k) ⟨false, top, st⟩) = .error (er', at'))
/-- .. while it goes on -/
def IMid (A : List Tk) (n deep k : Nat) (out : List Nd) (k' at' er' : Nat) : Prop :=
  (er' = 0 ∧ k' ≤ A.length ∧ ∀ top st, st.length = deep → run (A.drop k) ⟨false, top, st⟩ = run (A.drop k') (addK top st out)) ∨
  (er' ≠ 0 ∧ ∀ top st, st.length = deep → fin n (run (A.drop k) ⟨false, top, st⟩) = .error (er', at'))
/-- what reading one item comes to, behind its name -/
def JSaid (A : List Tk) (n deep k : Nat) (fr : Fr) (nd : Nd) (k' at' er' : Nat) : Prop :=
  (er' = 0 ∧ k' ≤ A.length ∧ ∀ top st, st.length = deep → run (A.drop k) ⟨true, top, fr :: st⟩ = run (A.drop k') (addK top st [nd])) ∨
  (er' ≠ 0 ∧ ∀ top st, st.length = deep → fin n (run (A.drop k) ⟨true, top, fr :: st⟩) = .error (er', at'))
def fr0 (t : Tk) : Fr := ⟨t.s, t.a, [], false, []⟩

theorem imid_start (A : List Tk) (n deep k : Nat) (h : k ≤ A.length) (at' : Nat) : IMid A n deep k [] k at' 0 :=
  .inl ⟨rfl, h, fun top st _ => by rw [addK_nil]⟩
/-- an item more -/
theorem imid_item {A : List Tk} {n deep k k1 : Nat} {out : List Nd} {at1 : Nat} (h : IMid A n deep k out k1 at1 0) (hk : k1 < A.length) (h1 : A[k1].k = 1) {nd : Nd} {k' at' er' : Nat} (hJ : JSaid A n deep (k1 + 1) (fr0 A[k1]) nd k' at' er') :
    IMid A n deep k (out ++ [nd]) k' at' er' := by
  rcases h with ⟨_, _, h⟩ | ⟨h, _⟩
  · have step : ∀ top st, run (A.drop k1) (addK top st out) = run (A.drop (k1 + 1)) ⟨true, (addK top st out).top, fr0 A[k1] :: (addK top st out).st⟩ := fun top st => by
      rw [run_drop A k1 hk, addK_is]
      simp only [take, if_pos h1, fr0]
    rcases hJ with ⟨e, hk', hj⟩ | ⟨e, hj⟩
    · refine .inl ⟨e, hk', fun top st hs => ?_⟩
      rw [h top st hs, step, hj _ _ (by rw [addK_len]; exact hs), addK_add]
    · refine .inr ⟨e, fun top st hs => ?_⟩
      rw [h top st hs, step]
      exact hj _ _ (by rw [addK_len]; exact hs)
  · exact absurd rfl h
/-- a token that may not stand there -/
theorem imid_bad {A : List Tk} {n deep k k1 : Nat} {out : List Nd} {at1 : Nat} (h : IMid A n deep k out k1 at1 0) (hk : k1 < A.length) (h1 : ¬ A[k1].k = 1) (h4 : ¬ (A[k1].k = 4 ∧ 0 < deep)) :
    ∀ top st, st.length = deep → fin n (run (A.drop k) ⟨false, top, st⟩) = .error (5, A[k1].a) := by
  intro top st hs
  rcases h with ⟨_, _, h⟩ | ⟨h, _⟩
  · rw [h top st hs, run_drop A k1 hk, addK_is]
    simp only [take, if_neg h1]
    have : ¬ (A[k1].k = 4 ∧ (addK top st out).st ≠ []) := fun q => h4 ⟨q.1, by
      have := addK_len top st out
      have : (addK top st out).st.length ≠ 0 := fun e => q.2 (List.eq_nil_of_length_eq_zero e)
      omega⟩
    rw [if_neg this]
    rfl
  · exact absurd rfl h
/-- the tokens' end within a block -/
theorem imid_end {A : List Tk} {n deep k k1 : Nat} {out : List Nd} {at1 : Nat} (h : IMid A n deep k out k1 at1 0) (hk : A.length ≤ k1) (hd : 0 < deep) : ∀ top st, st.length = deep → fin n (run (A.drop k) ⟨false, top, st⟩) = .error (5, n) := by
  intro top st hs
  rcases h with ⟨_, _, h⟩ | ⟨h, _⟩
  · rw [h top st hs, run_past A k1 hk]
    have : (addK top st out).st ≠ [] := fun e => by
      have := addK_len top st out
      rw [e] at this
      simp at this
      omega
    simp only [fin, if_neg this]
  · exact absurd rfl h

/-! ## one item -/
/-- behind the name and some words -/
def JMid (A : List Tk) (deep k : Nat) (fr : Fr) (ws : List Wd) (k1 : Nat) : Prop :=
  k1 ≤ A.length ∧ ∀ top st, st.length = deep → run (A.drop k) ⟨true, top, fr :: st⟩ = run (A.drop k1) ⟨true, top, { fr with words := ws } :: st⟩
theorem jmid_start (A : List Tk) (deep k : Nat) (t : Tk) (h : k ≤ A.length) : JMid A deep k (fr0 t) [] k := ⟨h, fun _ _ _ => rfl⟩
theorem jmid_word {A : List Tk} {deep k k1 : Nat} {fr : Fr} {ws : List Wd} (h : JMid A deep k fr ws k1) (hk : k1 < A.length) (hw : A[k1].k = 1 ∨ A[k1].k = 2) (h8 : ¬ ws.length = 8) : JMid A deep k fr (ws ++ [wd A[k1]]) (k1 + 1) := by
  refine ⟨by omega, fun top st hs => ?_⟩
  rw [h.2 top st hs, run_drop A k1 hk]
  simp only [take]
  rw [if_neg (by omega), if_neg (by omega), if_neg (by omega), if_neg h8]
theorem jmid_full {A : List Tk} {n deep k k1 : Nat} {fr : Fr} {ws : List Wd} (h : JMid A deep k fr ws k1) (hk : k1 < A.length) (hw : A[k1].k = 1 ∨ A[k1].k = 2) (h8 : ws.length = 8) (nd : Nd) (k' : Nat) : JSaid A n deep k fr nd k' A[k1].a 6 := by
  refine .inr ⟨by decide, fun top st hs => ?_⟩
  rw [h.2 top st hs, run_drop A k1 hk]
  simp only [take]
  rw [if_neg (by omega), if_neg (by omega), if_neg (by omega), if_pos h8]
  rfl
theorem jmid_end {A : List Tk} {n deep k k1 at' : Nat} {fr : Fr} {ws : List Wd} (h : JMid A deep k fr ws k1) (hk : k1 < A.length) (hw : A[k1].k = 5) : JSaid A n deep k fr ({ fr with words := ws } : Fr).nd (k1 + 1) at' 0 := by
  refine .inl ⟨rfl, by omega, fun top st hs => ?_⟩
  rw [h.2 top st hs, run_drop A k1 hk]
  simp only [take]
  rw [if_pos hw, shut_add]
theorem jmid_deep {A : List Tk} {n deep k k1 : Nat} {fr : Fr} {ws : List Wd} (h : JMid A deep k fr ws k1) (hk : k1 < A.length) (hw : A[k1].k = 3) (hd : deep = 6) (nd : Nd) (k' : Nat) : JSaid A n deep k fr nd k' A[k1].a 7 := by
  refine .inr ⟨by decide, fun top st hs => ?_⟩
  rw [h.2 top st hs, run_drop A k1 hk]
  simp only [take]
  rw [if_neg (by omega), if_pos hw, if_pos (by omega)]
  rfl
theorem jmid_bad {A : List Tk} {n deep k k1 : Nat} {fr : Fr} {ws : List Wd} (h : JMid A deep k fr ws k1) (hk : k1 < A.length) (h1 : ¬ A[k1].k = 1) (h2 : ¬ A[k1].k = 2) (h3 : ¬ A[k1].k = 3) (h5 : ¬ A[k1].k = 5) (h4 : A[k1].k = 4) (nd : Nd) (k' : Nat) : JSaid A n deep k fr nd k' A[k1].a 5 := by
  refine .inr ⟨by decide, fun top st hs => ?_⟩
  rw [h.2 top st hs, run_drop A k1 hk]
  simp only [take]
  rw [if_neg h5, if_neg h3, if_pos h4]
  rfl
theorem jmid_past {A : List Tk} {n deep k k1 : Nat} {fr : Fr} {ws : List Wd} (h : JMid A deep k fr ws k1) (hk : A.length ≤ k1) (nd : Nd) (k' : Nat) : JSaid A n deep k fr nd k' n 5 := by
  refine .inr ⟨by decide, fun top st hs => ?_⟩
  rw [h.2 top st hs, run_past A k1 hk]
  simp only [fin]
  rw [if_neg (by simp)]
/-- a block, whose items were read -/
theorem jmid_block {A : List Tk} {n deep k k1 : Nat} {t : Tk} {ws : List Wd} (h : JMid A deep k (fr0 t) ws k1) (hk : k1 < A.length) (hw : A[k1].k = 3) (hd : deep < 6) {out : List Nd} {k' at' er' : Nat} (hI : ISaid A n (deep + 1) (k1 + 1) out k' at' er') :
    JSaid A n deep k (fr0 t) (.mk t.s t.a ws true out) (k' + 1) at' er' := by
  have step : ∀ top st, st.length = deep → run (A.drop k) ⟨true, top, fr0 t :: st⟩ = run (A.drop (k1 + 1)) ⟨false, top, ⟨t.s, t.a, ws, true, []⟩ :: st⟩ := fun top st hs => by
    rw [h.2 top st hs, run_drop A k1 hk]
    simp only [take]
    rw [if_neg (by omega), if_pos hw, if_neg (by omega)]
    rfl
  rcases hI with ⟨e, _, h4, hj⟩ | ⟨e, hj⟩
  · obtain ⟨hk', h4⟩ := h4 (by omega)
    refine .inl ⟨e, by omega, fun top st hs => ?_⟩
    rw [step top st hs, hj _ _ (by simp; exact hs), run_drop A k' hk']
    simp only [addK, take, h4]
    simp only [List.nil_append]
    rw [if_neg (by omega), if_pos ⟨trivial, by simp⟩, shut_add]
    rfl
  · refine .inr ⟨e, fun top st hs => ?_⟩
    rw [step top st hs]
    exact hj _ _ (by simp; exact hs)

theorem parse_fin (b : List UInt8) : parse b = match cut b 0 0 with | .error x => .error x | .ok a => fin b.length (run a start) := by
  unfold parse
  cases cut b 0 0 with
  | error x => rfl
  | ok a =>
    simp only
    cases run a start with
    | error x => rfl
    | ok r => rfl

end Go.Proofs.YtjebdoecigmkhaaDoor.Ym
