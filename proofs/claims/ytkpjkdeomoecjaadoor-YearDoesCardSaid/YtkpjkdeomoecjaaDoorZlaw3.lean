/- What stands ahead of what is wrong; what stands between tokens; names; the length of tokens put together: plain mathematics. No condition. -/
import Derived.WalkKit
import Derived.Test.YtkpjkdeomoecjaaDoorZlaw2
namespace Go.Proofs.YtkpjkdeomoecjaaDoor.Zm
set_option linter.unusedSimpArgs false
set_option linter.unusedVariables false
open Go.Lib (decDigits)

theorem drop_more {c : UInt8} {r : List UInt8} {n : Nat} (j : Nat) (hn : 1 ≤ n) : (c :: r).drop (n + j) = (r.drop (n - 1)).drop j := by
  obtain ⟨n, rfl⟩ : ∃ q, n = q + 1 := ⟨n - 1, by omega⟩
  rw [List.drop_drop, show n + 1 + j = (n + 1 - 1 + j) + 1 by omega, List.drop_succ_cons]

theorem take_more {c : UInt8} {r : List UInt8} {n : Nat} (j : Nat) (hn : 1 ≤ n) : (c :: r).take (n + j) = (c :: r).take n ++ (r.drop (n - 1)).take j := by
  obtain ⟨n, rfl⟩ : ∃ q, n = q + 1 := ⟨n - 1, by omega⟩
  rw [List.take_add]; simp

theorem step_err {c : UInt8} {r : List UInt8} {e o : Nat} (h : step c r = .err e o) :
    (e = 6 ∨ e = 5) ∧ (o = 0 ∨ ∃ k n s, step c (r.take (o - 1)) = .tok k n s o ∧ o - 1 < r.length ∧ 1 ≤ o) := by
  have hd := step_err_le h
  unfold step at h
  by_cases h1 : blank c = true
  · rw [if_pos h1] at h; cases h
  rw [if_neg h1] at h
  by_cases h2 : c.toNat = 35
  · rw [if_pos h2] at h; cases h
  rw [if_neg h2] at h
  by_cases h3 : letter c = true
  · rw [if_pos h3] at h
    by_cases h4 : 16 < (r.takeWhile inner).length + 1
    · rw [if_pos h4] at h; injection h with e1 e2; exact ⟨.inl e1.symm, .inl e2.symm⟩
    · rw [if_neg h4] at h; cases h
  rw [if_neg h3] at h
  by_cases h5 : digit c = true
  · rw [if_pos h5] at h
    by_cases h6 : 9 < (r.takeWhile digit).length + 1
    · rw [if_pos h6] at h; injection h with e1 e2; exact ⟨.inl e1.symm, .inl e2.symm⟩
    rw [if_neg h6] at h
    by_cases h7 : c.toNat = 48 ∧ 1 < (r.takeWhile digit).length + 1
    · rw [if_pos h7] at h; injection h with e1 e2; exact ⟨.inr e1.symm, .inl e2.symm⟩
    rw [if_neg h7] at h
    by_cases h8 : startsInner (r.drop (r.takeWhile digit).length) = true
    · rw [if_pos h8] at h; injection h with e1 e2
      refine ⟨.inr e1.symm, .inr ?_⟩
      subst e2
      have hi := num_of h5 h7
      refine ⟨2, val (c :: r.takeWhile digit), [], ?_, by omega, by omega⟩
      rw [Nat.add_sub_cancel, take_takeWhile]
      have := step_num (m := []) hi (by omega) rfl
      rw [List.append_nil] at this; exact this
    · rw [if_neg h8] at h; cases h
  rw [if_neg h5] at h
  repeat' split at h
  all_goals cases h

/-- of what stands ahead of the place that is told, nothing is wrong -/
theorem cut_ahead (m : Nat) : ∀ (l : List UInt8) (cnt p e q : Nat), l.length ≤ m → cut l cnt p = .error (e, q) →
    ∃ j, j < l.length ∧ q = p + j ∧ (e = 5 ∨ e = 6) ∧ ∃ a, cut (l.take j) cnt p = .ok a := by
  induction m with
  | zero =>
    intro l cnt p e q hl h
    rw [List.eq_nil_of_length_eq_zero (Nat.le_zero.1 hl), cut_nil] at h; cases h
  | succ m ih =>
    intro l cnt p e q hl h
    cases l with
    | nil => rw [cut_nil] at h; cases h
    | cons c r =>
      simp only [List.length_cons] at hl
      cases hs : step c r with
      | skip n =>
        rw [cut_skip _ _ hs] at h
        have hn := step_skip_le hs
        obtain ⟨j, hj, hq, he, a, ha⟩ := ih _ _ _ _ _ (by simp; omega) h
        simp at hj
        refine ⟨n + j, by simp; omega, by omega, he, a, ?_⟩
        rw [take_more j hn.1, cut_skipped hs _ (fun hb => ?_)]
        · exact ha
        · rcases skip_rest hs hb with e | ⟨z, e⟩
          · rw [e]; simp
          · rw [e]; cases j with
            | zero => exact .inl rfl
            | succ j => exact .inr ⟨z.take j, rfl⟩
      | wrong =>
        rw [cut_wrong _ _ hs] at h; injection h with h; injection h with h1 h2
        exact ⟨0, by simp, h2.symm, .inl h1.symm, [], cut_nil _ _⟩
      | err e' o =>
        rw [cut_err _ _ hs] at h
        split at h
        · injection h with h; injection h with h1 h2
          exact ⟨0, by simp, h2.symm, .inr h1.symm, [], cut_nil _ _⟩
        · rename_i hc
          injection h with h; injection h with h1 h2
          obtain ⟨g1, g2⟩ := step_err hs
          subst h1
          refine ⟨o, by have := step_err_le hs; simp; omega, h2.symm, g1.symm, ?_⟩
          rcases g2 with rfl | ⟨k, n, s, g2, g3, g4⟩
          · exact ⟨[], cut_nil _ _⟩
          · obtain ⟨o, rfl⟩ : ∃ q, o = q + 1 := ⟨o - 1, by omega⟩
            rw [List.take_succ_cons]
            rw [Nat.add_sub_cancel] at g2
            rw [cut_tok _ _ g2, if_neg hc]
            have : (r.take o).drop (o + 1 - 1) = [] := by simp
            rw [this, cut_nil]
            exact ⟨_, rfl⟩
      | tok k n s len =>
        rw [cut_tok _ _ hs] at h
        have hn := step_tok_le hs
        obtain ⟨g1, g2, g3⟩ := step_tok p hs
        split at h
        · injection h with h; injection h with h1 h2
          exact ⟨0, by simp, h2.symm, .inr h1.symm, [], cut_nil _ _⟩
        · rename_i hc
          cases hr : cut (r.drop (len - 1)) (cnt + 1) (p + len) with
          | ok b => rw [hr] at h; cases h
          | error x =>
            rw [hr] at h; injection h with h; subst h
            obtain ⟨j, hj, hq, he, a, ha⟩ := ih _ _ _ _ _ (by simp; omega) hr
            simp at hj
            have hlen : (text ⟨k, p, n, s⟩).length = len := by rw [g2, List.length_take]; simp; omega
            refine ⟨len + j, by simp; omega, by omega, he, ⟨k, p, n, s⟩ :: a, ?_⟩
            rw [take_more j hn.1, ← g2, cut_text cnt p g1 (fun hk => ?_) hc, hlen, ha]
            · rfl
            · have := g3 hk
              cases hq : r.drop (len - 1) with
              | nil => simp [startsInner]
              | cons d q =>
                rw [hq] at this
                cases j with
                | zero => rfl
                | succ j => exact this

/-! ## Between tokens -/
def freeB : Bool → List UInt8 → Bool
  | _, [] => true
  | x, c :: r =>
    if c.toNat = 10 then freeB false r
    else if c.toNat = 35 then freeB true r
    else if x = false ∧ c.toNat ≠ 32 ∧ c.toNat ≠ 9 then false
    else freeB x r

theorem free_line (w x : List UInt8) (h : ∀ c ∈ w, onLine c = true) : freeB true (w ++ x) = freeB true x := by
  induction w with
  | nil => rfl
  | cons c w ih =>
    have hc := h c (by simp)
    unfold onLine at hc
    simp at hc
    rw [List.cons_append, freeB, if_neg hc]
    by_cases e : c.toNat = 35
    · rw [if_pos e]; exact ih (fun d hd => h d (by simp [hd]))
    · rw [if_neg e, if_neg (by simp)]; exact ih (fun d hd => h d (by simp [hd]))

theorem free_end (x : List UInt8) (h : x = [] ∨ ∃ z, x = 10 :: z) : freeB true x = freeB false x := by
  rcases h with rfl | ⟨z, rfl⟩
  · rfl
  · rfl

theorem free_skip {c : UInt8} {r : List UInt8} {n : Nat} (h : step c r = .skip n) (x : List UInt8) (hx : blank c = false → x = [] ∨ ∃ z, x = 10 :: z) :
    freeB false ((c :: r).take n ++ x) = freeB false x := by
  rcases step_skip h with ⟨hb, rfl⟩ | ⟨h1, h2, rfl⟩
  · show freeB false (c :: x) = freeB false x
    unfold blank at hb
    simp at hb
    rw [freeB]
    by_cases e : c.toNat = 10
    · rw [if_pos e]
    · rw [if_neg e, if_neg (by omega), if_neg (by omega)]
  · rw [List.take_succ_cons, take_takeWhile, List.cons_append, freeB, if_neg (by omega), if_pos h1, free_line _ _ (fun d hd => mem_takeWhile r d hd), free_end _ (hx h2)]

/-- tokens stand in order, each at its place, and between them is nothing else -/
def Places : List UInt8 → Nat → List Tk → Prop
  | l, _, [] => freeB false l = true
  | l, e, t :: a => ∃ j, t.a = e + j ∧ freeB false (l.take j) = true ∧ (text t).length + j ≤ l.length ∧ 1 ≤ (text t).length ∧ (l.drop j).take (text t).length = text t ∧ Places (l.drop (j + (text t).length)) (e + j + (text t).length) a

theorem cut_places (m : Nat) : ∀ (l : List UInt8) (cnt p : Nat) (a : List Tk), l.length ≤ m → cut l cnt p = .ok a → Places l p a := by
  induction m with
  | zero =>
    intro l cnt p a hl h
    have e := List.eq_nil_of_length_eq_zero (Nat.le_zero.1 hl)
    rw [e, cut_nil] at h
    injection h with h; subst h; rw [e]; exact rfl
  | succ m ih =>
    intro l cnt p a hl h
    cases l with
    | nil => rw [cut_nil] at h; injection h with h; subst h; exact rfl
    | cons c r =>
      simp only [List.length_cons] at hl
      cases hs : step c r with
      | skip n =>
        rw [cut_skip _ _ hs] at h
        have hn := step_skip_le hs
        have i := ih _ _ _ _ (by simp; omega) h
        have hall : (c :: r) = (c :: r).take n ++ r.drop (n - 1) := by
          have e1 := List.take_append_drop n (c :: r)
          have e2 := drop_more (c := c) (r := r) (n := n) 0 hn.1
          rw [Nat.add_zero, List.drop_zero] at e2
          rw [e2] at e1; exact e1.symm
        cases a with
        | nil =>
          show freeB false (c :: r) = true
          rw [hall, free_skip hs _ (fun hb => skip_rest hs hb)]; exact i
        | cons t a =>
          obtain ⟨j, i1, i2, i3, i4, i5, i6⟩ := i
          simp at i3
          refine ⟨n + j, by omega, ?_, by simp; omega, i4, ?_, ?_⟩
          · rw [take_more j hn.1, free_skip hs _ (fun hb => ?_)]
            · exact i2
            · rcases skip_rest hs hb with e | ⟨z, e⟩
              · rw [e]; simp
              · rw [e]; cases j with
                | zero => exact .inl rfl
                | succ j => exact .inr ⟨z.take j, rfl⟩
          · rw [drop_more j hn.1]; exact i5
          · rw [show n + j + (text t).length = n + (j + (text t).length) by omega, drop_more _ hn.1, show p + (n + j) + (text t).length = p + n + j + (text t).length by omega]; exact i6
      | wrong => rw [cut_wrong _ _ hs] at h; cases h
      | err e o => rw [cut_err _ _ hs] at h; split at h <;> cases h
      | tok k n s len =>
        rw [cut_tok _ _ hs] at h
        have hn := step_tok_le hs
        obtain ⟨g1, g2, g3⟩ := step_tok p hs
        split at h
        · cases h
        · cases hr : cut (r.drop (len - 1)) (cnt + 1) (p + len) with
          | error x => rw [hr] at h; cases h
          | ok b =>
            rw [hr] at h; injection h with h; subst h
            have i := ih _ _ _ _ (by simp; omega) hr
            have hlen : (text ⟨k, p, n, s⟩).length = len := by rw [g2, List.length_take]; simp; omega
            refine ⟨0, rfl, rfl, ?_, ?_, ?_, ?_⟩
            · rw [hlen]; simp; omega
            · rw [hlen]; exact hn.1
            · rw [hlen, g2]; rfl
            · rw [hlen, Nat.zero_add, show len = len + 0 by rfl, drop_more 0 hn.1]; exact i

/-! ## Names -/
theorem name_cut (l : List UInt8) : name l = true ↔ cut l 0 0 = .ok [⟨1, 0, 0, l⟩] := by
  constructor
  · intro h
    have := cut_text (t := ⟨1, 0, 0, l⟩) (m := []) 0 0 (.inl ⟨rfl, rfl, h⟩) (fun _ => rfl) (by decide)
    rw [List.append_nil, cut_nil] at this; exact this
  · intro h
    have := ((cut_tokens _ _ _ _ _ (Nat.le_refl _) h).1 _ (List.mem_singleton.2 rfl)).1
    rcases this with ⟨_, _, h⟩ | ⟨h, _⟩ | ⟨h, _⟩
    · exact h
    · simp at h
    · simp at h

theorem text_len {t : Tk} (h : Fine t) : (text t).length ≤ 16 := by
  obtain ⟨k, a, n, s⟩ := t
  rcases h with ⟨hk, hn, hs⟩ | ⟨hk, hs, hn⟩ | ⟨hk, hs, hn⟩
  · simp only at hk hs; subst hk
    simp only [text, if_true]
    cases s with
    | nil => simp
    | cons c r => simp only [name, Bool.and_eq_true, decide_eq_true_eq] at hs; simp; omega
  · simp only at hk hn; subst hk
    have := dec_len (u := n) (k := 9) (by omega) (by decide)
    simp only [text, if_true, if_neg (show ¬ (2 : Nat) = 1 by decide)]; omega
  · simp only at hk; rcases hk with hk | hk | hk <;> subst hk <;> simp [text]

theorem join_len (l : List Tk) (h : ∀ t ∈ l, Fine t) : (join l).length ≤ 17 * l.length := by
  induction l with
  | nil => decide
  | cons t l ih =>
    have a := text_len (h t (by simp))
    cases l with
    | nil => simp [join]; omega
    | cons u l =>
      have := ih (fun x hx => h x (by simp [hx]))
      simp [join] at this ⊢; omega

end Go.Proofs.YtkpjkdeomoecjaaDoor.Zm
