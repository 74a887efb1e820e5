/- Where tokens stand, what stands between them, and what of a text decides about them, as plain mathematics. No condition. -/
import Derived.WalkKit
import Derived.Test.YtkpjkdeomoecjaaDoorZlaw
namespace Go.Proofs.YtkpjkdeomoecjaaDoor.Zm
set_option linter.unusedSimpArgs false
set_option linter.unusedVariables false
open Go.Lib (decDigits)

theorem take_takeWhile {p : UInt8 → Bool} (r : List UInt8) : r.take (r.takeWhile p).length = r.takeWhile p := by
  induction r with
  | nil => rfl
  | cons c r ih => by_cases h : p c <;> simp [List.takeWhile_cons, h, ih]

theorem drop_takeWhile {p : UInt8 → Bool} (r : List UInt8) : ∀ c m, r.drop (r.takeWhile p).length = c :: m → p c = false := by
  induction r with
  | nil => intro c m h; simp at h
  | cons d r ih =>
    intro c m h
    by_cases hd : p d
    · simp [List.takeWhile_cons, hd] at h; exact ih c m h
    · simp [List.takeWhile_cons, hd] at h; obtain ⟨rfl, _⟩ := h; simpa using hd

theorem mem_takeWhile {p : UInt8 → Bool} (r : List UInt8) : ∀ c ∈ r.takeWhile p, p c = true := by
  induction r with
  | nil => intro c h; simp at h
  | cons d r ih =>
    intro c h
    by_cases hd : p d
    · simp [List.takeWhile_cons, hd] at h
      rcases h with rfl | h
      · exact hd
      · exact ih c h
    · simp [List.takeWhile_cons, hd] at h

theorem starts_drop (r : List UInt8) : startsInner (r.drop (r.takeWhile inner).length) = false := by
  cases h : r.drop (r.takeWhile inner).length with
  | nil => rfl
  | cons c m => exact drop_takeWhile r c m h

theorem num_of {c : UInt8} {r : List UInt8} (h : digit c = true) (h0 : ¬ (c.toNat = 48 ∧ 1 < (r.takeWhile digit).length + 1)) : IsNum (c :: r.takeWhile digit) := by
  refine ⟨by simp, fun d hd => ?_, fun q hq => ?_⟩
  · rcases List.mem_cons.1 hd with rfl | hd
    · exact h
    · exact mem_takeWhile r d hd
  · injection hq with h1 h2
    subst h1; subst h2
    by_cases e : (r.takeWhile digit).length = 0
    · exact List.eq_nil_of_length_eq_zero e
    · exact absurd ⟨by decide, by omega⟩ h0

/-- what a step tells as a token is one, its text is what it read, and it could not have read on -/
theorem step_tok {c : UInt8} {r : List UInt8} {k n len : Nat} {s : List UInt8} (p : Nat) (h : step c r = .tok k n s len) :
    Fine ⟨k, p, n, s⟩ ∧ text ⟨k, p, n, s⟩ = (c :: r).take len ∧ (k ≤ 2 → startsInner (r.drop (len - 1)) = false) := by
  unfold step at h
  by_cases h1 : blank c = true
  · rw [if_pos h1] at h; cases h
  rw [if_neg h1] at h
  by_cases h2 : c.toNat = 35
  · rw [if_pos h2] at h; cases h
  rw [if_neg h2] at h
  by_cases h3 : letter c = true
  · rw [if_pos h3] at h
    by_cases h4 : 16 < (r.takeWhile inner).length + 1
    · rw [if_pos h4] at h; cases h
    · rw [if_neg h4] at h
      injection h with e1 e2 e3 e4
      subst e1; subst e2; subst e3; subst e4
      refine ⟨.inl ⟨rfl, rfl, ?_⟩, ?_, fun _ => starts_drop r⟩
      · simp only [name, Bool.and_eq_true, decide_eq_true_eq, List.all_eq_true]
        exact ⟨⟨h3, fun d hd => mem_takeWhile r d hd⟩, by omega⟩
      · simp [text, take_takeWhile]
  rw [if_neg h3] at h
  by_cases h5 : digit c = true
  · rw [if_pos h5] at h
    by_cases h6 : 9 < (r.takeWhile digit).length + 1
    · rw [if_pos h6] at h; cases h
    rw [if_neg h6] at h
    by_cases h7 : c.toNat = 48 ∧ 1 < (r.takeWhile digit).length + 1
    · rw [if_pos h7] at h; cases h
    rw [if_neg h7] at h
    by_cases h8 : startsInner (r.drop (r.takeWhile digit).length) = true
    · rw [if_pos h8] at h; cases h
    rw [if_neg h8] at h
    injection h with e1 e2 e3 e4
    subst e1; subst e2; subst e3; subst e4
    have hi := num_of h5 h7
    have hb := val_lt _ hi.2.1
    have hp : 10 ^ (c :: r.takeWhile digit).length ≤ 10 ^ 9 := Nat.pow_le_pow_right (by decide) (by simp; omega)
    refine ⟨.inr (.inl ⟨rfl, rfl, by simp only; omega⟩), ?_, fun _ => by simpa using h8⟩
    simp only [text, if_true, if_neg (show ¬ (2 : Nat) = 1 by decide)]
    rw [dec_val _ hi]; simp [take_takeWhile]
  rw [if_neg h5] at h
  by_cases h6 : c.toNat = 123
  · rw [if_pos h6] at h
    injection h with e1 e2 e3 e4
    subst e1; subst e2; subst e3; subst e4
    obtain rfl : c = 123 := UInt8.toNat_inj.1 (h6.trans (by decide))
    exact ⟨.inr (.inr ⟨.inl rfl, rfl, rfl⟩), rfl, fun hk => absurd hk (by decide)⟩
  rw [if_neg h6] at h
  by_cases h7 : c.toNat = 125
  · rw [if_pos h7] at h
    injection h with e1 e2 e3 e4
    subst e1; subst e2; subst e3; subst e4
    obtain rfl : c = 125 := UInt8.toNat_inj.1 (h7.trans (by decide))
    exact ⟨.inr (.inr ⟨.inr (.inl rfl), rfl, rfl⟩), rfl, fun hk => absurd hk (by decide)⟩
  rw [if_neg h7] at h
  by_cases h8 : c.toNat = 59
  · rw [if_pos h8] at h
    injection h with e1 e2 e3 e4
    subst e1; subst e2; subst e3; subst e4
    obtain rfl : c = 59 := UInt8.toNat_inj.1 (h8.trans (by decide))
    exact ⟨.inr (.inr ⟨.inr (.inr rfl), rfl, rfl⟩), rfl, fun hk => absurd hk (by decide)⟩
  · rw [if_neg h8] at h; cases h

/-- what is passed over: a blank, or a remark to its line's end -/
theorem step_skip {c : UInt8} {r : List UInt8} {n : Nat} (h : step c r = .skip n) :
    (blank c = true ∧ n = 1) ∨ (c.toNat = 35 ∧ blank c = false ∧ n = (r.takeWhile onLine).length + 1) := by
  unfold step at h
  by_cases h1 : blank c = true
  · rw [if_pos h1] at h; injection h with h; exact .inl ⟨h1, h.symm⟩
  rw [if_neg h1] at h
  by_cases h2 : c.toNat = 35
  · rw [if_pos h2] at h; injection h with h; exact .inr ⟨h2, by simpa using h1, h.symm⟩
  rw [if_neg h2] at h
  repeat' split at h
  all_goals cases h

theorem line_end {l : List UInt8} (h : ∀ c m, l = c :: m → onLine c = false) : l = [] ∨ ∃ z, l = 10 :: z := by
  cases l with
  | nil => exact .inl rfl
  | cons c m =>
    have := h c m rfl
    unfold onLine at this
    simp at this
    obtain rfl : c = 10 := UInt8.toNat_inj.1 (this.trans (by decide))
    exact .inr ⟨m, rfl⟩

theorem skip_rest {c : UInt8} {r : List UInt8} {n : Nat} (h : step c r = .skip n) (hc : blank c = false) : r.drop (n - 1) = [] ∨ ∃ z, r.drop (n - 1) = 10 :: z := by
  rcases step_skip h with ⟨hb, _⟩ | ⟨_, _, rfl⟩
  · rw [hc] at hb; cases hb
  · exact line_end (fun d m hd => drop_takeWhile r d m hd)

/-- what is passed over is so ahead of another rest, too -/
theorem cut_skipped {c : UInt8} {r : List UInt8} {n : Nat} (h : step c r = .skip n) (x : List UInt8) (hx : blank c = false → x = [] ∨ ∃ z, x = 10 :: z) (cnt p : Nat) :
    cut ((c :: r).take n ++ x) cnt p = cut x cnt (p + n) := by
  rcases step_skip h with ⟨hb, rfl⟩ | ⟨h1, h2, rfl⟩
  · exact cut_blank hb x cnt p
  · rw [List.take_succ_cons, take_takeWhile, List.cons_append]
    have e : (r.takeWhile onLine ++ x).takeWhile onLine = r.takeWhile onLine := by
      refine takeWhile_all _ _ (fun d hd => mem_takeWhile r d hd) (fun d m hd => ?_)
      rcases hx h2 with rfl | ⟨z, rfl⟩
      · cases hd
      · injection hd with hd _; rw [← hd]; decide
    rw [cut_skip (n := (r.takeWhile onLine).length + 1) cnt p (by unfold step; rw [if_neg (by simp [h2]), if_pos h1, e])]
    rw [Nat.add_sub_cancel, List.drop_append_of_le_length (Nat.le_refl _), List.drop_length, List.nil_append]

/-- all tokens are tokens, there are not too many, and they begin behind p -/
theorem cut_tokens (m : Nat) : ∀ (l : List UInt8) (cnt p : Nat) (a : List Tk), l.length ≤ m → cut l cnt p = .ok a →
    (∀ t ∈ a, Fine t ∧ p ≤ t.a) ∧ a.length ≤ l.length ∧ (cnt ≤ 8192 → cnt + a.length ≤ 8192) := by
  induction m with
  | zero =>
    intro l cnt p a hl h
    rw [List.eq_nil_of_length_eq_zero (Nat.le_zero.1 hl), cut_nil] at h
    injection h with h; subst h; simp
  | succ m ih =>
    intro l cnt p a hl h
    cases l with
    | nil => rw [cut_nil] at h; injection h with h; subst h; simp
    | cons c r =>
      simp only [List.length_cons] at hl
      cases hs : step c r with
      | skip n =>
        rw [cut_skip _ _ hs] at h
        have hn := step_skip_le hs
        obtain ⟨i1, i2, i3⟩ := ih _ _ _ _ (by simp; omega) h
        simp at i2
        exact ⟨fun t ht => ⟨(i1 t ht).1, by have := (i1 t ht).2; omega⟩, by simp; omega, i3⟩
      | wrong => rw [cut_wrong _ _ hs] at h; cases h
      | err e o => rw [cut_err _ _ hs] at h; split at h <;> cases h
      | tok k n s len =>
        rw [cut_tok _ _ hs] at h
        have hn := step_tok_le hs
        split at h
        · cases h
        · rename_i hc
          cases hr : cut (r.drop (len - 1)) (cnt + 1) (p + len) with
          | error x => rw [hr] at h; cases h
          | ok b =>
            rw [hr] at h; injection h with h; subst h
            obtain ⟨i1, i2, i3⟩ := ih _ _ _ _ (by simp; omega) hr
            simp at i2
            refine ⟨fun t ht => ?_, by simp; omega, fun hc' => by have := i3 (by omega); simp; omega⟩
            rcases List.mem_cons.1 ht with rfl | ht
            · exact ⟨(step_tok p hs).1, Nat.le_refl _⟩
            · exact ⟨(i1 t ht).1, by have := (i1 t ht).2; omega⟩

/-- places, and how many tokens stand ahead, change nothing else -/
theorem cut_shift (m : Nat) : ∀ (l : List UInt8) (cnt p cnt' p' : Nat) (a : List Tk), l.length ≤ m → cut l cnt p = .ok a → cnt' + a.length ≤ 8192 →
    ∃ b, cut l cnt' p' = .ok b ∧ b.map bare = a.map bare := by
  induction m with
  | zero =>
    intro l cnt p cnt' p' a hl h _
    have e := List.eq_nil_of_length_eq_zero (Nat.le_zero.1 hl)
    rw [e, cut_nil] at h
    injection h with h; subst h; exact ⟨[], by rw [e, cut_nil], rfl⟩
  | succ m ih =>
    intro l cnt p cnt' p' a hl h ha
    cases l with
    | nil => rw [cut_nil] at h; injection h with h; subst h; exact ⟨[], by rw [cut_nil], rfl⟩
    | cons c r =>
      simp only [List.length_cons] at hl
      cases hs : step c r with
      | skip n =>
        rw [cut_skip _ _ hs] at h ⊢
        have hn := step_skip_le hs
        exact ih _ _ _ _ _ _ (by simp; omega) h ha
      | wrong => rw [cut_wrong _ _ hs] at h; cases h
      | err e o => rw [cut_err _ _ hs] at h; split at h <;> cases h
      | tok k n s len =>
        rw [cut_tok _ _ hs] at h ⊢
        have hn := step_tok_le hs
        split at h
        · cases h
        · cases hr : cut (r.drop (len - 1)) (cnt + 1) (p + len) with
          | error x => rw [hr] at h; cases h
          | ok b =>
            rw [hr] at h; injection h with h; subst h
            simp only [List.length_cons] at ha
            obtain ⟨b', hb, hm⟩ := ih _ _ _ (cnt' + 1) (p' + len) _ (by simp; omega) hr (by omega)
            rw [if_neg (by omega), hb]
            exact ⟨_, rfl, by rw [List.map_cons, List.map_cons, hm]; rfl⟩

/-! ## Ahead of a token -/
theorem cut_before (m : Nat) : ∀ (l : List UInt8) (cnt p : Nat) (a1 : List Tk) (t : Tk) (a2 : List Tk), l.length ≤ m → cut l cnt p = .ok (a1 ++ t :: a2) →
    ∃ j, j < l.length ∧ t.a = p + j ∧ (∀ x, cut (l.take j ++ 32 :: x) cnt p = (cut x (cnt + a1.length) (p + j + 1)).map (a1 ++ ·)) ∧ cut (l.drop j) (cnt + a1.length) (p + j) = .ok (t :: a2) := by
  induction m with
  | zero =>
    intro l cnt p a1 t a2 hl h
    rw [List.eq_nil_of_length_eq_zero (Nat.le_zero.1 hl), cut_nil] at h
    injection h with h; simp at h
  | succ m ih =>
    intro l cnt p a1 t a2 hl h
    cases l with
    | nil => rw [cut_nil] at h; injection h with h; simp at h
    | cons c r =>
      simp only [List.length_cons] at hl
      cases hs : step c r with
      | skip n =>
        rw [cut_skip _ _ hs] at h
        have hn := step_skip_le hs
        obtain ⟨j, hj, ht, hx, hd⟩ := ih _ _ _ _ _ _ (by simp; omega) h
        simp at hj
        have hdrop : (c :: r).drop (n + j) = (r.drop (n - 1)).drop j := by
          obtain ⟨n, rfl⟩ : ∃ q, n = q + 1 := ⟨n - 1, by omega⟩
          rw [List.drop_drop, show n + 1 + j = (n + 1 - 1 + j) + 1 by omega, List.drop_succ_cons]
        have htake : (c :: r).take (n + j) = (c :: r).take n ++ (r.drop (n - 1)).take j := by
          obtain ⟨n, rfl⟩ : ∃ q, n = q + 1 := ⟨n - 1, by omega⟩
          rw [List.take_add]; simp
        have hj1 : blank c = false → ∃ z, (r.drop (n - 1)).take j = 10 :: z := by
          intro hb
          rcases skip_rest hs hb with e | ⟨z, e⟩
          · rw [e, cut_nil] at h; injection h with h; simp at h
          · rw [e]
            cases j with
            | zero =>
              exfalso
              rw [e, cut_blank (by decide)] at h
              have := (cut_tokens _ _ _ _ _ (Nat.le_refl _) h).1 t (by simp)
              omega
            | succ j => exact ⟨z.take j, rfl⟩
        refine ⟨n + j, by simp; omega, by omega, fun x => ?_, ?_⟩
        · rw [htake, List.append_assoc, cut_skipped hs _ (fun hb => by obtain ⟨z, e⟩ := hj1 hb; exact .inr ⟨z ++ 32 :: x, by rw [e]; rfl⟩), hx x, show p + n + j + 1 = p + (n + j) + 1 by omega]
        · rw [hdrop, show p + (n + j) = p + n + j by omega]; exact hd
      | wrong => rw [cut_wrong _ _ hs] at h; cases h
      | err e o => rw [cut_err _ _ hs] at h; split at h <;> cases h
      | tok k n s len =>
        have h' := h
        rw [cut_tok _ _ hs] at h
        have hn := step_tok_le hs
        obtain ⟨g1, g2, g3⟩ := step_tok p hs
        split at h
        · cases h
        · rename_i hc
          cases hr : cut (r.drop (len - 1)) (cnt + 1) (p + len) with
          | error x => rw [hr] at h; cases h
          | ok b =>
            rw [hr] at h; injection h with h
            cases a1 with
            | nil =>
              injection h with h1 h2
              subst h1
              refine ⟨0, by simp, rfl, fun x => ?_, h'⟩
              rw [List.take_zero, List.nil_append, cut_blank (by decide)]
              simp only [List.length_nil, Nat.add_zero, List.nil_append]
              cases cut x cnt (p + 1) <;> rfl
            | cons t0 a1 =>
              injection h with h1 h2
              subst h1
              rw [h2] at hr
              obtain ⟨j, hj, ht, hx, hd⟩ := ih _ _ _ _ _ _ (by simp; omega) hr
              simp at hj
              have hdrop : (c :: r).drop (len + j) = (r.drop (len - 1)).drop j := by
                obtain ⟨len, rfl⟩ : ∃ q, len = q + 1 := ⟨len - 1, by omega⟩
                rw [List.drop_drop, show len + 1 + j = (len + 1 - 1 + j) + 1 by omega, List.drop_succ_cons]
              have htake : (c :: r).take (len + j) = (c :: r).take len ++ (r.drop (len - 1)).take j := by
                obtain ⟨len, rfl⟩ : ∃ q, len = q + 1 := ⟨len - 1, by omega⟩
                rw [List.take_add]; simp
              have hlen : (text ⟨k, p, n, s⟩).length = len := by rw [g2, List.length_take]; simp; omega
              refine ⟨len + j, by simp; omega, by omega, fun x => ?_, ?_⟩
              · rw [htake, List.append_assoc, ← g2, cut_text cnt p g1 (fun hk => ?_) hc, hlen, hx x]
                · rw [show cnt + 1 + a1.length = cnt + (a1.length + 1) by omega, show p + len + j + 1 = p + (len + j) + 1 by omega]
                  simp only [List.length_cons]
                  cases cut x (cnt + (a1.length + 1)) (p + (len + j) + 1) <;> rfl
                · have := g3 hk
                  cases hq : r.drop (len - 1) with
                  | nil => simp [startsInner]; decide
                  | cons d q =>
                    rw [hq] at this
                    cases j with
                    | zero => exact (by decide : inner 32 = false)
                    | succ j => exact this
              · rw [hdrop, show cnt + (Tk.mk k p n s :: a1).length = cnt + 1 + a1.length by simp; omega, show p + (len + j) = p + len + j by omega]; exact hd

end Go.Proofs.YtkpjkdeomoecjaaDoor.Zm
