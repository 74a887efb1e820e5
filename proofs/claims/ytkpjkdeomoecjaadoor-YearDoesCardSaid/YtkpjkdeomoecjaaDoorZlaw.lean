/- Tokens and their texts, as plain mathematics: what a token's text is cut into, and that places do not matter. No condition. -/
import Derived.WalkKit
import Derived.Lib.ItoaNum
import Derived.Test.YtkpjkdeomoecjaaDoorZmath
namespace Go.Proofs.YtkpjkdeomoecjaaDoor.Zm
set_option linter.unusedSimpArgs false
set_option linter.unusedVariables false
open Go.Lib (decDigits)

/-! ## Digits -/
theorem val_snoc (l : List UInt8) (c : UInt8) : val (l ++ [c]) = 10 * val l + (c.toNat - 48) := by simp [val]

theorem ofNat_toNat {k : Nat} (h : k < 10) : (UInt8.ofNat (48 + k)).toNat = 48 + k := by
  rw [UInt8.toNat_ofNat']; omega

theorem dec_eq (u : Nat) : decDigits u = if u < 10 then [UInt8.ofNat (48 + u)] else decDigits (u / 10) ++ [UInt8.ofNat (48 + u % 10)] := by
  rw [decDigits]; split <;> rfl

theorem val_dec (u : Nat) : val (decDigits u) = u := by
  induction u using Nat.strongRecOn with
  | _ u ih =>
    rw [dec_eq]
    by_cases h : u < 10
    · rw [if_pos h]; simp only [val, List.foldl]; rw [ofNat_toNat h]; omega
    · rw [if_neg h, val_snoc, ih _ (by omega), ofNat_toNat (by omega)]; omega

/-- digits alone, and the first is no 0, but 0 itself -/
def IsNum (l : List UInt8) : Prop := l ≠ [] ∧ (∀ c ∈ l, digit c = true) ∧ (∀ r, l = 48 :: r → r = [])

theorem digit_ofNat {k : Nat} (h : k < 10) : digit (UInt8.ofNat (48 + k)) = true := by
  unfold digit; rw [ofNat_toNat h]; simp; omega

theorem dec_num (u : Nat) : IsNum (decDigits u) ∧ (1 ≤ u → ∀ c r, decDigits u = c :: r → c ≠ 48) := by
  induction u using Nat.strongRecOn with
  | _ u ih =>
    rw [dec_eq]
    by_cases h : u < 10
    · rw [if_pos h]
      refine ⟨⟨by simp, fun c hc => ?_, fun r hr => by injection hr with _ hr; exact hr.symm⟩, fun hu c r hr hc => ?_⟩
      · rw [List.mem_singleton.1 hc]; exact digit_ofNat h
      · injection hr with hr _
        have := congrArg UInt8.toNat (hr.trans hc)
        rw [ofNat_toNat h] at this
        have : (48 : UInt8).toNat = 48 := by decide
        omega
    · rw [if_neg h]
      obtain ⟨⟨i1, i2, i3⟩, i4⟩ := ih (u / 10) (by omega)
      have i5 := i4 (by omega)
      obtain ⟨d, l, hd⟩ : ∃ d l, decDigits (u / 10) = d :: l := by
        cases hq : decDigits (u / 10) with
        | nil => exact absurd hq i1
        | cons d l => exact ⟨d, l, rfl⟩
      have i6 := i5 d l hd
      refine ⟨⟨by simp, fun c hc => ?_, fun r hr => ?_⟩, fun _ c r hr => ?_⟩
      · rcases List.mem_append.1 hc with hc | hc
        · exact i2 c hc
        · rw [List.mem_singleton.1 hc]; exact digit_ofNat (by omega)
      · rw [hd] at hr; injection hr with hr _; exact absurd hr i6
      · rw [hd] at hr; injection hr with hr _; rw [← hr]; exact i6

theorem digit_bd {c : UInt8} (h : digit c = true) : 48 ≤ c.toNat ∧ c.toNat ≤ 57 := by
  unfold digit at h; simpa using h

theorem val_lt (l : List UInt8) (h : ∀ c ∈ l, digit c = true) : val l < 10 ^ l.length := by
  induction hn : l.length generalizing l with
  | zero => rw [List.eq_nil_of_length_eq_zero hn]; decide
  | succ n ih =>
    obtain ⟨m, c, rfl⟩ : ∃ m c, l = m ++ [c] := ⟨l.dropLast, l.getLast (by intro e; simp [e] at hn), (List.dropLast_concat_getLast _).symm⟩
    have := ih m (fun c hc => h c (by simp [hc])) (by simpa using hn)
    have := digit_bd (h c (by simp))
    rw [val_snoc, Nat.pow_succ]; omega

theorem val_pos (l : List UInt8) (h : ∀ c ∈ l, digit c = true) (h0 : ∀ c r, l = c :: r → c ≠ 48) (hn : l ≠ []) : 1 ≤ val l := by
  induction hk : l.length generalizing l with
  | zero => exact absurd (List.eq_nil_of_length_eq_zero hk) hn
  | succ n ih =>
    obtain ⟨m, c, rfl⟩ : ∃ m c, l = m ++ [c] := ⟨l.dropLast, l.getLast (by intro e; simp [e] at hk), (List.dropLast_concat_getLast _).symm⟩
    rw [val_snoc]
    by_cases hm : m = []
    · subst hm
      have a := digit_bd (h c (by simp))
      have b := h0 c [] rfl
      have : c.toNat ≠ 48 := fun e => b (UInt8.toNat_inj.1 (e.trans (by decide)))
      omega
    · have := ih m (fun c hc => h c (by simp [hc])) (fun d r hr => h0 d (r ++ [c]) (by rw [hr]; rfl)) hm (by simpa using hk)
      omega

theorem dec_val (l : List UInt8) (hl : IsNum l) : decDigits (val l) = l := by
  obtain ⟨h1, h2, h3⟩ := hl
  induction hk : l.length generalizing l with
  | zero => exact absurd (List.eq_nil_of_length_eq_zero hk) h1
  | succ n ih =>
    obtain ⟨m, c, rfl⟩ : ∃ m c, l = m ++ [c] := ⟨l.dropLast, l.getLast (by intro e; simp [e] at hk), (List.dropLast_concat_getLast _).symm⟩
    have a := digit_bd (h2 c (by simp))
    have hc : UInt8.ofNat (48 + (c.toNat - 48)) = c := by rw [show 48 + (c.toNat - 48) = c.toNat by omega]; simp
    rw [dec_eq, val_snoc]
    by_cases hm : m = []
    · subst hm
      rw [if_pos (by simp [val]; omega)]
      rw [show 10 * val ([] : List UInt8) + (c.toNat - 48) = c.toNat - 48 by simp [val], hc]; rfl
    · have n0 : ∀ d r, m = d :: r → d ≠ 48 := by
        intro d r hr hd
        have := h3 (r ++ [c]) (by rw [hr, hd]; rfl)
        simp at this
      have hp := val_pos m (fun c hc => h2 c (by simp [hc])) n0 hm
      rw [if_neg (by omega), show (10 * val m + (c.toNat - 48)) / 10 = val m by omega, show (10 * val m + (c.toNat - 48)) % 10 = c.toNat - 48 by omega, hc,
        ih m hm (fun c hc => h2 c (by simp [hc])) (fun r hr => absurd rfl (n0 48 r hr)) (by simpa using hk)]

theorem dec_len {u k : Nat} (h : u < 10 ^ k) (hk : 1 ≤ k) : (decDigits u).length ≤ k := by
  induction k generalizing u with
  | zero => omega
  | succ k ih =>
    rw [dec_eq]
    by_cases hu : u < 10
    · rw [if_pos hu]; simp
    · rw [if_neg hu]
      rcases Nat.eq_zero_or_pos k with h0 | h0
      · subst h0; omega
      · have := ih (u := u / 10) (by rw [Nat.pow_succ] at h; omega) h0
        simp; omega

/-! ## Names, and texts of tokens -/
def name : List UInt8 → Bool
  | [] => false
  | c :: r => letter c && r.all inner && decide (r.length + 1 ≤ 16)

def text (t : Tk) : List UInt8 :=
  if t.k = 1 then t.s else if t.k = 2 then decDigits t.n else if t.k = 3 then [123] else if t.k = 4 then [125] else [59]

def Fine (t : Tk) : Prop :=
  (t.k = 1 ∧ t.n = 0 ∧ name t.s = true) ∨ (t.k = 2 ∧ t.s = [] ∧ t.n ≤ 999999999) ∨ ((t.k = 3 ∨ t.k = 4 ∨ t.k = 5) ∧ t.s = [] ∧ t.n = 0)

theorem takeWhile_all {p : UInt8 → Bool} (l m : List UInt8) (h : ∀ c ∈ l, p c = true) (hm : ∀ c r, m = c :: r → p c = false) : (l ++ m).takeWhile p = l := by
  induction l with
  | nil => cases m with
    | nil => rfl
    | cons c r => simp [List.takeWhile_cons, hm c r rfl]
  | cons c l ih => simp [List.takeWhile_cons, h c (by simp), ih (fun d hd => h d (by simp [hd]))]

theorem letter_facts {c : UInt8} (h : letter c = true) : blank c = false ∧ c.toNat ≠ 35 ∧ digit c = false := by
  unfold letter at h; unfold blank digit; simp at *; omega
theorem digit_facts {c : UInt8} (h : digit c = true) : blank c = false ∧ c.toNat ≠ 35 ∧ letter c = false := by
  unfold digit at h; unfold blank letter; simp at *; omega

theorem starts_not {m : List UInt8} (h : startsInner m = false) : ∀ c r, m = c :: r → inner c = false := by
  intro c r e; subst e; exact h
theorem not_digit {c : UInt8} (h : inner c = false) : digit c = false := by
  unfold inner at h; cases e : digit c
  · rfl
  · simp [e] at h

theorem step_name {c : UInt8} {r m : List UInt8} (h : name (c :: r) = true) (hm : startsInner m = false) : step c (r ++ m) = .tok 1 0 (c :: r) (r.length + 1) := by
  simp only [name, Bool.and_eq_true, decide_eq_true_eq, List.all_eq_true] at h
  obtain ⟨⟨h1, h2⟩, h3⟩ := h
  obtain ⟨f1, f2, f3⟩ := letter_facts h1
  unfold step
  rw [takeWhile_all r m h2 (starts_not hm), f1, h1]
  simp only [Bool.false_eq_true, if_false, if_neg f2, if_true]
  rw [if_neg (by omega)]

theorem step_num {c : UInt8} {r m : List UInt8} (h : IsNum (c :: r)) (h9 : r.length + 1 ≤ 9) (hm : startsInner m = false) : step c (r ++ m) = .tok 2 (val (c :: r)) [] (r.length + 1) := by
  obtain ⟨h1, h2, h3⟩ := h
  have hc := h2 c (by simp)
  obtain ⟨f1, f2, f3⟩ := digit_facts hc
  have e := takeWhile_all (p := digit) r m (fun d hd => h2 d (by simp [hd])) (fun d q hd => not_digit (starts_not hm d q hd))
  unfold step
  rw [e, f1, f3, hc]
  simp only [Bool.false_eq_true, if_false, if_neg f2, if_true]
  rw [if_neg (by omega), if_neg, if_neg]
  · simp [hm]
  · rintro ⟨g1, g2⟩
    have : c = 48 := UInt8.toNat_inj.1 (g1.trans (by decide))
    have := h3 r (by rw [this])
    simp [this] at g2

/-- a token's text, behind which nothing stands that goes on with it, is cut into it -/
theorem cut_text {t : Tk} {m : List UInt8} (cnt p : Nat) (ht : Fine t) (hm : t.k ≤ 2 → startsInner m = false) (hc : cnt ≠ 8192) :
    cut (text t ++ m) cnt p = (cut m (cnt + 1) (p + (text t).length)).map (⟨t.k, p, t.n, t.s⟩ :: ·) := by
  obtain ⟨k, a, n, s⟩ := t
  rcases ht with ⟨hk, hn, hs⟩ | ⟨hk, hs, hn⟩ | ⟨hk, hs, hn⟩
  · simp only at hk hn hs; subst hk; subst hn
    simp only [text, if_true]
    cases s with
    | nil => simp [name] at hs
    | cons c r =>
      rw [List.cons_append, cut_tok _ _ (step_name hs (hm (by simp))), if_neg hc]
      simp [Nat.add_assoc]
  · simp only at hk hn hs; subst hk; subst hs
    simp only [text, if_true, if_neg (show ¬ (2 : Nat) = 1 by decide)]
    have hl := dec_len (u := n) (k := 9) (by omega) (by omega)
    have hi := (dec_num n).1
    have hv := val_dec n
    cases hd : decDigits n with
    | nil => exact absurd hd hi.1
    | cons c r =>
      rw [hd] at hl hi hv
      rw [List.cons_append, cut_tok _ _ (step_num hi (by simpa using hl) (hm (by simp))), if_neg hc, hv]
      simp [Nat.add_assoc]
  · simp only at hk hn hs; subst hs; subst hn
    rcases hk with hk | hk | hk <;> subst hk
    · exact (cut_tok (c := 123) (r := m) (k := 3) (n := 0) (len := 1) (s := []) cnt p rfl).trans (by rw [if_neg hc]; rfl)
    · exact (cut_tok (c := 125) (r := m) (k := 4) (n := 0) (len := 1) (s := []) cnt p rfl).trans (by rw [if_neg hc]; rfl)
    · exact (cut_tok (c := 59) (r := m) (k := 5) (n := 0) (len := 1) (s := []) cnt p rfl).trans (by rw [if_neg hc]; rfl)

/-! ## Join -/
def join : List Tk → List UInt8
  | [] => []
  | [t] => text t
  | t :: u :: l => text t ++ 32 :: join (u :: l)

/-- a token but for its place -/
def bare (t : Tk) : Nat × Nat × List UInt8 := (t.k, t.n, t.s)

theorem cut_blank {c : UInt8} (h : blank c = true) (r : List UInt8) (cnt p : Nat) : cut (c :: r) cnt p = cut r cnt (p + 1) := by
  rw [cut_skip (n := 1) cnt p (by unfold step; rw [h]; rfl)]; rfl

/-- P8.4: what was put together is cut into the same tokens -/
theorem cut_join (l : List Tk) (hl : ∀ t ∈ l, Fine t) (cnt p : Nat) (hc : cnt + l.length ≤ 8192) : ∃ b, cut (join l) cnt p = .ok b ∧ b.map bare = l.map bare := by
  induction l generalizing cnt p with
  | nil => exact ⟨[], cut_nil _ _, rfl⟩
  | cons t l ih =>
    simp only [List.length_cons] at hc
    cases l with
    | nil =>
      have := cut_text (m := []) cnt p (hl t (by simp)) (fun _ => rfl) (by omega)
      rw [List.append_nil, cut_nil] at this
      exact ⟨_, this, rfl⟩
    | cons u l =>
      obtain ⟨b, hb, hm⟩ := ih (fun t ht => hl t (by simp [ht])) (cnt + 1) (p + (text t).length + 1) (by simp at hc ⊢; omega)
      refine ⟨⟨t.k, p, t.n, t.s⟩ :: b, ?_, ?_⟩
      · rw [join, cut_text cnt p (hl t (by simp)) (fun _ => rfl) (by omega), cut_blank (by decide), hb]; rfl
      · rw [List.map_cons, hm]; rfl

end Go.Proofs.YtkpjkdeomoecjaaDoor.Zm
