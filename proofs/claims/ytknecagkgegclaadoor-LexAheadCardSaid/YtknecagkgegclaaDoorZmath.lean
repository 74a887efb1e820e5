/- Cutting a text into tokens, as plain mathematics over lists of bytes: one step, the whole, and what a line's end behind a text changes. No condition. -/
import Derived.WalkKit
namespace Go.Proofs.YtknecagkgegclaaDoor.Zm
set_option linter.unusedSimpArgs false
set_option linter.unusedVariables false

def letter (c : UInt8) : Bool := decide (97 ≤ c.toNat) && decide (c.toNat ≤ 122)
def digit (c : UInt8) : Bool := decide (48 ≤ c.toNat) && decide (c.toNat ≤ 57)
def inner (c : UInt8) : Bool := letter c || digit c || decide (c.toNat = 45)
def blank (c : UInt8) : Bool := decide (c.toNat = 32) || decide (c.toNat = 9) || decide (c.toNat = 10)
def onLine (c : UInt8) : Bool := !decide (c.toNat = 10)
def val (l : List UInt8) : Nat := l.foldl (fun n c => 10 * n + (c.toNat - 48)) 0

/-- a token: its kind, place, number and name -/
structure Tk where
  k : Nat
  a : Nat
  n : Nat
  s : List UInt8

inductive Step where
  | skip (n : Nat)
  | wrong
  | err (e off : Nat)
  | tok (k n : Nat) (s : List UInt8) (len : Nat)

def startsInner : List UInt8 → Bool
  | [] => false
  | c :: _ => inner c

/-- what stands at a byte c, r behind it -/
def step (c : UInt8) (r : List UInt8) : Step :=
  if blank c then .skip 1
  else if c.toNat = 35 then .skip ((r.takeWhile onLine).length + 1)
  else if letter c then
    if 16 < (r.takeWhile inner).length + 1 then .err 6 0 else .tok 1 0 (c :: r.takeWhile inner) ((r.takeWhile inner).length + 1)
  else if digit c then
    if 9 < (r.takeWhile digit).length + 1 then .err 6 0
    else if c.toNat = 48 ∧ 1 < (r.takeWhile digit).length + 1 then .err 5 0
    else if startsInner (r.drop (r.takeWhile digit).length) then .err 5 ((r.takeWhile digit).length + 1)
    else .tok 2 (val (c :: r.takeWhile digit)) [] ((r.takeWhile digit).length + 1)
  else if c.toNat = 123 then .tok 3 0 [] 1
  else if c.toNat = 125 then .tok 4 0 [] 1
  else if c.toNat = 59 then .tok 5 0 [] 1
  else .wrong

theorem takeWhile_le {p : UInt8 → Bool} (r : List UInt8) : (r.takeWhile p).length ≤ r.length := by
  induction r with
  | nil => simp
  | cons c r ih => by_cases h : p c <;> simp [List.takeWhile_cons, h] <;> omega

/-- cnt tokens stand ahead, p is the place of the first byte -/
def cut (l : List UInt8) (cnt p : Nat) : Except (Nat × Nat) (List Tk) :=
  match l with
  | [] => .ok []
  | c :: r =>
    match step c r with
    | .skip n => cut (r.drop (n - 1)) cnt (p + n)
    | .wrong => .error (5, p)
    | .err e o => if cnt = 8192 then .error (6, p) else .error (e, p + o)
    | .tok k n s len =>
      if cnt = 8192 then .error (6, p)
      else match cut (r.drop (len - 1)) (cnt + 1) (p + len) with
        | .ok a => .ok (⟨k, p, n, s⟩ :: a)
        | .error x => .error x
  termination_by l.length
  decreasing_by all_goals (simp; omega)

theorem cut_nil (cnt p : Nat) : cut [] cnt p = .ok [] := by rw [cut]

theorem cut_skip {c : UInt8} {r : List UInt8} {n : Nat} (cnt p : Nat) (h : step c r = .skip n) : cut (c :: r) cnt p = cut (r.drop (n - 1)) cnt (p + n) := by rw [cut]; simp only [h]

theorem cut_wrong {c : UInt8} {r : List UInt8} (cnt p : Nat) (h : step c r = .wrong) : cut (c :: r) cnt p = .error (5, p) := by rw [cut]; simp only [h]

theorem cut_err {c : UInt8} {r : List UInt8} {e o : Nat} (cnt p : Nat) (h : step c r = .err e o) : cut (c :: r) cnt p = if cnt = 8192 then .error (6, p) else .error (e, p + o) := by rw [cut]; simp only [h]

theorem cut_tok {c : UInt8} {r : List UInt8} {k n len : Nat} {s : List UInt8} (cnt p : Nat) (h : step c r = .tok k n s len) :
    cut (c :: r) cnt p = if cnt = 8192 then .error (6, p) else (cut (r.drop (len - 1)) (cnt + 1) (p + len)).map (⟨k, p, n, s⟩ :: ·) := by
  rw [cut]; simp only [h]; split
  · rfl
  · cases cut (r.drop (len - 1)) (cnt + 1) (p + len) <;> rfl

/-- with what was cut ahead of it -/
def tot (l : List UInt8) (p : Nat) (acc : List Tk) : Except (Nat × Nat) (List Tk) := (cut l acc.length p).map (acc ++ ·)

theorem tot_nil (p : Nat) (acc : List Tk) : tot [] p acc = .ok acc := by simp [tot, cut_nil, Except.map]

theorem tot_skip {c : UInt8} {r : List UInt8} {n : Nat} (p : Nat) (acc : List Tk) (h : step c r = .skip n) : tot (c :: r) p acc = tot (r.drop (n - 1)) (p + n) acc := by rw [tot, cut_skip _ _ h]; rfl

theorem tot_wrong {c : UInt8} {r : List UInt8} (p : Nat) (acc : List Tk) (h : step c r = .wrong) : tot (c :: r) p acc = .error (5, p) := by rw [tot, cut_wrong _ _ h]; rfl

theorem tot_full {c : UInt8} {r : List UInt8} (p : Nat) (acc : List Tk) (hn : ∀ n, step c r ≠ .skip n) (hw : step c r ≠ .wrong) (ha : acc.length = 8192) : tot (c :: r) p acc = .error (6, p) := by
  rw [tot, ha]
  cases h : step c r with
  | skip n => exact absurd h (hn n)
  | wrong => exact absurd h hw
  | err e o => rw [cut_err _ _ h]; rfl
  | tok k n s len => rw [cut_tok _ _ h]; rfl

theorem tot_err {c : UInt8} {r : List UInt8} {e o : Nat} (p : Nat) (acc : List Tk) (h : step c r = .err e o) (ha : acc.length ≠ 8192) : tot (c :: r) p acc = .error (e, p + o) := by
  rw [tot, cut_err _ _ h, if_neg ha]; rfl

theorem tot_tok {c : UInt8} {r : List UInt8} {k n len : Nat} {s : List UInt8} (p : Nat) (acc : List Tk) (h : step c r = .tok k n s len) (ha : acc.length ≠ 8192) :
    tot (c :: r) p acc = tot (r.drop (len - 1)) (p + len) (acc ++ [⟨k, p, n, s⟩]) := by
  rw [tot, cut_tok _ _ h, if_neg ha, tot]
  simp only [List.length_append, List.length_cons, List.length_nil, Nat.zero_add]
  cases cut (r.drop (len - 1)) (acc.length + 1) (p + len) <;> simp [Except.map]

/-! ## Lengths -/
theorem step_skip_le {c : UInt8} {r : List UInt8} {n : Nat} (h : step c r = .skip n) : 1 ≤ n ∧ n ≤ r.length + 1 := by
  have a := takeWhile_le (p := onLine) r
  unfold step at h
  repeat' split at h
  all_goals first
    | (injection h with h; omega)
    | cases h

theorem step_tok_le {c : UInt8} {r : List UInt8} {k n len : Nat} {s : List UInt8} (h : step c r = .tok k n s len) : 1 ≤ len ∧ len ≤ r.length + 1 := by
  have a := takeWhile_le (p := inner) r
  have b := takeWhile_le (p := digit) r
  unfold step at h
  repeat' split at h
  all_goals first
    | (injection h with h1 h2 h3 h4; omega)
    | cases h

theorem step_err_le {c : UInt8} {r : List UInt8} {e o : Nat} (h : step c r = .err e o) : o ≤ r.length := by
  have b := takeWhile_le (p := digit) r
  unfold step at h
  repeat' split at h
  all_goals first
    | (injection h with h1 h2; omega)
    | (injection h with h1 h2
       rename_i hs
       rcases Nat.lt_or_ge (r.takeWhile digit).length r.length with g | g
       · omega
       · rw [List.drop_eq_nil_of_le g] at hs; cases hs)
    | cases h

/-! ## A line's end behind a text -/
theorem takeWhile_more {p : UInt8 → Bool} {b : UInt8} (hb : p b = false) (r t : List UInt8) : (r ++ b :: t).takeWhile p = r.takeWhile p := by
  induction r with
  | nil => simp [List.takeWhile_cons, hb]
  | cons c r ih => by_cases h : p c <;> simp [List.takeWhile_cons, h, ih]

theorem starts_more {b : UInt8} (hb : inner b = false) (l t : List UInt8) : startsInner (l ++ b :: t) = startsInner l := by
  cases l <;> simp [startsInner, hb]

/-- a byte b that no name goes on with; a remark is not open, or b ends it -/
theorem step_more {c b : UInt8} (r t : List UInt8) (hb : inner b = false) (ho : c.toNat = 35 → (r ++ b :: t).takeWhile onLine = r.takeWhile onLine) : step c (r ++ b :: t) = step c r := by
  have hd : digit b = false := by
    unfold inner at hb; cases h : digit b
    · rfl
    · simp [h] at hb
  unfold step
  rw [takeWhile_more hb, takeWhile_more hd, List.drop_append_of_le_length (takeWhile_le r), starts_more hb]
  by_cases h : c.toNat = 35
  · rw [ho h]
  · simp [h]

theorem step_line {c : UInt8} (r t : List UInt8) : step c (r ++ 10 :: t) = step c r :=
  step_more r t (by decide) (fun _ => takeWhile_more (by decide) r t)

theorem cut_line_aux (m : Nat) : ∀ (l t : List UInt8) (cnt p : Nat), l.length ≤ m →
    (∀ x, cut l cnt p = .error x → cut (l ++ 10 :: t) cnt p = .error x) ∧
    (∀ a, cut l cnt p = .ok a → cut (l ++ 10 :: t) cnt p = (cut (10 :: t) (cnt + a.length) (p + l.length)).map (a ++ ·)) := by
  induction m with
  | zero =>
    intro l t cnt p hl
    cases l with
    | nil =>
      refine ⟨fun x h => (by rw [cut_nil] at h; cases h), fun a h => ?_⟩
      rw [cut_nil] at h; injection h with h; subst h
      simp only [List.nil_append, List.length_nil, Nat.add_zero]
      cases cut (10 :: t) cnt p <;> rfl
    | cons c r => simp at hl
  | succ m ih =>
    intro l t cnt p hl
    cases l with
    | nil =>
      refine ⟨fun x h => (by rw [cut_nil] at h; cases h), fun a h => ?_⟩
      rw [cut_nil] at h; injection h with h; subst h
      simp only [List.nil_append, List.length_nil, Nat.add_zero]
      cases cut (10 :: t) cnt p <;> rfl
    | cons c r =>
      have hs := step_line (c := c) r t
      simp only [List.length_cons] at hl
      cases h : step c r with
      | skip n =>
        rw [h] at hs
        have hn := step_skip_le h
        obtain ⟨i1, i2⟩ := ih (r.drop (n - 1)) t cnt (p + n) (by simp; omega)
        rw [List.cons_append, cut_skip _ _ hs, cut_skip _ _ h, List.drop_append_of_le_length (by omega)]
        refine ⟨i1, fun a ha => (i2 a ha).trans ?_⟩
        rw [show p + n + (r.drop (n - 1)).length = p + (c :: r).length by simp; omega]
      | wrong =>
        rw [h] at hs
        rw [List.cons_append, cut_wrong _ _ hs, cut_wrong _ _ h]
        exact ⟨fun x hx => hx, fun a ha => by cases ha⟩
      | err e o =>
        rw [h] at hs
        rw [List.cons_append, cut_err _ _ hs, cut_err _ _ h]
        exact ⟨fun x hx => hx, fun a ha => by split at ha <;> cases ha⟩
      | tok k n s len =>
        rw [h] at hs
        have hn := step_tok_le h
        rw [List.cons_append, cut_tok _ _ hs, cut_tok _ _ h]
        by_cases hc : cnt = 8192
        · rw [if_pos hc, if_pos hc]
          exact ⟨fun x hx => hx, fun a ha => by cases ha⟩
        · rw [if_neg hc, if_neg hc, List.drop_append_of_le_length (by omega)]
          obtain ⟨i1, i2⟩ := ih (r.drop (len - 1)) t (cnt + 1) (p + len) (by simp; omega)
          cases hr : cut (r.drop (len - 1)) (cnt + 1) (p + len) with
          | error x =>
            rw [i1 x hr]
            exact ⟨fun x hx => hx, fun a ha => by cases ha⟩
          | ok a =>
            rw [i2 a hr]
            refine ⟨fun x hx => (by cases hx), fun b hb => ?_⟩
            injection hb with hb; subst hb
            rw [show p + len + (r.drop (len - 1)).length = p + (c :: r).length by simp; omega,
              show cnt + 1 + a.length = cnt + (Tk.mk k p n s :: a).length by simp; omega]
            cases cut (10 :: t) (cnt + (Tk.mk k p n s :: a).length) (p + (c :: r).length) <;> rfl

/-- what is wrong stays wrong, at its place -/
theorem cut_line_error {l : List UInt8} {cnt p : Nat} {x : Nat × Nat} (t : List UInt8) (h : cut l cnt p = .error x) : cut (l ++ 10 :: t) cnt p = .error x := (cut_line_aux _ l t cnt p (Nat.le_refl _)).1 x h

theorem cut_line_ok {l : List UInt8} {cnt p : Nat} {a : List Tk} (t : List UInt8) (h : cut l cnt p = .ok a) :
    cut (l ++ 10 :: t) cnt p = (cut t (cnt + a.length) (p + l.length + 1)).map (a ++ ·) := by
  rw [(cut_line_aux _ l t cnt p (Nat.le_refl _)).2 a h, cut_skip (n := 1) _ _ (by unfold step; rw [if_pos (by decide)])]; rfl

end Go.Proofs.YtknecagkgegclaaDoor.Zm
