/- Reading tokens as items, as plain mathematics: a machine with a stack of open items, what it keeps, and what follows. No condition. -/
import Derived.WalkKit
import Derived.Test.YtjebdoecigmkhaaDoorJP
namespace Go.Proofs.YtjebdoecigmkhaaDoor.Ym
set_option linter.unusedSimpArgs false
set_option linter.unusedVariables false
open Go.Proofs.YtjebdoecigmkhaaDoor.Zm

/-- a word of an item -/
structure Wd where
  num : Bool
  n : Nat
  s : List UInt8
  a : Nat

/-- an item -/
inductive Nd where
  | mk (name : List UInt8) (a : Nat) (words : List Wd) (block : Bool) (kids : List Nd)

/-- an item that is still open -/
structure Fr where
  name : List UInt8
  a : Nat
  words : List Wd
  block : Bool
  kids : List Nd

def Fr.nd (f : Fr) : Nd := .mk f.name f.a f.words f.block f.kids
def wd (t : Tk) : Wd := ⟨t.k == 2, t.n, t.s, t.a⟩

/-- where the reader stands: behind a name (go), what the text has so far, the open items, the innermost first -/
structure Rd where
  go : Bool
  top : List Nd
  st : List Fr

/-- the innermost item ends -/
def shut (top : List Nd) : List Fr → Rd
  | [] => ⟨false, top, []⟩
  | f :: [] => ⟨false, top ++ [f.nd], []⟩
  | f :: g :: r => ⟨false, top, { g with kids := g.kids ++ [f.nd] } :: r⟩

/-- one token -/
def take (r : Rd) (t : Tk) : Except Nat Rd :=
  match r.go, r.st with
  | false, st =>
    if t.k = 1 then .ok ⟨true, r.top, ⟨t.s, t.a, [], false, []⟩ :: st⟩
    else if t.k = 4 ∧ st ≠ [] then .ok (shut r.top st)
    else .error 5
  | true, [] => .error 5
  | true, f :: st =>
    if t.k = 5 then .ok (shut r.top (f :: st))
    else if t.k = 3 then (if 6 < st.length + 1 then .error 7 else .ok ⟨false, r.top, { f with block := true } :: st⟩)
    else if t.k = 4 then .error 5
    else if f.words.length = 8 then .error 6
    else .ok ⟨true, r.top, { f with words := f.words ++ [wd t] } :: st⟩

/-- all tokens: or the first fault, and its place -/
def run : List Tk → Rd → Except (Nat × Nat) Rd
  | [], r => .ok r
  | t :: l, r => match take r t with
    | .error e => .error (e, t.a)
    | .ok r' => run l r'

def start : Rd := ⟨false, [], []⟩

/-- a text, read -/
def parse (b : List UInt8) : Except (Nat × Nat) (List Nd) :=
  match cut b 0 0 with
  | .error x => .error x
  | .ok l => match run l start with
    | .error x => .error x
    | .ok r => if r.st = [] then .ok r.top else .error (5, b.length)

theorem run_append (a b : List Tk) (r : Rd) : run (a ++ b) r = match run a r with | .error x => .error x | .ok r' => run b r' := by
  induction a generalizing r with
  | nil => rfl
  | cons t a ih =>
    simp only [List.cons_append, run]
    cases take r t with
    | error e => rfl
    | ok r' => exact ih r'

/-- what the reader keeps -/
def Rd.Ok (r : Rd) : Prop :=
  match r.go, r.st with
  | false, st => ∀ f ∈ st, f.block = true
  | true, [] => False
  | true, f :: st => f.block = false ∧ f.kids = [] ∧ ∀ g ∈ st, g.block = true

theorem shut_ok (top : List Nd) (st : List Fr) (h : ∀ g ∈ st.tail, g.block = true) : (shut top st).Ok := by
  match st with
  | [] => simp [shut, Rd.Ok]
  | f :: [] => simp [shut, Rd.Ok]
  | f :: g :: r =>
    simp only [shut, Rd.Ok]
    intro x hx
    rcases List.mem_cons.1 hx with rfl | hx
    · exact h g (by simp)
    · exact h x (by simp [hx])

theorem take_ok {r r' : Rd} {t : Tk} (h : r.Ok) (ht : take r t = .ok r') : r'.Ok := by
  obtain ⟨go, top, st⟩ := r
  cases go with
  | false =>
    simp only [take] at ht
    simp only [Rd.Ok] at h
    split at ht
    · injection ht with ht; subst ht; exact ⟨rfl, rfl, h⟩
    · split at ht
      · injection ht with ht; subst ht
        exact shut_ok _ _ (fun g hg => h g (List.mem_of_mem_tail hg))
      · cases ht
  | true =>
    cases st with
    | nil => exact absurd h (by simp [Rd.Ok])
    | cons f st =>
      simp only [take] at ht
      obtain ⟨h1, h2, h3⟩ := h
      split at ht
      · injection ht with ht; subst ht
        exact shut_ok _ _ (fun g hg => h3 g hg)
      · split at ht
        · split at ht
          · cases ht
          · injection ht with ht; subst ht
            intro x hx
            rcases List.mem_cons.1 hx with rfl | hx
            · rfl
            · exact h3 x hx
        · split at ht
          · cases ht
          · split at ht
            · cases ht
            · injection ht with ht; subst ht
              exact ⟨h1, h2, h3⟩

theorem run_ok {l : List Tk} {r r' : Rd} (h : r.Ok) (hr : run l r = .ok r') : r'.Ok := by
  induction l generalizing r with
  | nil => injection hr with hr; subst hr; exact h
  | cons t l ih =>
    simp only [run] at hr
    cases e : take r t with
    | error x => rw [e] at hr; cases hr
    | ok r1 => rw [e] at hr; exact ih (take_ok h e) hr

theorem start_ok : start.Ok := fun _ h => by cases h

/-- what stands ahead of the text's items does not matter -/
theorem shut_ahead (p top : List Nd) (st : List Fr) : shut (p ++ top) st = { shut top st with top := p ++ (shut top st).top } := by
  match st with
  | [] => rfl
  | f :: [] => simp [shut]
  | f :: g :: r => rfl

theorem take_ahead (p : List Nd) (r : Rd) (t : Tk) : take { r with top := p ++ r.top } t = match take r t with | .error e => .error e | .ok r' => .ok { r' with top := p ++ r'.top } := by
  obtain ⟨go, top, st⟩ := r
  cases go with
  | false =>
    simp only [take]
    split
    · rfl
    · split
      · rw [shut_ahead]
      · rfl
  | true =>
    cases st with
    | nil => rfl
    | cons f st =>
      simp only [take]
      split
      · rw [shut_ahead]
      · split
        · split <;> rfl
        · split
          · rfl
          · split <;> rfl

theorem run_ahead (p : List Nd) (l : List Tk) (r : Rd) : run l { r with top := p ++ r.top } = match run l r with | .error e => .error e | .ok r' => .ok { r' with top := p ++ r'.top } := by
  induction l generalizing r with
  | nil => rfl
  | cons t l ih =>
    simp only [run]
    rw [take_ahead]
    cases take r t with
    | error e => rfl
    | ok r1 => exact ih r1

/-- behind a token a reader with nothing open has at least one item, and had something open -/
theorem take_shuts {r r' : Rd} {t : Tk} (h : r.Ok) (ht : take r t = .ok r') (hs : r'.st = []) : r.st ≠ [] ∧ r'.top ≠ [] ∧ r'.go = false := by
  obtain ⟨go, top, st⟩ := r
  cases go with
  | false =>
    simp only [take] at ht
    split at ht
    · injection ht with ht; subst ht; cases hs
    · split at ht
      · rename_i hc
        injection ht with ht; subst ht
        refine ⟨hc.2, ?_⟩
        match st, hc.2, hs with
        | f :: [], _, _ => simp [shut]
        | f :: g :: r, _, hs => simp [shut] at hs
      · cases ht
  | true =>
    cases st with
    | nil => exact absurd h (by simp [Rd.Ok])
    | cons f st =>
      refine ⟨by simp, ?_⟩
      simp only [take] at ht
      split at ht
      · injection ht with ht; subst ht
        match st, hs with
        | [], _ => simp [shut]
        | g :: r, hs => simp [shut] at hs
      · split at ht
        · split at ht
          · cases ht
          · injection ht with ht; subst ht; cases hs
        · split at ht
          · cases ht
          · split at ht
            · cases ht
            · injection ht with ht; subst ht; cases hs

/-- P9.2, TreeOpen's half: tokens that are read whole are not without their last -/
theorem run_open {l : List Tk} {t : Tk} {r : Rd} (hr : run (l ++ [t]) start = .ok r) (hs : r.st = []) : ∃ r1, run l start = .ok r1 ∧ r1.st ≠ [] ∧ r.top ≠ [] := by
  rw [run_append] at hr
  cases e : run l start with
  | error x => rw [e] at hr; cases hr
  | ok r1 =>
    rw [e] at hr
    simp only [run] at hr
    cases e2 : take r1 t with
    | error x => rw [e2] at hr; cases hr
    | ok r2 =>
      rw [e2] at hr
      injection hr with hr
      subst hr
      obtain ⟨h1, h2, _⟩ := take_shuts (run_ok start_ok e) e2 hs
      exact ⟨r1, rfl, h1, h2⟩

/-- P9.2, TreeTwo's half: behind tokens that are read whole, more tokens are read as from the start -/
theorem run_two {l m : List Tk} {r : Rd} (hr : run l start = .ok r) (hs : r.st = []) : run (l ++ m) start = match run m start with | .error e => .error e | .ok r' => .ok { r' with top := r.top ++ r'.top } := by
  rw [run_append, hr]
  have hg : r.go = false := by
    have := run_ok start_ok hr
    obtain ⟨go, top, st⟩ := r
    simp only at hs
    subst hs
    cases go with
    | false => rfl
    | true => exact this.elim
  have : r = { start with top := r.top ++ start.top } := by
    obtain ⟨go, top, st⟩ := r
    simp only at hs hg
    subst hs hg
    simp [start]
  simp only
  rw [this, run_ahead]
  simp [start]

end Go.Proofs.YtjebdoecigmkhaaDoor.Ym
