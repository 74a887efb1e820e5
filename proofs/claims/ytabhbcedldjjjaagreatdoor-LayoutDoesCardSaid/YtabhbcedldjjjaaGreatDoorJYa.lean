/- Texts that are joined: Ymath, Ylaw, Ysmall, Ylivp, Ytext, Yblock, Yblock2, Ypure, Yer. -/
import Derived.WalkKit
import Derived.Test.YtabhbcedldjjjaaGreatDoorJP
namespace Go.Proofs.YtabhbcedldjjjaaGreatDoor.Ym
set_option linter.unusedSimpArgs false
set_option linter.unusedVariables false
open Go.Proofs.YtabhbcedldjjjaaGreatDoor.Zm

/-- a word of an item -/
structure Wd where
  num : Bool
  n : Nat
  s : List UInt8
  a : Nat

/-- an item -/
inductive Nd where
  | mk (name : List UInt8) (a : Nat) (words : List Wd) (block : Bool) (kids : List Nd)

/-- an item that is still open -/
structure Fr where
  name : List UInt8
  a : Nat
  words : List Wd
  block : Bool
  kids : List Nd

def Fr.nd (f : Fr) : Nd := .mk f.name f.a f.words f.block f.kids
def wd (t : Tk) : Wd := ⟨t.k == 2, t.n, t.s, t.a⟩

/-- where the reader stands: behind a name (go), what the text has so far, the open items, the innermost first -/
structure Rd where
  go : Bool
  top : List Nd
  st : List Fr

/-- the innermost item ends -/
def shut (top : List Nd) : List Fr → Rd
  | [] => ⟨false, top, []⟩
  | f :: [] => ⟨false, top ++ [f.nd], []⟩
  | f :: g :: r => ⟨false, top, { g with kids := g.kids ++ [f.nd] } :: r⟩

/-- one token -/
def take (r : Rd) (t : Tk) : Except Nat Rd :=
  match r.go, r.st with
  | false, st =>
    if t.k = 1 then .ok ⟨true, r.top, ⟨t.s, t.a, [], false, []⟩ :: st⟩
    else if t.k = 4 ∧ st ≠ [] then .ok (shut r.top st)
    else .error 5
  | true, [] => .error 5
  | true, f :: st =>
    if t.k = 5 then .ok (shut r.top (f :: st))
    else if t.k = 3 then (if 6 < st.length + 1 then .error 7 else .ok ⟨false, r.top, { f with block := true } :: st⟩)
    else if t.k = 4 then .error 5
    else if f.words.length = 8 then .error 6
    else .ok ⟨true, r.top, { f with words := f.words ++ [wd t] } :: st⟩

/-- all tokens: or the first fault, and its place -/
def run : List Tk → Rd → Except (Nat × Nat) Rd
  | [], r => .ok r
  | t :: l, r => match take r t with
    | .error e => .error (e, t.a)
    | .ok r' => run l r'

def start : Rd := ⟨false, [], []⟩

/-- a text, read -/
def parse (b : List UInt8) : Except (Nat × Nat) (List Nd) :=
  match cut b 0 0 with
  | .error x => .error x
  | .ok l => match run l start with
    | .error x => .error x
    | .ok r => if r.st = [] then .ok r.top else .error (5, b.length)

theorem run_append (a b : List Tk) (r : Rd) : run (a ++ b) r = match run a r with | .error x => .error x | .ok r' => run b r' := by
  induction a generalizing r with
  | nil => rfl
  | cons t a ih =>
    simp only [List.cons_append, run]
    cases take r t with
    | error e => rfl
    | ok r' => exact ih r'

/-- what the reader keeps -/
def Rd.Ok (r : Rd) : Prop :=
  match r.go, r.st with
  | false, st => ∀ f ∈ st, f.block = true
  | true, [] => False
  | true, f :: st => f.block = false ∧ f.kids = [] ∧ ∀ g ∈ st, g.block = true

theorem shut_ok (top : List Nd) (st : List Fr) (h : ∀ g ∈ st.tail, g.block = true) : (shut top st).Ok := by
  match st with
  | [] => simp [shut, Rd.Ok]
  | f :: [] => simp [shut, Rd.Ok]
  | f :: g :: r =>
    simp only [shut, Rd.Ok]
    intro x hx
    rcases List.mem_cons.1 hx with rfl | hx
    · exact h g (by simp)
    · exact h x (by simp [hx])

theorem take_ok {r r' : Rd} {t : Tk} (h : r.Ok) (ht : take r t = .ok r') : r'.Ok := by
  obtain ⟨go, top, st⟩ := r
  cases go with
  | false =>
    simp only [take] at ht
    simp only [Rd.Ok] at h
    split at ht
    · injection ht with ht; subst ht; exact ⟨rfl, rfl, h⟩
    · split at ht
      · injection ht with ht; subst ht
        exact shut_ok _ _ (fun g hg => h g (List.mem_of_mem_tail hg))
      · cases ht
  | true =>
    cases st with
    | nil => exact absurd h (by simp [Rd.Ok])
    | cons f st =>
      simp only [take] at ht
      obtain ⟨h1, h2, h3⟩ := h
      split at ht
      · injection ht with ht; subst ht
        exact shut_ok _ _ (fun g hg => h3 g hg)
      · split at ht
        · split at ht
          · cases ht
          · injection ht with ht; subst ht
            intro x hx
            rcases List.mem_cons.1 hx with rfl | hx
            · rfl
            · exact h3 x hx
        · split at ht
          · cases ht
          · split at ht
            · cases ht
            · injection ht with ht; subst ht
              exact ⟨h1, h2, h3⟩

theorem run_ok {l : List Tk} {r r' : Rd} (h : r.Ok) (hr : run l r = .ok r') : r'.Ok := by
  induction l generalizing r with
  | nil => injection hr with hr; subst hr; exact h
  | cons t l ih =>
    simp only [run] at hr
    cases e : take r t with
    | error x => rw [e] at hr; cases hr
    | ok r1 => rw [e] at hr; exact ih (take_ok h e) hr

theorem start_ok : start.Ok := fun _ h => by cases h

/-- what stands ahead of the text's items does not matter -/
theorem shut_ahead (p top : List Nd) (st : List Fr) : shut (p ++ top) st = { shut top st with top := p ++ (shut top st).top } := by
  match st with
  | [] => rfl
  | f :: [] => simp [shut]
  | f :: g :: r => rfl

theorem take_ahead (p : List Nd) (r : Rd) (t : Tk) : take { r with top := p ++ r.top } t = match take r t with | .error e => .error e | .ok r' => .ok { r' with top := p ++ r'.top } := by
  obtain ⟨go, top, st⟩ := r
  cases go with
  | false =>
    simp only [take]
    split
    · rfl
    · split
      · rw [shut_ahead]
      · rfl
  | true =>
    cases st with
    | nil => rfl
    | cons f st =>
      simp only [take]
      split
      · rw [shut_ahead]
      · split
        · split <;> rfl
        · split
          · rfl
          · split <;> rfl

theorem run_ahead (p : List Nd) (l : List Tk) (r : Rd) : run l { r with top := p ++ r.top } = match run l r with | .error e => .error e | .ok r' => .ok { r' with top := p ++ r'.top } := by
  induction l generalizing r with
  | nil => rfl
  | cons t l ih =>
    simp only [run]
    rw [take_ahead]
    cases take r t with
    | error e => rfl
    | ok r1 => exact ih r1

/-- behind a token a reader with nothing open has at least one item, and had something open -/
theorem take_shuts {r r' : Rd} {t : Tk} (h : r.Ok) (ht : take r t = .ok r') (hs : r'.st = []) : r.st ≠ [] ∧ r'.top ≠ [] ∧ r'.go = false := by
  obtain ⟨go, top, st⟩ := r
  cases go with
  | false =>
    simp only [take] at ht
    split at ht
    · injection ht with ht; subst ht; cases hs
    · split at ht
      · rename_i hc
        injection ht with ht; subst ht
        refine ⟨hc.2, ?_⟩
        match st, hc.2, hs with
        | f :: [], _, _ => simp [shut]
        | f :: g :: r, _, hs => simp [shut] at hs
      · cases ht
  | true =>
    cases st with
    | nil => exact absurd h (by simp [Rd.Ok])
    | cons f st =>
      refine ⟨by simp, ?_⟩
      simp only [take] at ht
      split at ht
      · injection ht with ht; subst ht
        match st, hs with
        | [], _ => simp [shut]
        | g :: r, hs => simp [shut] at hs
      · split at ht
        · split at ht
          · cases ht
          · injection ht with ht; subst ht; cases hs
        · split at ht
          · cases ht
          · split at ht
            · cases ht
            · injection ht with ht; subst ht; cases hs

/-- P9.2, TreeOpen's half: tokens that are read whole are not without their last -/
theorem run_open {l : List Tk} {t : Tk} {r : Rd} (hr : run (l ++ [t]) start = .ok r) (hs : r.st = []) : ∃ r1, run l start = .ok r1 ∧ r1.st ≠ [] ∧ r.top ≠ [] := by
  rw [run_append] at hr
  cases e : run l start with
  | error x => rw [e] at hr; cases hr
  | ok r1 =>
    rw [e] at hr
    simp only [run] at hr
    cases e2 : take r1 t with
    | error x => rw [e2] at hr; cases hr
    | ok r2 =>
      rw [e2] at hr
      injection hr with hr
      subst hr
      obtain ⟨h1, h2, _⟩ := take_shuts (run_ok start_ok e) e2 hs
      exact ⟨r1, rfl, h1, h2⟩

/-- P9.2, TreeTwo's half: behind tokens that are read whole, more tokens are read as from the start -/
theorem run_two {l m : List Tk} {r : Rd} (hr : run l start = .ok r) (hs : r.st = []) : run (l ++ m) start = match run m start with | .error e => .error e | .ok r' => .ok { r' with top := r.top ++ r'.top } := by
  rw [run_append, hr]
  have hg : r.go = false := by
    have := run_ok start_ok hr
    obtain ⟨go, top, st⟩ := r
    simp only at hs
    subst hs
    cases go with
    | false => rfl
    | true => exact this.elim
  have : r = { start with top := r.top ++ start.top } := by
    obtain ⟨go, top, st⟩ := r
    simp only at hs hg
    subst hs hg
    simp [start]
  simp only
  rw [this, run_ahead]
  simp [start]

end Go.Proofs.YtabhbcedldjjjaaGreatDoor.Ym

namespace Go.Proofs.YtabhbcedldjjjaaGreatDoor.Ym
set_option linter.unusedSimpArgs false
set_option linter.unusedVariables false
open Go.Proofs.YtabhbcedldjjjaaGreatDoor.Zm

def flatW (w : Wd) : Nat × Nat × List UInt8 := if w.num then (2, w.n, []) else (1, 0, w.s)

mutual
/-- the tokens of items, without places -/
def flatN : Nd → List (Nat × Nat × List UInt8)
  | .mk nm _ ws b ks => (1, 0, nm) :: ws.map flatW ++ (if b then (3, 0, []) :: flatL ks ++ [(4, 0, [])] else [(5, 0, [])])
def flatL : List Nd → List (Nat × Nat × List UInt8)
  | [] => []
  | n :: l => flatN n ++ flatL l
end

theorem flatL_snoc (l : List Nd) (n : Nd) : flatL (l ++ [n]) = flatL l ++ flatN n := by
  induction l with
  | nil => simp [flatL]
  | cons m l ih => simp [flatL, ih]

def flatF (f : Fr) : List (Nat × Nat × List UInt8) := (1, 0, f.name) :: f.words.map flatW ++ (if f.block then (3, 0, []) :: flatL f.kids else [])
def flatSt : List Fr → List (Nat × Nat × List UInt8)
  | [] => []
  | f :: r => flatSt r ++ flatF f
def flatR (r : Rd) : List (Nat × Nat × List UInt8) := flatL r.top ++ flatSt r.st

theorem shut_flat (top : List Nd) (f : Fr) (st : List Fr) (h : ∀ g ∈ st, g.block = true) (x : Nat × Nat × List UInt8) (hx : flatN f.nd = flatF f ++ [x]) : flatR (shut top (f :: st)) = flatL top ++ flatSt (f :: st) ++ [x] := by
  match st with
  | [] => simp [shut, flatR, flatSt, flatL_snoc, hx]
  | g :: r =>
    have hg := h g (by simp)
    simp [shut, flatR, flatSt, flatF, hg, flatL_snoc, hx]

theorem take_flat {r r' : Rd} {t : Tk} (h : r.Ok) (hf : Fine t) (ht : take r t = .ok r') : flatR r' = flatR r ++ [bare t] := by
  obtain ⟨go, top, st⟩ := r
  obtain ⟨k, a, n, s⟩ := t
  cases go with
  | false =>
    simp only [take] at ht
    split at ht
    · rename_i hk
      injection ht with ht; subst ht
      try simp only at hk
      have hn : n = 0 := by
        rcases hf with ⟨_, h2, _⟩ | ⟨h1, _⟩ | ⟨h1, _⟩
        · exact h2
        · simp only at h1; omega
        · simp only at h1; omega
      subst hk hn
      simp [flatR, flatSt, flatF, bare]
    · split at ht
      · rename_i hk
        obtain ⟨hk, hst⟩ := hk
        injection ht with ht; subst ht
        try simp only at hk
        subst hk
        have hsn : s = [] ∧ n = 0 := by
          rcases hf with ⟨h1, _⟩ | ⟨h1, _⟩ | ⟨_, h2, h3⟩
          · simp at h1
          · simp at h1
          · exact ⟨h2, h3⟩
        obtain ⟨rfl, rfl⟩ := hsn
        cases st with
        | nil => exact absurd rfl hst
        | cons f st =>
          have hb := h f (by simp)
          rw [shut_flat top f st (fun g hg => h g (by simp [hg])) (4, 0, []) (by simp [Fr.nd, flatN, flatF, hb])]
          rfl
      · cases ht
  | true =>
    cases st with
    | nil => exact h.elim
    | cons f st =>
      obtain ⟨hb, hk0, hst⟩ := h
      simp only [take] at ht
      split at ht
      · rename_i hk
        try simp only at hk
        subst hk
        injection ht with ht; subst ht
        have hsn : s = [] ∧ n = 0 := by
          rcases hf with ⟨h1, _⟩ | ⟨h1, _⟩ | ⟨_, h2, h3⟩
          · simp at h1
          · simp at h1
          · exact ⟨h2, h3⟩
        obtain ⟨rfl, rfl⟩ := hsn
        rw [shut_flat top f st hst (5, 0, []) (by simp [Fr.nd, flatN, flatF, hb])]
        rfl
      · split at ht
        · rename_i hk
          try simp only at hk
          subst hk
          split at ht
          · cases ht
          · injection ht with ht; subst ht
            have hsn : s = [] ∧ n = 0 := by
              rcases hf with ⟨h1, _⟩ | ⟨h1, _⟩ | ⟨_, h2, h3⟩
              · simp at h1
              · simp at h1
              · exact ⟨h2, h3⟩
            obtain ⟨rfl, rfl⟩ := hsn
            simp [flatR, flatSt, flatF, hb, hk0, flatL, bare]
        · split at ht
          · cases ht
          · split at ht
            · cases ht
            · rename_i h5 h3 h4 h8
              injection ht with ht; subst ht
              have hw : flatW (wd ⟨k, a, n, s⟩) = bare ⟨k, a, n, s⟩ := by
                rcases hf with ⟨h1, h2, _⟩ | ⟨h1, h2, _⟩ | ⟨h1, _⟩
                · simp only at h1 h2; subst h1 h2; rfl
                · simp only at h1 h2; subst h1 h2; rfl
                · simp only at h1 h5 h3 h4; omega
              simp [flatR, flatSt, flatF, hb, hw]

/-- P9.3, TreeTokens' half -/
theorem run_flat {l : List Tk} {r r' : Rd} (h : r.Ok) (hl : ∀ t ∈ l, Fine t) (hr : run l r = .ok r') : flatR r' = flatR r ++ l.map bare := by
  induction l generalizing r with
  | nil => injection hr with hr; subst hr; simp
  | cons t l ih =>
    simp only [run] at hr
    cases e : take r t with
    | error x => rw [e] at hr; cases hr
    | ok r1 =>
      rw [e] at hr
      rw [ih (take_ok h e) (fun u hu => hl u (by simp [hu])) hr, take_flat h (hl t (by simp)) e]
      simp

def WdFine (w : Wd) : Prop := (w.num = true ∧ w.s = [] ∧ w.n ≤ 999999999) ∨ (w.num = false ∧ w.n = 0 ∧ Zm.name w.s = true)

mutual
/-- an item that stands in d blocks may be -/
def RightN (d : Nat) : Nd → Prop
  | .mk nm _ ws b ks => Zm.name nm = true ∧ ws.length ≤ 8 ∧ (∀ w ∈ ws, WdFine w) ∧ (b = false → ks = []) ∧ (b = true → d < 6) ∧ RightL (d + 1) ks
def RightL (d : Nat) : List Nd → Prop
  | [] => True
  | n :: l => RightN d n ∧ RightL d l
end

theorem rightL_snoc (d : Nat) (l : List Nd) (n : Nd) : RightL d (l ++ [n]) ↔ RightL d l ∧ RightN d n := by
  induction l with
  | nil => simp [RightL]
  | cons m l ih => simp [RightL, ih, and_assoc]

def RightSt : List Fr → Prop
  | [] => True
  | f :: r => Zm.name f.name = true ∧ f.words.length ≤ 8 ∧ (∀ w ∈ f.words, WdFine w) ∧ (f.block = true → r.length < 6) ∧ RightL (r.length + 1) f.kids ∧ RightSt r

def RightR (r : Rd) : Prop := RightL 0 r.top ∧ RightSt r.st

theorem shut_right (top : List Nd) (f : Fr) (st : List Fr) (h : RightL 0 top) (hs : RightSt (f :: st)) (hk : f.block = false → f.kids = []) : RightR (shut top (f :: st)) := by
  obtain ⟨h1, h2, h3, h4, h5, h6⟩ := hs
  match st, h4, h5, h6 with
  | [], h4, h5, h6 => exact ⟨(rightL_snoc _ _ _).2 ⟨h, h1, h2, h3, hk, h4, h5⟩, trivial⟩
  | g :: r, h4, h5, h6 =>
    obtain ⟨g1, g2, g3, g4, g5, g6⟩ := h6
    exact ⟨h, g1, g2, g3, g4, (rightL_snoc _ _ _).2 ⟨g5, h1, h2, h3, hk, h4, h5⟩, g6⟩

theorem take_right {r r' : Rd} {t : Tk} (h : r.Ok) (hf : Fine t) (hR : RightR r) (ht : take r t = .ok r') : RightR r' := by
  obtain ⟨go, top, st⟩ := r
  obtain ⟨k, a, n, s⟩ := t
  obtain ⟨hT, hS⟩ := hR
  simp only at hT hS
  cases go with
  | false =>
    simp only [take] at ht
    split at ht
    · rename_i hk
      injection ht with ht; subst ht
      try simp only at hk
      have hn : Zm.name s = true := by
        rcases hf with ⟨_, _, h3⟩ | ⟨h1, _⟩ | ⟨h1, _⟩
        · exact h3
        · simp only at h1; omega
        · simp only at h1; omega
      exact ⟨hT, hn, by simp, by simp, by simp, trivial, hS⟩
    · split at ht
      · rename_i hk
        obtain ⟨hk, hst⟩ := hk
        injection ht with ht; subst ht
        cases st with
        | nil => exact absurd rfl hst
        | cons f st =>
          have hb := h f (by simp)
          exact shut_right top f st hT hS (fun e => by rw [hb] at e; cases e)
      · cases ht
  | true =>
    cases st with
    | nil => exact h.elim
    | cons f st =>
      obtain ⟨hb, hk0, hst⟩ := h
      simp only [take] at ht
      split at ht
      · injection ht with ht; subst ht
        exact shut_right top f st hT hS (fun _ => hk0)
      · obtain ⟨s1, s2, s3, s4, s5, s6⟩ := hS
        split at ht
        · split at ht
          · cases ht
          · rename_i h7
            injection ht with ht; subst ht
            exact ⟨hT, s1, s2, s3, fun _ => by omega, s5, s6⟩
        · split at ht
          · cases ht
          · split at ht
            · cases ht
            · rename_i h5 h3 h4 h8
              injection ht with ht; subst ht
              have hw : WdFine (wd ⟨k, a, n, s⟩) := by
                rcases hf with ⟨h1, h2, h3'⟩ | ⟨h1, h2, h3'⟩ | ⟨h1, _⟩
                · simp only at h1 h2; subst h1 h2; exact .inr ⟨rfl, rfl, h3'⟩
                · simp only at h1 h2; subst h1 h2; exact .inl ⟨rfl, rfl, h3'⟩
                · simp only at h1 h5 h3 h4; omega
              refine ⟨hT, s1, ?_, ?_, s4, s5, s6⟩
              · simp; omega
              · intro w hw'
                rcases List.mem_append.1 hw' with q | q
                · exact s3 w q
                · rw [List.mem_singleton.1 q]; exact hw

/-- P9.1, P9.2, TreeRight's half -/
theorem run_right {l : List Tk} {r r' : Rd} (h : r.Ok) (hl : ∀ t ∈ l, Fine t) (hR : RightR r) (hr : run l r = .ok r') : RightR r' := by
  induction l generalizing r with
  | nil => injection hr with hr; subst hr; exact hR
  | cons t l ih =>
    simp only [run] at hr
    cases e : take r t with
    | error x => rw [e] at hr; cases hr
    | ok r1 => rw [e] at hr; exact ih (take_ok h e) (fun u hu => hl u (by simp [hu])) (take_right h (hl t (by simp)) hR e) hr

mutual
def deepN : Nd → Nat
  | .mk _ _ _ b ks => (if b then 1 else 0) + deepL ks
def deepL : List Nd → Nat
  | [] => 0
  | n :: l => max (deepN n) (deepL l)
end

mutual
theorem deep_right {d : Nat} (hd : d ≤ 6) : ∀ {n : Nd}, RightN d n → d + deepN n ≤ 6
  | .mk _ _ _ b ks, h => by
    obtain ⟨_, _, _, h4, h5, h6⟩ := h
    cases b with
    | false => rw [h4 rfl]; simp [deepN, deepL]; exact hd
    | true =>
      have := h5 rfl
      have := deepL_right (d := d + 1) (by omega) h6
      simp [deepN]; omega
theorem deepL_right {d : Nat} (hd : d ≤ 6) : ∀ {l : List Nd}, RightL d l → d + deepL l ≤ 6
  | [], _ => by simpa [deepL] using hd
  | n :: l, h => by
    have h1 := deep_right hd h.1
    have h2 := deepL_right hd h.2
    simp [deepL]; omega
end

mutual
def countN : Nd → Nat
  | .mk _ _ _ _ ks => 1 + countL ks
def countL : List Nd → Nat
  | [] => 0
  | n :: l => countN n + countL l
end

mutual
theorem count_flat {d : Nat} : ∀ {n : Nd}, RightN d n → countN n ≤ (flatN n).length
  | .mk _ _ ws b ks, h => by
    obtain ⟨_, _, _, h4, _, h6⟩ := h
    have := countL_flat h6
    cases b with
    | false => rw [h4 rfl]; simp [countN, countL, flatN]
    | true => simp [countN, flatN]; omega
theorem countL_flat {d : Nat} : ∀ {l : List Nd}, RightL d l → countL l ≤ (flatL l).length
  | [], _ => by simp [countL]
  | n :: l, h => by
    have h1 := count_flat h.1
    have h2 := countL_flat h.2
    simp [countL, flatL]; omega
end

end Go.Proofs.YtabhbcedldjjjaaGreatDoor.Ym

namespace Go.Proofs.YtabhbcedldjjjaaGreatDoor.Ym
set_option linter.unusedSimpArgs false
set_option linter.unusedVariables false
open Go.Proofs.YtabhbcedldjjjaaGreatDoor.Zm

/-- after n tokens -/
def Rd.Few (n : Nat) (r : Rd) : Prop := r.top.length ≤ n ∧ r.st.length ≤ n ∧ ∀ f ∈ r.st, f.kids.length ≤ n ∧ f.words.length ≤ 8

theorem shut_few {n : Nat} {top : List Nd} {st : List Fr} (h1 : top.length ≤ n) (h2 : st.length ≤ n) (h3 : ∀ f ∈ st, f.kids.length ≤ n ∧ f.words.length ≤ 8) : (shut top st).Few (n + 1) := by
  match st, h2, h3 with
  | [], _, _ => exact ⟨by simp [shut]; omega, by simp [shut], by simp [shut]⟩
  | f :: [], _, _ => exact ⟨by simp [shut]; omega, by simp [shut], by simp [shut]⟩
  | f :: g :: r, h2, h3 =>
    refine ⟨by simp [shut]; omega, by simp [shut] at h2 ⊢; omega, ?_⟩
    simp only [shut]
    intro x hx
    rcases List.mem_cons.1 hx with rfl | hx
    · have := h3 g (by simp)
      exact ⟨by simp; omega, this.2⟩
    · have := h3 x (by simp [hx])
      exact ⟨by omega, this.2⟩

theorem take_few {n : Nat} {r r' : Rd} {t : Tk} (h : r.Few n) (ht : take r t = .ok r') : r'.Few (n + 1) := by
  obtain ⟨go, top, st⟩ := r
  obtain ⟨h1, h2, h3⟩ := h
  simp only at h1 h2 h3
  cases go with
  | false =>
    simp only [take] at ht
    split at ht
    · injection ht with ht; subst ht
      refine ⟨by simp; omega, by simp; omega, ?_⟩
      intro x hx
      rcases List.mem_cons.1 hx with rfl | hx
      · simp
      · have := h3 x hx; exact ⟨by omega, this.2⟩
    · split at ht
      · injection ht with ht; subst ht; exact shut_few h1 h2 h3
      · cases ht
  | true =>
    cases st with
    | nil => cases ht
    | cons f st =>
      simp only [take] at ht
      have hf := h3 f (by simp)
      have hr : ∀ x ∈ st, x.kids.length ≤ n + 1 ∧ x.words.length ≤ 8 := fun x hx => by have := h3 x (by simp [hx]); exact ⟨by omega, this.2⟩
      split at ht
      · injection ht with ht; subst ht; exact shut_few h1 h2 h3
      · split at ht
        · split at ht
          · cases ht
          · injection ht with ht; subst ht
            refine ⟨by simp; omega, by simp at h2 ⊢; omega, ?_⟩
            intro x hx
            rcases List.mem_cons.1 hx with rfl | hx
            · exact ⟨by simp; omega, hf.2⟩
            · exact hr x hx
        · split at ht
          · cases ht
          · split at ht
            · cases ht
            · rename_i h8
              injection ht with ht; subst ht
              refine ⟨by simp; omega, by simp at h2 ⊢; omega, ?_⟩
              intro x hx
              rcases List.mem_cons.1 hx with rfl | hx
              · refine ⟨by simp; omega, ?_⟩
                have := hf.2
                simp
                omega
              · exact hr x hx

theorem start_few : start.Few 0 := ⟨by simp [start], by simp [start], by simp [start]⟩

/-- step by step -/
theorem run_step (a : List Tk) (t : Tk) (l : List Tk) (r r' : Rd) (h : run a start = .ok r) (ht : take r t = .ok r') : run (a ++ [t]) start = .ok r' := by
  rw [run_append, h]
  simp only [run, ht]
theorem run_stop (a : List Tk) (t : Tk) (l : List Tk) (r : Rd) (c : Nat) (h : run a start = .ok r) (ht : take r t = .error c) : run (a ++ t :: l) start = .error (c, t.a) := by
  rw [run_append, h]
  simp only [run, ht]

end Go.Proofs.YtabhbcedldjjjaaGreatDoor.Ym

namespace Go.Proofs.YtabhbcedldjjjaaGreatDoor.Ym
set_option linter.unusedSimpArgs false
set_option linter.unusedVariables false
open Go.Proofs.YtabhbcedldjjjaaGreatDoor.Zm

/-- "a b 1 { c; }" -/
def exB : List UInt8 := [97, 32, 98, 32, 49, 32, 123, 32, 99, 59, 32, 125]
def exT : List Tk := [⟨1, 0, 0, [97]⟩, ⟨1, 2, 0, [98]⟩, ⟨2, 4, 1, []⟩, ⟨3, 6, 0, []⟩, ⟨1, 8, 0, [99]⟩, ⟨5, 9, 0, []⟩, ⟨4, 11, 0, []⟩]
def exN : List Nd := [.mk [97] 0 [⟨false, 0, [98], 2⟩, ⟨true, 1, [], 4⟩] true [.mk [99] 8 [] false []]]
theorem cut_ex : cut exB 0 0 = .ok exT := by
  unfold exB
  rw [cut_tok (k := 1) (n := 0) (s := [97]) (len := 1) 0 0 (by rfl), if_neg (by decide)]
  rw [show ([32, 98, 32, 49, 32, 123, 32, 99, 59, 32, 125] : List UInt8).drop (1 - 1) = [32, 98, 32, 49, 32, 123, 32, 99, 59, 32, 125] from rfl, cut_skip (n := 1) _ _ (by rfl)]
  rw [show ([98, 32, 49, 32, 123, 32, 99, 59, 32, 125] : List UInt8).drop (1 - 1) = [98, 32, 49, 32, 123, 32, 99, 59, 32, 125] from rfl, cut_tok (k := 1) (n := 0) (s := [98]) (len := 1) _ _ (by rfl), if_neg (by decide)]
  rw [show ([32, 49, 32, 123, 32, 99, 59, 32, 125] : List UInt8).drop (1 - 1) = [32, 49, 32, 123, 32, 99, 59, 32, 125] from rfl, cut_skip (n := 1) _ _ (by rfl)]
  rw [show ([49, 32, 123, 32, 99, 59, 32, 125] : List UInt8).drop (1 - 1) = [49, 32, 123, 32, 99, 59, 32, 125] from rfl, cut_tok (k := 2) (n := 1) (s := []) (len := 1) _ _ (by rfl), if_neg (by decide)]
  rw [show ([32, 123, 32, 99, 59, 32, 125] : List UInt8).drop (1 - 1) = [32, 123, 32, 99, 59, 32, 125] from rfl, cut_skip (n := 1) _ _ (by rfl)]
  rw [show ([123, 32, 99, 59, 32, 125] : List UInt8).drop (1 - 1) = [123, 32, 99, 59, 32, 125] from rfl, cut_tok (k := 3) (n := 0) (s := []) (len := 1) _ _ (by rfl), if_neg (by decide)]
  rw [show ([32, 99, 59, 32, 125] : List UInt8).drop (1 - 1) = [32, 99, 59, 32, 125] from rfl, cut_skip (n := 1) _ _ (by rfl)]
  rw [show ([99, 59, 32, 125] : List UInt8).drop (1 - 1) = [99, 59, 32, 125] from rfl, cut_tok (k := 1) (n := 0) (s := [99]) (len := 1) _ _ (by rfl), if_neg (by decide)]
  rw [show ([59, 32, 125] : List UInt8).drop (1 - 1) = [59, 32, 125] from rfl, cut_tok (k := 5) (n := 0) (s := []) (len := 1) _ _ (by rfl), if_neg (by decide)]
  rw [show ([32, 125] : List UInt8).drop (1 - 1) = [32, 125] from rfl, cut_skip (n := 1) _ _ (by rfl)]
  rw [show ([125] : List UInt8).drop (1 - 1) = [125] from rfl, cut_tok (k := 4) (n := 0) (s := []) (len := 1) _ _ (by rfl), if_neg (by decide)]
  rw [show ([] : List UInt8).drop (1 - 1) = [] from rfl, cut_nil]
  rfl
theorem parse_ex : parse exB = .ok exN := by
  rw [parse, cut_ex]
  rfl

end Go.Proofs.YtabhbcedldjjjaaGreatDoor.Ym

namespace Go.Proofs.YtabhbcedldjjjaaGreatDoor.Ym
set_option linter.unusedSimpArgs false
set_option linter.unusedVariables false
open Go.Proofs.YtabhbcedldjjjaaGreatDoor.Zm

/-- a text up to one of its tokens holds those ahead of it -/
theorem cut_upto (m : Nat) : ∀ (l : List UInt8) (cnt p : Nat) (a1 : List Tk) (t : Tk) (a2 : List Tk), l.length ≤ m → cut l cnt p = .ok (a1 ++ t :: a2) →
    ∃ j, j < l.length ∧ t.a = p + j ∧ cut (l.take j) cnt p = .ok a1 := by
  induction m with
  | zero =>
    intro l cnt p a1 t a2 hl h
    rw [List.eq_nil_of_length_eq_zero (Nat.le_zero.1 hl), cut_nil] at h
    injection h with h; simp at h
  | succ m ih =>
    intro l cnt p a1 t a2 hl h
    cases l with
    | nil => rw [cut_nil] at h; injection h with h; simp at h
    | cons c r =>
      simp only [List.length_cons] at hl
      cases hs : Zm.step c r with
      | skip n =>
        rw [cut_skip _ _ hs] at h
        have hn := step_skip_le hs
        obtain ⟨j, hj, ht, hx⟩ := ih _ _ _ _ _ _ (by simp; omega) h
        simp at hj
        refine ⟨n + j, by simp; omega, by omega, ?_⟩
        rw [take_more j hn.1, cut_skipped hs _ (fun hb => ?_)]
        · exact hx
        · rcases skip_rest hs hb with e | ⟨z, e⟩
          · rw [e]; simp
          · rw [e]; cases j with
            | zero => exact .inl rfl
            | succ j => exact .inr ⟨z.take j, rfl⟩
      | wrong => rw [cut_wrong _ _ hs] at h; cases h
      | err e o => rw [cut_err _ _ hs] at h; split at h <;> cases h
      | tok k n s len =>
        rw [cut_tok _ _ hs] at h
        have hn := step_tok_le hs
        obtain ⟨g1, g2, g3⟩ := step_tok p hs
        split at h
        · cases h
        · rename_i hc
          cases hr : cut (r.drop (len - 1)) (cnt + 1) (p + len) with
          | error x => rw [hr] at h; cases h
          | ok b =>
            rw [hr] at h; injection h with h
            cases a1 with
            | nil =>
              injection h with h1 h2
              subst h1
              exact ⟨0, by simp, rfl, cut_nil _ _⟩
            | cons t0 a1 =>
              injection h with h1 h2
              subst h1
              rw [h2] at hr
              obtain ⟨j, hj, ht, hx⟩ := ih _ _ _ _ _ _ (by simp; omega) hr
              simp at hj
              have hlen : (text ⟨k, p, n, s⟩).length = len := by rw [g2, List.length_take]; simp; omega
              refine ⟨len + j, by simp; omega, by omega, ?_⟩
              rw [take_more j hn.1, ← g2, cut_text cnt p g1 (fun hk => ?_) hc, hlen, hx]
              · rfl
              · have := g3 hk
                cases hq : r.drop (len - 1) with
                | nil => simp [startsInner]
                | cons d q =>
                  rw [hq] at this
                  cases j with
                  | zero => rfl
                  | succ j => exact this

/-- TreeOpen -/
theorem parse_open {b : List UInt8} {l : List Nd} {t : List Tk} (hp : parse b = .ok l) (hc : cut b 0 0 = .ok t) :
    (t = [] → l = []) ∧ ∀ t1 u, t = t1 ++ [u] → u.a ≤ b.length ∧ parse (b.take u.a) = .error (5, u.a) ∧ l ≠ [] := by
  unfold parse at hp
  rw [hc] at hp
  simp only at hp
  cases hr : run t start with
  | error x => rw [hr] at hp; cases hp
  | ok r =>
    rw [hr] at hp
    simp only at hp
    split at hp
    · rename_i hs
      injection hp with hp
      refine ⟨fun h => ?_, fun t1 u h => ?_⟩
      · subst h
        injection hr with hr
        rw [← hp, ← hr]; rfl
      · subst h
        obtain ⟨r1, h1, h2, h3⟩ := run_open hr hs
        obtain ⟨j, hj, ha, hx⟩ := cut_upto _ _ _ _ _ _ _ (Nat.le_refl _) hc
        rw [Nat.zero_add] at ha
        rw [ha]
        refine ⟨by omega, ?_, hp ▸ h3⟩
        unfold parse
        rw [hx]
        simp only [h1, if_neg h2, List.length_take]
        rw [Nat.min_eq_left (by omega)]
    · cases hp

/-! ## Moved -/
def mv (d : Nat) (t : Tk) : Tk := { t with a := t.a + d }

theorem cut_move (d : Nat) (m : Nat) : ∀ (l : List UInt8) (cnt cnt' p : Nat), l.length ≤ m → cnt + l.length ≤ 8192 → cnt' + l.length ≤ 8192 →
    cut l cnt' (p + d) = match cut l cnt p with | .error x => .error (x.1, x.2 + d) | .ok a => .ok (a.map (mv d)) := by
  induction m with
  | zero =>
    intro l cnt cnt' p hl _ _
    rw [List.eq_nil_of_length_eq_zero (Nat.le_zero.1 hl), cut_nil, cut_nil]; rfl
  | succ m ih =>
    intro l cnt cnt' p hl h1 h2
    cases l with
    | nil => rw [cut_nil, cut_nil]; rfl
    | cons c r =>
      simp only [List.length_cons] at hl h1 h2
      cases hs : Zm.step c r with
      | skip n =>
        have hn := step_skip_le hs
        rw [cut_skip _ _ hs, cut_skip _ _ hs, show p + d + n = p + n + d by omega]
        exact ih _ _ _ _ (by simp; omega) (by simp; omega) (by simp; omega)
      | wrong => rw [cut_wrong _ _ hs, cut_wrong _ _ hs]
      | err e o =>
        rw [cut_err _ _ hs, cut_err _ _ hs, if_neg (by omega), if_neg (by omega)]
        simp only [show p + d + o = p + o + d by omega]
      | tok k n s len =>
        have hn := step_tok_le hs
        rw [cut_tok _ _ hs, cut_tok _ _ hs, if_neg (by omega), if_neg (by omega), show p + d + len = p + len + d by omega]
        rw [ih (r.drop (len - 1)) (cnt + 1) (cnt' + 1) (p + len) (by simp; omega) (by simp; omega) (by simp; omega)]
        cases cut (r.drop (len - 1)) (cnt + 1) (p + len) with
        | error x => rfl
        | ok a => rfl

def mvW (d : Nat) (w : Wd) : Wd := { w with a := w.a + d }
mutual
def mvN (d : Nat) : Nd → Nd
  | .mk nm a ws b ks => .mk nm (a + d) (ws.map (mvW d)) b (mvL d ks)
def mvL (d : Nat) : List Nd → List Nd
  | [] => []
  | n :: l => mvN d n :: mvL d l
end

theorem mvL_append (d : Nat) (a b : List Nd) : mvL d (a ++ b) = mvL d a ++ mvL d b := by
  induction a with
  | nil => simp [mvL]
  | cons n a ih => simp [mvL, ih]

def mvF (d : Nat) (f : Fr) : Fr := ⟨f.name, f.a + d, f.words.map (mvW d), f.block, mvL d f.kids⟩
def mvR (d : Nat) (r : Rd) : Rd := ⟨r.go, mvL d r.top, r.st.map (mvF d)⟩

theorem shut_move (d : Nat) (top : List Nd) (st : List Fr) : shut (mvL d top) (st.map (mvF d)) = mvR d (shut top st) := by
  match st with
  | [] => rfl
  | f :: [] => simp [shut, mvR, mvL_append, mvL, Fr.nd, mvF, mvN]
  | f :: g :: r => simp [shut, mvR, mvL_append, mvL, Fr.nd, mvF, mvN]

theorem mv_mk (d k a n : Nat) (s : List UInt8) : mv d ⟨k, a, n, s⟩ = ⟨k, a + d, n, s⟩ := rfl
theorem mvR_mk (d : Nat) (go : Bool) (top : List Nd) (st : List Fr) : mvR d ⟨go, top, st⟩ = ⟨go, mvL d top, st.map (mvF d)⟩ := rfl

theorem take_move (d : Nat) (r : Rd) (t : Tk) : take (mvR d r) (mv d t) = match take r t with | .error e => .error e | .ok r' => .ok (mvR d r') := by
  obtain ⟨go, top, st⟩ := r
  obtain ⟨k, a, n, s⟩ := t
  rw [mv_mk, mvR_mk]
  cases go with
  | false =>
    simp only [take]
    by_cases h1 : k = 1
    · rw [if_pos h1, if_pos h1]; simp [mvF, mvL, mvR]
    · rw [if_neg h1, if_neg h1]
      by_cases h4 : k = 4 ∧ st ≠ []
      · rw [if_pos h4, if_pos ⟨h4.1, by simpa using h4.2⟩, shut_move]
      · rw [if_neg h4, if_neg (by simpa using h4)]
  | true =>
    cases st with
    | nil => rfl
    | cons f st =>
      simp only [List.map_cons, take]
      by_cases h5 : k = 5
      · rw [if_pos h5, if_pos h5, ← List.map_cons, shut_move]
      · rw [if_neg h5, if_neg h5]
        by_cases h3 : k = 3
        · rw [if_pos h3, if_pos h3]
          simp only [List.length_map]
          by_cases h6 : 6 < st.length + 1
          · rw [if_pos h6, if_pos h6]
          · rw [if_neg h6, if_neg h6]; simp [mvF, mvR]
        · rw [if_neg h3, if_neg h3]
          by_cases h4 : k = 4
          · rw [if_pos h4, if_pos h4]
          · rw [if_neg h4, if_neg h4]
            simp only [mvF, List.length_map]
            by_cases h8 : f.words.length = 8
            · rw [if_pos h8, if_pos h8]
            · rw [if_neg h8, if_neg h8]; simp [mvF, wd, mvW, mvR]

theorem run_move (d : Nat) (l : List Tk) (r : Rd) : run (l.map (mv d)) (mvR d r) = match run l r with | .error x => .error (x.1, x.2 + d) | .ok r' => .ok (mvR d r') := by
  induction l generalizing r with
  | nil => rfl
  | cons t l ih =>
    simp only [List.map_cons, run]
    rw [take_move]
    cases take r t with
    | error e => rfl
    | ok r1 => exact ih r1

/-- TreeTwo -/
theorem parse_two {s t : List UInt8} {a : List Nd} (hp : parse s = .ok a) (hs : s.length ≤ 200) (ht : t.length ≤ 200) :
    parse (s ++ 10 :: t) = match parse t with | .error x => .error (x.1, s.length + 1 + x.2) | .ok b => .ok (a ++ mvL (s.length + 1) b) := by
  unfold parse at hp
  cases hc : cut s 0 0 with
  | error x => rw [hc] at hp; cases hp
  | ok l =>
    rw [hc] at hp
    simp only at hp
    cases hr : run l start with
    | error x => rw [hr] at hp; cases hp
    | ok r =>
      rw [hr] at hp
      simp only at hp
      split at hp
      · rename_i hst
        injection hp with hp
        have hl := (cut_tokens _ _ _ _ _ (Nat.le_refl _) hc).2.1
        unfold parse
        rw [cut_line_ok t hc, Nat.zero_add, Nat.zero_add, show s.length + 1 = 0 + (s.length + 1) by omega, cut_move (s.length + 1) _ t 0 l.length 0 (Nat.le_refl _) (by omega) (by omega), Nat.zero_add]
        cases cut t 0 0 with
        | error x => simp [Except.map]; omega
        | ok m =>
          simp only [Except.map]
          rw [run_two hr hst]
          have h0 : mvR (s.length + 1) start = start := rfl
          rw [← h0, run_move, h0]
          cases run m start with
          | error x => simp; omega
          | ok r2 =>
            simp only [mvR, List.map_eq_nil_iff]
            by_cases h2 : r2.st = []
            · rw [if_pos h2, if_pos h2, hp]
            · rw [if_neg h2, if_neg h2]
              simp; omega
      · cases hp

end Go.Proofs.YtabhbcedldjjjaaGreatDoor.Ym

namespace Go.Proofs.YtabhbcedldjjjaaGreatDoor.Ym
set_option linter.unusedSimpArgs false
set_option linter.unusedVariables false
open Go.Proofs.YtabhbcedldjjjaaGreatDoor.Zm

theorem deepL_snoc (l : List Nd) (n : Nd) : deepL (l ++ [n]) = max (deepL l) (deepN n) := by
  induction l with
  | nil => simp [deepL]
  | cons m l ih => simp only [List.cons_append, deepL, ih]; omega

def depSt : List Fr → Nat
  | [] => 0
  | f :: r => max (depSt r) (r.length + ((if f.block then 1 else 0) + deepL f.kids))

/-- how deep blocks have stood so far -/
def dep (r : Rd) : Nat := max (deepL r.top) (depSt r.st)

theorem depSt_all (st : List Fr) (h : ∀ g ∈ st, g.block = true) : st.length ≤ depSt st := by
  cases st with
  | nil => simp
  | cons f r =>
    have := h f (by simp)
    simp only [depSt, List.length_cons, this, if_true]; omega

theorem deepN_nd (f : Fr) : deepN f.nd = (if f.block then 1 else 0) + deepL f.kids := by simp [Fr.nd, deepN]

theorem shut_dep (top : List Nd) (f : Fr) (st : List Fr) (h : ∀ g ∈ st, g.block = true) : dep (shut top (f :: st)) = max (deepL top) (depSt (f :: st)) := by
  match st with
  | [] => simp only [shut, dep, depSt, deepL_snoc, deepN_nd, List.length_nil]; omega
  | g :: r =>
    have hg := h g (by simp)
    simp only [shut, dep, depSt, deepL_snoc, deepN_nd, List.length_cons, hg, if_true]; omega

theorem take_dep {r r' : Rd} {t : Tk} (h : r.Ok) (ht : take r t = .ok r') : dep r' = if r.go = true ∧ t.k = 3 then max (dep r) r.st.length else dep r := by
  obtain ⟨go, top, st⟩ := r
  cases go with
  | false =>
    simp only [Bool.false_eq_true, false_and, if_false]
    simp only [take] at ht
    by_cases h1 : t.k = 1
    · rw [if_pos h1] at ht
      injection ht with ht; subst ht
      have := depSt_all st h
      simp only [dep, depSt, deepL, Bool.false_eq_true, if_false]; omega
    · rw [if_neg h1] at ht
      by_cases h4 : t.k = 4 ∧ st ≠ []
      · rw [if_pos h4] at ht
        injection ht with ht; subst ht
        cases st with
        | nil => exact absurd rfl h4.2
        | cons f st => rw [shut_dep top f st (fun g hg => h g (by simp [hg]))]; rfl
      · rw [if_neg h4] at ht; cases ht
  | true =>
    cases st with
    | nil => exact h.elim
    | cons f st =>
      obtain ⟨hb, hk, hs⟩ := h
      simp only [take] at ht
      by_cases h5 : t.k = 5
      · rw [if_pos h5] at ht
        injection ht with ht; subst ht
        rw [if_neg (by omega), shut_dep top f st hs]; rfl
      · rw [if_neg h5] at ht
        by_cases h3 : t.k = 3
        · rw [if_pos h3] at ht
          rw [if_pos ⟨rfl, h3⟩]
          by_cases h6 : 6 < st.length + 1
          · rw [if_pos h6] at ht; cases ht
          · rw [if_neg h6] at ht
            injection ht with ht; subst ht
            simp only [dep, depSt, hb, hk, deepL, if_true, Bool.false_eq_true, if_false, List.length_cons]; omega
        · rw [if_neg h3] at ht
          rw [if_neg (by omega)]
          by_cases h4 : t.k = 4
          · rw [if_pos h4] at ht; cases ht
          · rw [if_neg h4] at ht
            by_cases h8 : f.words.length = 8
            · rw [if_pos h8] at ht; cases ht
            · rw [if_neg h8] at ht
              injection ht with ht; subst ht
              rfl

theorem take_dep_le {r r' : Rd} {t : Tk} (h : r.Ok) (ht : take r t = .ok r') : dep r ≤ dep r' := by
  rw [take_dep h ht]; split <;> omega

theorem run_dep_le {l : List Tk} {r r' : Rd} (h : r.Ok) (hr : run l r = .ok r') : dep r ≤ dep r' := by
  induction l generalizing r with
  | nil => injection hr with hr; subst hr; exact Nat.le_refl _
  | cons t l ih =>
    simp only [run] at hr
    cases e : take r t with
    | error x => rw [e] at hr; cases hr
    | ok r1 => rw [e] at hr; exact Nat.le_trans (take_dep_le h e) (ih (take_ok h e) hr)

/-- the reader over an open block x -/
def under (x : Fr) (r : Rd) : Rd := ⟨r.go, [], r.st ++ [{ x with kids := r.top }]⟩

theorem shut_under (x : Fr) (top : List Nd) (f : Fr) (st : List Fr) : shut [] (f :: st ++ [{ x with kids := top }]) = under x (shut top (f :: st)) := by
  match st with
  | [] => rfl
  | g :: r => rfl

theorem take_under {r r' : Rd} {t : Tk} (x : Fr) (h : r.Ok) (ht : take r t = .ok r') :
    take (under x r) t = if r.go = true ∧ t.k = 3 ∧ 6 ≤ r.st.length then .error 7 else .ok (under x r') := by
  obtain ⟨go, top, st⟩ := r
  cases go with
  | false =>
    simp only [Bool.false_eq_true, false_and, if_false]
    simp only [take] at ht
    simp only [under, take]
    by_cases h1 : t.k = 1
    · rw [if_pos h1] at ht
      rw [if_pos h1]
      injection ht with ht; subst ht
      rfl
    · rw [if_neg h1] at ht
      rw [if_neg h1]
      by_cases h4 : t.k = 4 ∧ st ≠ []
      · rw [if_pos h4] at ht
        rw [if_pos ⟨h4.1, by simp⟩]
        injection ht with ht; subst ht
        cases st with
        | nil => exact absurd rfl h4.2
        | cons f st => rw [shut_under]; rfl
      · rw [if_neg h4] at ht; cases ht
  | true =>
    cases st with
    | nil => exact h.elim
    | cons f st =>
      obtain ⟨hb, hk, hs⟩ := h
      simp only [take] at ht
      simp only [under, List.cons_append, take]
      by_cases h5 : t.k = 5
      · rw [if_pos h5] at ht
        injection ht with ht; subst ht
        rw [if_pos h5, if_neg (by omega), ← List.cons_append, shut_under]; rfl
      · rw [if_neg h5] at ht
        rw [if_neg h5]
        by_cases h3 : t.k = 3
        · rw [if_pos h3] at ht
          rw [if_pos h3]
          by_cases h6 : 6 < st.length + 1
          · rw [if_pos h6] at ht; cases ht
          · rw [if_neg h6] at ht
            injection ht with ht; subst ht
            by_cases h7 : 6 ≤ st.length + 1
            · rw [if_pos (by simp; omega), if_pos ⟨trivial, h3, by simpa using h7⟩]
            · rw [if_neg (by simp; omega), if_neg (by simp only [List.length_cons]; omega)]; rfl
        · rw [if_neg h3] at ht
          rw [if_neg h3, if_neg (show ¬ (True ∧ t.k = 3 ∧ 6 ≤ (f :: st).length) from fun q => h3 q.2.1)]
          by_cases h4 : t.k = 4
          · rw [if_pos h4] at ht; cases ht
          · rw [if_neg h4] at ht
            rw [if_neg h4]
            by_cases h8 : f.words.length = 8
            · rw [if_pos h8] at ht; cases ht
            · rw [if_neg h8] at ht
              rw [if_neg h8]
              injection ht with ht; subst ht
              rfl

/-- tokens that are read from the start are read over a block, if they do not go too deep; else that is told at one of them -/
theorem run_under (x : Fr) {l : List Tk} {r r' : Rd} (h : r.Ok) (hd : dep r < 6) (hr : run l r = .ok r') :
    (dep r' < 6 → run l (under x r) = .ok (under x r')) ∧ (6 ≤ dep r' → ∃ t ∈ l, run l (under x r) = .error (7, t.a)) := by
  induction l generalizing r with
  | nil => injection hr with hr; subst hr; exact ⟨fun _ => rfl, fun h6 => by omega⟩
  | cons t l ih =>
    simp only [run] at hr
    cases e : take r t with
    | error y => rw [e] at hr; cases hr
    | ok r1 =>
      rw [e] at hr
      have hu := take_under x h e
      have hdp := take_dep h e
      have hle := run_dep_le (take_ok h e) hr
      simp only [run]
      rw [hu]
      by_cases hc : r.go = true ∧ t.k = 3 ∧ 6 ≤ r.st.length
      · rw [if_pos hc]
        rw [if_pos ⟨hc.1, hc.2.1⟩] at hdp
        exact ⟨fun h6 => by omega, fun _ => ⟨t, by simp, rfl⟩⟩
      · rw [if_neg hc]
        have hd1 : dep r1 < 6 := by
          rw [hdp]
          split
          · rename_i hq
            have : ¬ 6 ≤ r.st.length := fun q => hc ⟨hq.1, hq.2, q⟩
            omega
          · exact hd
        obtain ⟨i1, i2⟩ := ih (take_ok h e) hd1 hr
        exact ⟨i1, fun h6 => by obtain ⟨u, hu, he⟩ := i2 h6; exact ⟨u, by simp [hu], he⟩⟩

end Go.Proofs.YtabhbcedldjjjaaGreatDoor.Ym

namespace Go.Proofs.YtabhbcedldjjjaaGreatDoor.Ym
set_option linter.unusedSimpArgs false
set_option linter.unusedVariables false
open Go.Proofs.YtabhbcedldjjjaaGreatDoor.Zm

/-- a text in a block -/
def blk (s : List UInt8) : List UInt8 := 120 :: 32 :: 55 :: 32 :: 123 :: (s ++ 10 :: [125])

theorem cut_blk (s : List UInt8) (hs : s.length ≤ 200) : cut (blk s) 0 0 = match cut s 0 0 with
    | .error x => .error (x.1, x.2 + 5)
    | .ok T => .ok (⟨1, 0, 0, [120]⟩ :: ⟨2, 2, 7, []⟩ :: ⟨3, 4, 0, []⟩ :: (T.map (mv 5) ++ [⟨4, s.length + 6, 0, []⟩])) := by
  unfold blk
  rw [cut_tok (k := 1) (n := 0) (len := 1) (s := [120]) 0 0 (by rfl), if_neg (by decide)]
  simp only [Nat.sub_self, List.drop_zero]
  rw [cut_blank (by decide), cut_tok (k := 2) (n := 7) (len := 1) (s := []) _ _ (by rfl), if_neg (by decide)]
  simp only [Nat.sub_self, List.drop_zero]
  rw [cut_blank (by decide), cut_tok (k := 3) (n := 0) (len := 1) (s := []) _ _ (by rfl), if_neg (by decide)]
  simp only [Nat.sub_self, List.drop_zero]
  have hm := cut_move 5 _ s 0 3 0 (Nat.le_refl _) (by omega) (by omega)
  cases hc : cut s 0 0 with
  | error x =>
    rw [hc] at hm
    rw [show cut (s ++ 10 :: [125]) (0 + 1 + 1 + 1) (0 + 1 + 1 + 1 + 1 + 1) = .error (x.1, x.2 + 5) from cut_line_error _ hm]
    rfl
  | ok T =>
    rw [hc] at hm
    have hl := (cut_tokens _ _ _ _ _ (Nat.le_refl _) hc).2.1
    rw [show cut (s ++ 10 :: [125]) (0 + 1 + 1 + 1) (0 + 1 + 1 + 1 + 1 + 1) = _ from cut_line_ok [125] hm]
    rw [cut_tok (k := 4) (n := 0) (len := 1) (s := []) _ _ (by rfl), if_neg (by simp; omega)]
    simp only [Nat.sub_self, List.drop_zero, cut_nil]
    simp [Except.map]
    omega

mutual
theorem deepN_mv (d : Nat) : ∀ n : Nd, deepN (mvN d n) = deepN n
  | .mk _ _ _ b ks => by simp [mvN, deepN, deepL_mv d ks]
theorem deepL_mv (d : Nat) : ∀ l : List Nd, deepL (mvL d l) = deepL l
  | [] => rfl
  | n :: l => by simp [mvL, deepL, deepN_mv d n, deepL_mv d l]
end

/-- a fault is told at a token -/
theorem run_place {l : List Tk} {r : Rd} {e q : Nat} (h : run l r = .error (e, q)) : ∃ t ∈ l, t.a = q := by
  induction l generalizing r with
  | nil => cases h
  | cons t l ih =>
    simp only [run] at h
    cases e' : take r t with
    | error y =>
      rw [e'] at h
      injection h with h; injection h with h1 h2
      exact ⟨t, by simp, h2⟩
    | ok r1 =>
      rw [e'] at h
      obtain ⟨u, hu, hq⟩ := ih h
      exact ⟨u, by simp [hu], hq⟩

def xf : Fr := ⟨[120], 0, [⟨true, 7, [], 2⟩], true, []⟩

theorem run_head (T : List Tk) : run (⟨1, 0, 0, [120]⟩ :: ⟨2, 2, 7, []⟩ :: ⟨3, 4, 0, []⟩ :: T) start = run T (under xf start) := rfl

theorem start_dep : dep start = 0 := rfl

/-- TreeBlock: a text that is read -/
theorem parse_block {s : List UInt8} {l : List Nd} (hs : s.length ≤ 200) (hp : parse s = .ok l) :
    deepL l ≤ 6 ∧ (deepL l = 6 → ∃ q, 4 < q ∧ parse (blk s) = .error (7, q)) ∧ (deepL l < 6 → parse (blk s) = .ok [.mk [120] 0 [⟨true, 7, [], 2⟩] true (mvL 5 l)]) := by
  unfold parse at hp
  cases hc : cut s 0 0 with
  | error x => rw [hc] at hp; cases hp
  | ok T =>
    rw [hc] at hp
    simp only at hp
    cases hr : run T start with
    | error x => rw [hr] at hp; cases hp
    | ok r =>
      rw [hr] at hp
      simp only at hp
      split at hp
      · rename_i hst
        injection hp with hp
        have hT := (cut_tokens _ _ _ _ _ (Nat.le_refl _) hc).1
        have hR := run_right start_ok (fun t ht => (hT t ht).1) (⟨trivial, trivial⟩ : RightR start) hr
        have hd : dep r = deepL l := by simp [dep, hst, depSt, hp]
        have hm := run_move 5 T start
        rw [hr] at hm
        have hm' : run (T.map (mv 5)) start = .ok (mvR 5 r) := hm
        have hdm : dep (mvR 5 r) = dep r := by
          have key : ∀ L : List Nd, deepL (mvL 5 L) = deepL L := fun L => deepL_mv 5 L
          simp [dep, mvR, hst, depSt, key]
        have hu := run_under xf start_ok (by rw [start_dep]; decide) hm'
        rw [hdm, hd] at hu
        have h6 := deepL_right (d := 0) (by decide) hR.1
        rw [hp] at h6
        refine ⟨by omega, fun e => ?_, fun e => ?_⟩
        · obtain ⟨t, ht, he⟩ := hu.2 (by omega)
          obtain ⟨u, hu', rfl⟩ := List.mem_map.1 ht
          refine ⟨u.a + 5, by omega, ?_⟩
          unfold parse
          rw [cut_blk s hs, hc]
          simp only
          rw [run_head, run_append, he]
          rfl
        · unfold parse
          rw [cut_blk s hs, hc]
          simp only
          rw [run_head, run_append, hu.1 e]
          have hg : r.go = false := by
            have := run_ok start_ok hr
            obtain ⟨go, top, st⟩ := r
            simp only at hst
            subst hst
            cases go with
            | false => rfl
            | true => exact this.elim
          simp [run, take, under, mvR, hg, hst, shut, Fr.nd, xf, hp]
      · cases hp

/-- TreeBlock: a text that is not read, and told at its end, is not in a block either -/
theorem parse_block_bad {s : List UInt8} {e q : Nat} (hs : s.length ≤ 200) (hp : parse s = .error (e, q)) : q < s.length ∨ ∃ x, parse (blk s) = .error x := by
  unfold parse at hp
  cases hc : cut s 0 0 with
  | error x =>
    rw [hc] at hp
    injection hp with hp
    subst hp
    obtain ⟨j, hj, h1, _⟩ := cut_ahead _ _ _ _ _ _ (Nat.le_refl _) hc
    exact .inl (by omega)
  | ok T =>
    rw [hc] at hp
    simp only at hp
    cases hr : run T start with
    | error x =>
      rw [hr] at hp
      injection hp with hp
      subst hp
      left
      obtain ⟨t, ht, rfl⟩ := run_place hr
      obtain ⟨a1, a2, rfl⟩ := List.append_of_mem ht
      obtain ⟨j, hj, ha, _⟩ := cut_upto _ _ _ _ _ _ _ (Nat.le_refl _) hc
      omega
    | ok r =>
      rw [hr] at hp
      simp only at hp
      split at hp
      · cases hp
      · rename_i hst
        right
        unfold parse
        rw [cut_blk s hs, hc]
        simp only
        rw [run_head, run_append]
        have hm := run_move 5 T start
        rw [hr] at hm
        have hm' : run (T.map (mv 5)) start = .ok (mvR 5 r) := hm
        have hu := run_under xf start_ok (by rw [start_dep]; decide) hm'
        rcases Nat.lt_or_ge (dep (mvR 5 r)) 6 with h6 | h6
        · rw [hu.1 h6]
          obtain ⟨go, top, st⟩ := r
          cases go with
          | true =>
            cases st with
            | nil => exact absurd rfl hst
            | cons f st => simp [run, take, under, mvR]
          | false =>
            match st, hst with
            | f :: [], _ => simp [run, take, under, mvR, shut]
            | f :: g :: st, _ => simp [run, take, under, mvR, shut]
        · obtain ⟨t, ht, he⟩ := hu.2 h6
          rw [he]
          exact ⟨_, rfl⟩

end Go.Proofs.YtabhbcedldjjjaaGreatDoor.Ym

namespace Go.Proofs.YtabhbcedldjjjaaGreatDoor.Ym
set_option linter.unusedSimpArgs false
set_option linter.unusedVariables false
open Go.Proofs.YtabhbcedldjjjaaGreatDoor.Zm

theorem parse_is {b : List UInt8} {l : List Nd} (hp : parse b = .ok l) : ∃ a r, cut b 0 0 = .ok a ∧ run a start = .ok r ∧ r.st = [] ∧ r.top = l := by
  unfold parse at hp
  cases hc : cut b 0 0 with
  | error x => rw [hc] at hp; cases hp
  | ok a =>
    rw [hc] at hp
    simp only at hp
    cases hr : run a start with
    | error x => rw [hr] at hp; cases hp
    | ok r =>
      rw [hr] at hp
      simp only at hp
      split at hp
      · rename_i hs
        injection hp with hp
        exact ⟨a, r, rfl, hr, hs, hp⟩
      · cases hp
theorem parse_right {b : List UInt8} {l : List Nd} {a : List Tk} (hp : parse b = .ok l) (hc : cut b 0 0 = .ok a) : RightL 0 l ∧ flatL l = a.map bare ∧ deepL l ≤ 6 ∧ countL l ≤ a.length ∧ a.length ≤ b.length := by
  obtain ⟨a', r, h1, h2, h3, h4⟩ := parse_is hp
  rw [hc] at h1
  injection h1 with h1
  subst h1
  obtain ⟨f1, f2, _⟩ := cut_tokens _ _ _ _ _ (Nat.le_refl _) hc
  have hf : ∀ t ∈ a, Fine t := fun t ht => (f1 t ht).1
  have R := run_right start_ok hf ⟨trivial, trivial⟩ h2
  have F := run_flat start_ok hf h2
  have e : flatL l = a.map bare := by
    have : flatR r = flatL r.top := by unfold flatR; rw [h3]; simp [flatSt]
    rw [this, h4] at F
    simpa [flatR, start, flatL, flatSt] using F
  have R' : RightL 0 l := h4 ▸ R.1
  refine ⟨R', e, by simpa using deepL_right (d := 0) (by omega) R', ?_, f2⟩
  have := countL_flat R'
  rw [e] at this
  simpa using this
theorem parse_at {b : List UInt8} {e q : Nat} (hp : parse b = .error (e, q)) : q ≤ b.length := by
  unfold parse at hp
  cases hc : cut b 0 0 with
  | error x =>
    rw [hc] at hp
    injection hp with hp
    subst hp
    obtain ⟨j, h1, h2, _⟩ := cut_ahead _ _ _ _ _ _ (Nat.le_refl _) hc
    omega
  | ok a =>
    rw [hc] at hp
    simp only at hp
    cases hr : run a start with
    | error x =>
      rw [hr] at hp
      injection hp with hp
      subst hp
      obtain ⟨t, ht, hq⟩ := run_place hr
      obtain ⟨a1, a2, rfl⟩ := List.append_of_mem ht
      obtain ⟨j, h1, h2, _⟩ := cut_upto _ _ _ _ _ _ _ (Nat.le_refl _) hc
      omega
    | ok r =>
      rw [hr] at hp
      simp only at hp
      split at hp
      · cases hp
      · injection hp with hp; injection hp with _ hp; omega

end Go.Proofs.YtabhbcedldjjjaaGreatDoor.Ym

namespace Go.Proofs.YtabhbcedldjjjaaGreatDoor.Ym
set_option linter.unusedSimpArgs false
set_option linter.unusedVariables false
open Go.Proofs.YtabhbcedldjjjaaGreatDoor.Zm

/-- the text's end: nothing may be open -/
def fin (n : Nat) : Except (Nat × Nat) Rd → Except (Nat × Nat) (List Nd)
  | .error x => .error x
  | .ok r => if r.st = [] then .ok r.top else .error (5, n)
/-- items are put into the innermost item that is open, or into the text -/
def addK (top : List Nd) (st : List Fr) (out : List Nd) : Rd :=
  match st with
  | [] => ⟨false, top ++ out, []⟩
  | f :: st => ⟨false, top, { f with kids := f.kids ++ out } :: st⟩
theorem addK_nil (top : List Nd) (st : List Fr) : addK top st [] = ⟨false, top, st⟩ := by
  cases st <;> simp [addK]
theorem addK_len (top : List Nd) (st : List Fr) (out : List Nd) : (addK top st out).st.length = st.length := by
  cases st <;> simp [addK]
theorem addK_go (top : List Nd) (st : List Fr) (out : List Nd) : (addK top st out).go = false := by
  cases st <;> rfl
theorem addK_add (top : List Nd) (st : List Fr) (out out2 : List Nd) : addK (addK top st out).top (addK top st out).st out2 = addK top st (out ++ out2) := by
  cases st <;> simp [addK]
theorem addK_is (top : List Nd) (st : List Fr) (out : List Nd) : addK top st out = ⟨false, (addK top st out).top, (addK top st out).st⟩ := by
  cases st <;> rfl
theorem shut_add (top : List Nd) (f : Fr) (st : List Fr) : shut top (f :: st) = addK top st [f.nd] := by
  cases st <;> rfl
theorem run_drop (A : List Tk) (k : Nat) (h : k < A.length) (r : Rd) : run (A.drop k) r = match take r A[k] with | .error e => .error (e, A[k].a) | .ok r' => run (A.drop (k + 1)) r' := by
  rw [List.drop_eq_getElem_cons h]
  rfl
theorem run_past (A : List Tk) (k : Nat) (h : A.length ≤ k) (r : Rd) : run (A.drop k) r = .ok r := by
  rw [List.drop_eq_nil_of_le h]
  rfl

/-- what reading items comes to that stand in so many blocks, from token k on -/
def ISaid (A : List Tk) (n deep k : Nat) (out : List Nd) (k' at' er' : Nat) : Prop :=
  (er' = 0 ∧ (deep = 0 → k' = A.length) ∧ (0 < deep → ∃ h : k' < A.length, A[k'].k = 4) ∧ ∀ top st, st.length = deep → run (A.drop k) ⟨false, top, st⟩ = run (A.drop k') (addK top st out)) ∨
  (er' ≠ 0 ∧ ∀ top st, st.length = deep → fin n (run (A.drop k) ⟨false, top, st⟩) = .error (er', at'))
/-- .. while it goes on -/
def IMid (A : List Tk) (n deep k : Nat) (out : List Nd) (k' at' er' : Nat) : Prop :=
  (er' = 0 ∧ k' ≤ A.length ∧ ∀ top st, st.length = deep → run (A.drop k) ⟨false, top, st⟩ = run (A.drop k') (addK top st out)) ∨
  (er' ≠ 0 ∧ ∀ top st, st.length = deep → fin n (run (A.drop k) ⟨false, top, st⟩) = .error (er', at'))
/-- what reading one item comes to, behind its name -/
def JSaid (A : List Tk) (n deep k : Nat) (fr : Fr) (nd : Nd) (k' at' er' : Nat) : Prop :=
  (er' = 0 ∧ k' ≤ A.length ∧ ∀ top st, st.length = deep → run (A.drop k) ⟨true, top, fr :: st⟩ = run (A.drop k') (addK top st [nd])) ∨
  (er' ≠ 0 ∧ ∀ top st, st.length = deep → fin n (run (A.drop k) ⟨true, top, fr :: st⟩) = .error (er', at'))
def fr0 (t : Tk) : Fr := ⟨t.s, t.a, [], false, []⟩

theorem imid_start (A : List Tk) (n deep k : Nat) (h : k ≤ A.length) (at' : Nat) : IMid A n deep k [] k at' 0 :=
  .inl ⟨rfl, h, fun top st _ => by rw [addK_nil]⟩
/-- an item more -/
theorem imid_item {A : List Tk} {n deep k k1 : Nat} {out : List Nd} {at1 : Nat} (h : IMid A n deep k out k1 at1 0) (hk : k1 < A.length) (h1 : A[k1].k = 1) {nd : Nd} {k' at' er' : Nat} (hJ : JSaid A n deep (k1 + 1) (fr0 A[k1]) nd k' at' er') :
    IMid A n deep k (out ++ [nd]) k' at' er' := by
  rcases h with ⟨_, _, h⟩ | ⟨h, _⟩
  · have step : ∀ top st, run (A.drop k1) (addK top st out) = run (A.drop (k1 + 1)) ⟨true, (addK top st out).top, fr0 A[k1] :: (addK top st out).st⟩ := fun top st => by
      rw [run_drop A k1 hk, addK_is]
      simp only [take, if_pos h1, fr0]
    rcases hJ with ⟨e, hk', hj⟩ | ⟨e, hj⟩
    · refine .inl ⟨e, hk', fun top st hs => ?_⟩
      rw [h top st hs, step, hj _ _ (by rw [addK_len]; exact hs), addK_add]
    · refine .inr ⟨e, fun top st hs => ?_⟩
      rw [h top st hs, step]
      exact hj _ _ (by rw [addK_len]; exact hs)
  · exact absurd rfl h
/-- a token that may not stand there -/
theorem imid_bad {A : List Tk} {n deep k k1 : Nat} {out : List Nd} {at1 : Nat} (h : IMid A n deep k out k1 at1 0) (hk : k1 < A.length) (h1 : ¬ A[k1].k = 1) (h4 : ¬ (A[k1].k = 4 ∧ 0 < deep)) :
    ∀ top st, st.length = deep → fin n (run (A.drop k) ⟨false, top, st⟩) = .error (5, A[k1].a) := by
  intro top st hs
  rcases h with ⟨_, _, h⟩ | ⟨h, _⟩
  · rw [h top st hs, run_drop A k1 hk, addK_is]
    simp only [take, if_neg h1]
    have : ¬ (A[k1].k = 4 ∧ (addK top st out).st ≠ []) := fun q => h4 ⟨q.1, by
      have := addK_len top st out
      have : (addK top st out).st.length ≠ 0 := fun e => q.2 (List.eq_nil_of_length_eq_zero e)
      omega⟩
    rw [if_neg this]
    rfl
  · exact absurd rfl h
/-- the tokens' end within a block -/
theorem imid_end {A : List Tk} {n deep k k1 : Nat} {out : List Nd} {at1 : Nat} (h : IMid A n deep k out k1 at1 0) (hk : A.length ≤ k1) (hd : 0 < deep) : ∀ top st, st.length = deep → fin n (run (A.drop k) ⟨false, top, st⟩) = .error (5, n) := by
  intro top st hs
  rcases h with ⟨_, _, h⟩ | ⟨h, _⟩
  · rw [h top st hs, run_past A k1 hk]
    have : (addK top st out).st ≠ [] := fun e => by
      have := addK_len top st out
      rw [e] at this
      simp at this
      omega
    simp only [fin, if_neg this]
  · exact absurd rfl h

/-! ## one item -/
/-- behind the name and some words -/
def JMid (A : List Tk) (deep k : Nat) (fr : Fr) (ws : List Wd) (k1 : Nat) : Prop :=
  k1 ≤ A.length ∧ ∀ top st, st.length = deep → run (A.drop k) ⟨true, top, fr :: st⟩ = run (A.drop k1) ⟨true, top, { fr with words := ws } :: st⟩
theorem jmid_start (A : List Tk) (deep k : Nat) (t : Tk) (h : k ≤ A.length) : JMid A deep k (fr0 t) [] k := ⟨h, fun _ _ _ => rfl⟩
theorem jmid_word {A : List Tk} {deep k k1 : Nat} {fr : Fr} {ws : List Wd} (h : JMid A deep k fr ws k1) (hk : k1 < A.length) (hw : A[k1].k = 1 ∨ A[k1].k = 2) (h8 : ¬ ws.length = 8) : JMid A deep k fr (ws ++ [wd A[k1]]) (k1 + 1) := by
  refine ⟨by omega, fun top st hs => ?_⟩
  rw [h.2 top st hs, run_drop A k1 hk]
  simp only [take]
  rw [if_neg (by omega), if_neg (by omega), if_neg (by omega), if_neg h8]
theorem jmid_full {A : List Tk} {n deep k k1 : Nat} {fr : Fr} {ws : List Wd} (h : JMid A deep k fr ws k1) (hk : k1 < A.length) (hw : A[k1].k = 1 ∨ A[k1].k = 2) (h8 : ws.length = 8) (nd : Nd) (k' : Nat) : JSaid A n deep k fr nd k' A[k1].a 6 := by
  refine .inr ⟨by decide, fun top st hs => ?_⟩
  rw [h.2 top st hs, run_drop A k1 hk]
  simp only [take]
  rw [if_neg (by omega), if_neg (by omega), if_neg (by omega), if_pos h8]
  rfl
theorem jmid_end {A : List Tk} {n deep k k1 at' : Nat} {fr : Fr} {ws : List Wd} (h : JMid A deep k fr ws k1) (hk : k1 < A.length) (hw : A[k1].k = 5) : JSaid A n deep k fr ({ fr with words := ws } : Fr).nd (k1 + 1) at' 0 := by
  refine .inl ⟨rfl, by omega, fun top st hs => ?_⟩
  rw [h.2 top st hs, run_drop A k1 hk]
  simp only [take]
  rw [if_pos hw, shut_add]
theorem jmid_deep {A : List Tk} {n deep k k1 : Nat} {fr : Fr} {ws : List Wd} (h : JMid A deep k fr ws k1) (hk : k1 < A.length) (hw : A[k1].k = 3) (hd : deep = 6) (nd : Nd) (k' : Nat) : JSaid A n deep k fr nd k' A[k1].a 7 := by
  refine .inr ⟨by decide, fun top st hs => ?_⟩
  rw [h.2 top st hs, run_drop A k1 hk]
  simp only [take]
  rw [if_neg (by omega), if_pos hw, if_pos (by omega)]
  rfl
theorem jmid_bad {A : List Tk} {n deep k k1 : Nat} {fr : Fr} {ws : List Wd} (h : JMid A deep k fr ws k1) (hk : k1 < A.length) (h1 : ¬ A[k1].k = 1) (h2 : ¬ A[k1].k = 2) (h3 : ¬ A[k1].k = 3) (h5 : ¬ A[k1].k = 5) (h4 : A[k1].k = 4) (nd : Nd) (k' : Nat) : JSaid A n deep k fr nd k' A[k1].a 5 := by
  refine .inr ⟨by decide, fun top st hs => ?_⟩
  rw [h.2 top st hs, run_drop A k1 hk]
  simp only [take]
  rw [if_neg h5, if_neg h3, if_pos h4]
  rfl
theorem jmid_past {A : List Tk} {n deep k k1 : Nat} {fr : Fr} {ws : List Wd} (h : JMid A deep k fr ws k1) (hk : A.length ≤ k1) (nd : Nd) (k' : Nat) : JSaid A n deep k fr nd k' n 5 := by
  refine .inr ⟨by decide, fun top st hs => ?_⟩
  rw [h.2 top st hs, run_past A k1 hk]
  simp only [fin]
  rw [if_neg (by simp)]
/-- a block, whose items were read -/
theorem jmid_block {A : List Tk} {n deep k k1 : Nat} {t : Tk} {ws : List Wd} (h : JMid A deep k (fr0 t) ws k1) (hk : k1 < A.length) (hw : A[k1].k = 3) (hd : deep < 6) {out : List Nd} {k' at' er' : Nat} (hI : ISaid A n (deep + 1) (k1 + 1) out k' at' er') :
    JSaid A n deep k (fr0 t) (.mk t.s t.a ws true out) (k' + 1) at' er' := by
  have step : ∀ top st, st.length = deep → run (A.drop k) ⟨true, top, fr0 t :: st⟩ = run (A.drop (k1 + 1)) ⟨false, top, ⟨t.s, t.a, ws, true, []⟩ :: st⟩ := fun top st hs => by
    rw [h.2 top st hs, run_drop A k1 hk]
    simp only [take]
    rw [if_neg (by omega), if_pos hw, if_neg (by omega)]
    rfl
  rcases hI with ⟨e, _, h4, hj⟩ | ⟨e, hj⟩
  · obtain ⟨hk', h4⟩ := h4 (by omega)
    refine .inl ⟨e, by omega, fun top st hs => ?_⟩
    rw [step top st hs, hj _ _ (by simp; exact hs), run_drop A k' hk']
    simp only [addK, take, h4]
    simp only [List.nil_append]
    rw [if_neg (by omega), if_pos ⟨trivial, by simp⟩, shut_add]
    rfl
  · refine .inr ⟨e, fun top st hs => ?_⟩
    rw [step top st hs]
    exact hj _ _ (by simp; exact hs)

theorem parse_fin (b : List UInt8) : parse b = match cut b 0 0 with | .error x => .error x | .ok a => fin b.length (run a start) := by
  unfold parse
  cases cut b 0 0 with
  | error x => rfl
  | ok a =>
    simp only
    cases run a start with
    | error x => rfl
    | ok r => rfl

end Go.Proofs.YtabhbcedldjjjaaGreatDoor.Ym
