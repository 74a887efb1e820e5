/- Items: their tokens, what is right of them, how deep they stand, how many there are; and that the reader keeps all of it. -/
import Derived.Test.YtjebdoecigmkhaaDoorYmath
namespace Go.Proofs.YtjebdoecigmkhaaDoor.Ym
set_option linter.unusedSimpArgs false
set_option linter.unusedVariables false
open Go.Proofs.YtjebdoecigmkhaaDoor.Zm

def flatW (w : Wd) : Nat × Nat × List UInt8 := if w.num then (2, w.n, []) else (1, 0, w.s)

mutual
/-- the tokens of items, without places -/
def flatN : Nd → List (Nat × Nat × List UInt8)
  | .mk nm _ ws b ks => (1, 0, nm) :: ws.map flatW ++ (if b then (3, 0, []) :: flatL ks ++ [(4, 0, [])] else [(5, 0, [])])
def flatL : List Nd → List (Nat × Nat × List UInt8)
  | [] => []
  | n :: l => flatN n ++ flatL l
end

theorem flatL_snoc (l : List Nd) (n : Nd) : flatL (l ++ [n]) = flatL l ++ flatN n := by
  induction l with
  | nil => simp [flatL]
  | cons m l ih => simp [flatL, ih]

def flatF (f : Fr) : List (Nat × Nat × List UInt8) := (1, 0, f.name) :: f.words.map flatW ++ (if f.block then (3, 0, []) :: flatL f.kids else [])
def flatSt : List Fr → List (Nat × Nat × List UInt8)
  | [] => []
  | f :: r => flatSt r ++ flatF f
def flatR (r : Rd) : List (Nat × Nat × List UInt8) := flatL r.top ++ flatSt r.st

theorem shut_flat (top : List Nd) (f : Fr) (st : List Fr) (h : ∀ g ∈ st, g.block = true) (x : Nat × Nat × List UInt8) (hx : flatN f.nd = flatF f ++ [x]) : flatR (shut top (f :: st)) = flatL top ++ flatSt (f :: st) ++ [x] := by
  match st with
  | [] => simp [shut, flatR, flatSt, flatL_snoc, hx]
  | g :: r =>
    have hg := h g (by simp)
    simp [shut, flatR, flatSt, flatF, hg, flatL_snoc, hx]

theorem take_flat {r r' : Rd} {t : Tk} (h : r.Ok) (hf : Fine t) (ht : take r t = .ok r') : flatR r' = flatR r ++ [bare t] := by
  obtain ⟨go, top, st⟩ := r
  obtain ⟨k, a, n, s⟩ := t
  cases go with
  | false =>
    simp only [take] at ht
    split at ht
    · rename_i hk
      injection ht with ht; subst ht
      try simp only at hk
      have hn : n = 0 := by
        rcases hf with ⟨_, h2, _⟩ | ⟨h1, _⟩ | ⟨h1, _⟩
        · exact h2
        · simp only at h1; omega
        · simp only at h1; omega
      subst hk hn
      simp [flatR, flatSt, flatF, bare]
    · split at ht
      · rename_i hk
        obtain ⟨hk, hst⟩ := hk
        injection ht with ht; subst ht
        try simp only at hk
        subst hk
        have hsn : s = [] ∧ n = 0 := by
          rcases hf with ⟨h1, _⟩ | ⟨h1, _⟩ | ⟨_, h2, h3⟩
          · simp at h1
          · simp at h1
          · exact ⟨h2, h3⟩
        obtain ⟨rfl, rfl⟩ := hsn
        cases st with
        | nil => exact absurd rfl hst
        | cons f st =>
          have hb := h f (by simp)
          rw [shut_flat top f st (fun g hg => h g (by simp [hg])) (4, 0, []) (by simp [Fr.nd, flatN, flatF, hb])]
          rfl
      · cases ht
  | true =>
    cases st with
    | nil => exact h.elim
    | cons f st =>
      obtain ⟨hb, hk0, hst⟩ := h
      simp only [take] at ht
      split at ht
      · rename_i hk
        try simp only at hk
        subst hk
        injection ht with ht; subst ht
        have hsn : s = [] ∧ n = 0 := by
          rcases hf with ⟨h1, _⟩ | ⟨h1, _⟩ | ⟨_, h2, h3⟩
          · simp at h1
          · simp at h1
          · exact ⟨h2, h3⟩
        obtain ⟨rfl, rfl⟩ := hsn
        rw [shut_flat top f st hst (5, 0, []) (by simp [Fr.nd, flatN, flatF, hb])]
        rfl
      · split at ht
        · rename_i hk
          try simp only at hk
          subst hk
          split at ht
          · cases ht
          · injection ht with ht; subst ht
            have hsn : s = [] ∧ n = 0 := by
              rcases hf with ⟨h1, _⟩ | ⟨h1, _⟩ | ⟨_, h2, h3⟩
              · simp at h1
              · simp at h1
              · exact ⟨h2, h3⟩
            obtain ⟨rfl, rfl⟩ := hsn
            simp [flatR, flatSt, flatF, hb, hk0, flatL, bare]
        · split at ht
          · cases ht
          · split at ht
            · cases ht
            · rename_i h5 h3 h4 h8
              injection ht with ht; subst ht
              have hw : flatW (wd ⟨k, a, n, s⟩) = bare ⟨k, a, n, s⟩ := by
                rcases hf with ⟨h1, h2, _⟩ | ⟨h1, h2, _⟩ | ⟨h1, _⟩
                · simp only at h1 h2; subst h1 h2; rfl
                · simp only at h1 h2; subst h1 h2; rfl
                · simp only at h1 h5 h3 h4; omega
              simp [flatR, flatSt, flatF, hb, hw]

/-- P9.3, TreeTokens' half -/
theorem run_flat {l : List Tk} {r r' : Rd} (h : r.Ok) (hl : ∀ t ∈ l, Fine t) (hr : run l r = .ok r') : flatR r' = flatR r ++ l.map bare := by
  induction l generalizing r with
  | nil => injection hr with hr; subst hr; simp
  | cons t l ih =>
    simp only [run] at hr
    cases e : take r t with
    | error x => rw [e] at hr; cases hr
    | ok r1 =>
      rw [e] at hr
      rw [ih (take_ok h e) (fun u hu => hl u (by simp [hu])) hr, take_flat h (hl t (by simp)) e]
      simp

def WdFine (w : Wd) : Prop := (w.num = true ∧ w.s = [] ∧ w.n ≤ 999999999) ∨ (w.num = false ∧ w.n = 0 ∧ Zm.name w.s = true)

mutual
/-- an item that stands in d blocks may be -/
def RightN (d : Nat) : Nd → Prop
  | .mk nm _ ws b ks => Zm.name nm = true ∧ ws.length ≤ 8 ∧ (∀ w ∈ ws, WdFine w) ∧ (b = false → ks = []) ∧ (b = true → d < 6) ∧ RightL (d + 1) ks
def RightL (d : Nat) : List Nd → Prop
  | [] => True
  | n :: l => RightN d n ∧ RightL d l
end

theorem rightL_snoc (d : Nat) (l : List Nd) (n : Nd) : RightL d (l ++ [n]) ↔ RightL d l ∧ RightN d n := by
  induction l with
  | nil => simp [RightL]
  | cons m l ih => simp [RightL, ih, and_assoc]

def RightSt : List Fr → Prop
  | [] => True
  | f :: r => Zm.name f.name = true ∧ f.words.length ≤ 8 ∧ (∀ w ∈ f.words, WdFine w) ∧ (f.block = true → r.length < 6) ∧ RightL (r.length + 1) f.kids ∧ RightSt r

def RightR (r : Rd) : Prop := RightL 0 r.top ∧ RightSt r.st

theorem shut_right (top : List Nd) (f : Fr) (st : List Fr) (h : RightL 0 top) (hs : RightSt (f :: st)) (hk : f.block = false → f.kids = []) : RightR (shut top (f :: st)) := by
  obtain ⟨h1, h2, h3, h4, h5, h6⟩ := hs
  match st, h4, h5, h6 with
  | [], h4, h5, h6 => exact ⟨(rightL_snoc _ _ _).2 ⟨h, h1, h2, h3, hk, h4, h5⟩, trivial⟩
  | g :: r, h4, h5, h6 =>
    obtain ⟨g1, g2, g3, g4, g5, g6⟩ := h6
    exact ⟨h, g1, g2, g3, g4, (rightL_snoc _ _ _).2 ⟨g5, h1, h2, h3, hk, h4, h5⟩, g6⟩

theorem take_right {r r' : Rd} {t : Tk} (h : r.Ok) (hf : Fine t) (hR : RightR r) (ht : take r t = .ok r') : RightR r' := by
  obtain ⟨go, top, st⟩ := r
  obtain ⟨k, a, n, s⟩ := t
  obtain ⟨hT, hS⟩ := hR
  simp only at hT hS
  cases go with
  | false =>
    simp only [take] at ht
    split at ht
    · rename_i hk
      injection ht with ht; subst ht
      try simp only at hk
      have hn : Zm.name s = true := by
        rcases hf with ⟨_, _, h3⟩ | ⟨h1, _⟩ | ⟨h1, _⟩
        · exact h3
        · simp only at h1; omega
        · simp only at h1; omega
      exact ⟨hT, hn, by simp, by simp, by simp, trivial, hS⟩
    · split at ht
      · rename_i hk
        obtain ⟨hk, hst⟩ := hk
        injection ht with ht; subst ht
        cases st with
        | nil => exact absurd rfl hst
        | cons f st =>
          have hb := h f (by simp)
          exact shut_right top f st hT hS (fun e => by rw [hb] at e; cases e)
      · cases ht
  | true =>
    cases st with
    | nil => exact h.elim
    | cons f st =>
      obtain ⟨hb, hk0, hst⟩ := h
      simp only [take] at ht
      split at ht
      · injection ht with ht; subst ht
        exact shut_right top f st hT hS (fun _ => hk0)
      · obtain ⟨s1, s2, s3, s4, s5, s6⟩ := hS
        split at ht
        · split at ht
          · cases ht
          · rename_i h7
            injection ht with ht; subst ht
            exact ⟨hT, s1, s2, s3, fun _ => by omega, s5, s6⟩
        · split at ht
          · cases ht
          · split at ht
            · cases ht
            · rename_i h5 h3 h4 h8
              injection ht with ht; subst ht
              have hw : WdFine (wd ⟨k, a, n, s⟩) := by
                rcases hf with ⟨h1, h2, h3'⟩ | ⟨h1, h2, h3'⟩ | ⟨h1, _⟩
                · simp only at h1 h2; subst h1 h2; exact .inr ⟨rfl, rfl, h3'⟩
                · simp only at h1 h2; subst h1 h2; exact .inl ⟨rfl, rfl, h3'⟩
                · simp only at h1 h5 h3 h4; omega
              refine ⟨hT, s1, ?_, ?_, s4, s5, s6⟩
              · simp; omega
              · intro w hw'
                rcases List.mem_append.1 hw' with q | q
                · exact s3 w q
                · rw [List.mem_singleton.1 q]; exact hw

/-- P9.1, P9.2, TreeRight's half -/
theorem run_right {l : List Tk} {r r' : Rd} (h : r.Ok) (hl : ∀ t ∈ l, Fine t) (hR : RightR r) (hr : run l r = .ok r') : RightR r' := by
  induction l generalizing r with
  | nil => injection hr with hr; subst hr; exact hR
  | cons t l ih =>
    simp only [run] at hr
    cases e : take r t with
    | error x => rw [e] at hr; cases hr
    | ok r1 => rw [e] at hr; exact ih (take_ok h e) (fun u hu => hl u (by simp [hu])) (take_right h (hl t (by simp)) hR e) hr

mutual
def deepN : Nd → Nat
  | .mk _ _ _ b ks => (if b then 1 else 0) + deepL ks
def deepL : List Nd → Nat
  | [] => 0
  | n :: l => max (deepN n) (deepL l)
end

mutual
theorem deep_right {d : Nat} (hd : d ≤ 6) : ∀ {n : Nd}, RightN d n → d + deepN n ≤ 6
  | .mk _ _ _ b ks, h => by
    obtain ⟨_, _, _, h4, h5, h6⟩ := h
    cases b with
    | false => rw [h4 rfl]; simp [deepN, deepL]; exact hd
    | true =>
      have := h5 rfl
      have := deepL_right (d := d + 1) (by omega) h6
      simp [deepN]; omega
theorem deepL_right {d : Nat} (hd : d ≤ 6) : ∀ {l : List Nd}, RightL d l → d + deepL l ≤ 6
  | [], _ => by simpa [deepL] using hd
  | n :: l, h => by
    have h1 := deep_right hd h.1
    have h2 := deepL_right hd h.2
    simp [deepL]; omega
end

mutual
def countN : Nd → Nat
  | .mk _ _ _ _ ks => 1 + countL ks
def countL : List Nd → Nat
  | [] => 0
  | n :: l => countN n + countL l
end

mutual
theorem count_flat {d : Nat} : ∀ {n : Nd}, RightN d n → countN n ≤ (flatN n).length
  | .mk _ _ ws b ks, h => by
    obtain ⟨_, _, _, h4, _, h6⟩ := h
    have := countL_flat h6
    cases b with
    | false => rw [h4 rfl]; simp [countN, countL, flatN]
    | true => simp [countN, flatN]; omega
theorem countL_flat {d : Nat} : ∀ {l : List Nd}, RightL d l → countL l ≤ (flatL l).length
  | [], _ => by simp [countL]
  | n :: l, h => by
    have h1 := count_flat h.1
    have h2 := countL_flat h.2
    simp [countL, flatL]; omega
end

end Go.Proofs.YtjebdoecigmkhaaDoor.Ym
