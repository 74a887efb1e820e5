/- Texts read as items: up to a token, behind one another, moved. -/
import Derived.Test.YtjebdoecigmkhaaDoorYlaw
namespace Go.Proofs.YtjebdoecigmkhaaDoor.Ym
set_option linter.unusedSimpArgs false
set_option linter.unusedVariables false
open Go.Proofs.YtjebdoecigmkhaaDoor.Zm

/-- a text up to one of its tokens holds those ahead of it -/
theorem cut_upto (m : Nat) : ∀ (l : List UInt8) (cnt p : Nat) (a1 : List Tk) (t : Tk) (a2 : List Tk), l.length ≤ m → cut l cnt p = .ok (a1 ++ t :: a2) →
    ∃ j, j < l.length ∧ t.a = p + j ∧ cut (l.take j) cnt p = .ok a1 := by
  induction m with
  | zero =>
    intro l cnt p a1 t a2 hl h
    rw [List.eq_nil_of_length_eq_zero (Nat.le_zero.1 hl), cut_nil] at h
    injection h with h; simp at h
  | succ m ih =>
    intro l cnt p a1 t a2 hl h
    cases l with
    | nil => rw [cut_nil] at h; injection h with h; simp at h
    | cons c r =>
      simp only [List.length_cons] at hl
      cases hs : Zm.step c r with
      | skip n =>
        rw [cut_skip _ _ hs] at h
        have hn := step_skip_le hs
        obtain ⟨j, hj, ht, hx⟩ := ih _ _ _ _ _ _ (by simp; omega) h
        simp at hj
        refine ⟨n + j, by simp; omega, by omega, ?_⟩
        rw [take_more j hn.1, cut_skipped hs _ (fun hb => ?_)]
        · exact hx
        · rcases skip_rest hs hb with e | ⟨z, e⟩
          · rw [e]; simp
          · rw [e]; cases j with
            | zero => exact .inl rfl
            | succ j => exact .inr ⟨z.take j, rfl⟩
      | wrong => rw [cut_wrong _ _ hs] at h; cases h
      | err e o => rw [cut_err _ _ hs] at h; split at h <;> cases h
      | tok k n s len =>
        rw [cut_tok _ _ hs] at h
        have hn := step_tok_le hs
        obtain ⟨g1, g2, g3⟩ := step_tok p hs
        split at h
        · cases h
        · rename_i hc
          cases hr : cut (r.drop (len - 1)) (cnt + 1) (p + len) with
          | error x => rw [hr] at h; cases h
          | ok b =>
            rw [hr] at h; injection h with h
            cases a1 with
            | nil =>
              injection h with h1 h2
              subst h1
              exact ⟨0, by simp, rfl, cut_nil _ _⟩
            | cons t0 a1 =>
              injection h with h1 h2
              subst h1
              rw [h2] at hr
              obtain ⟨j, hj, ht, hx⟩ := ih _ _ _ _ _ _ (by simp; omega) hr
              simp at hj
              have hlen : (text ⟨k, p, n, s⟩).length = len := by rw [g2, List.length_take]; simp; omega
              refine ⟨len + j, by simp; omega, by omega, ?_⟩
              rw [take_more j hn.1, ← g2, cut_text cnt p g1 (fun hk => ?_) hc, hlen, hx]
              · rfl
              · have := g3 hk
                cases hq : r.drop (len - 1) with
                | nil => simp [startsInner]
                | cons d q =>
                  rw [hq] at this
                  cases j with
                  | zero => rfl
                  | succ j => exact this

/-- TreeOpen -/
theorem parse_open {b : List UInt8} {l : List Nd} {t : List Tk} (hp : parse b = .ok l) (hc : cut b 0 0 = .ok t) :
    (t = [] → l = []) ∧ ∀ t1 u, t = t1 ++ [u] → u.a ≤ b.length ∧ parse (b.take u.a) = .error (5, u.a) ∧ l ≠ [] := by
  unfold parse at hp
  rw [hc] at hp
  simp only at hp
  cases hr : run t start with
  | error x => rw [hr] at hp; cases hp
  | ok r =>
    rw [hr] at hp
    simp only at hp
    split at hp
    · rename_i hs
      injection hp with hp
      refine ⟨fun h => ?_, fun t1 u h => ?_⟩
      · subst h
        injection hr with hr
        rw [← hp, ← hr]; rfl
      · subst h
        obtain ⟨r1, h1, h2, h3⟩ := run_open hr hs
        obtain ⟨j, hj, ha, hx⟩ := cut_upto _ _ _ _ _ _ _ (Nat.le_refl _) hc
        rw [Nat.zero_add] at ha
        rw [ha]
        refine ⟨by omega, ?_, hp ▸ h3⟩
        unfold parse
        rw [hx]
        simp only [h1, if_neg h2, List.length_take]
        rw [Nat.min_eq_left (by omega)]
    · cases hp

/-! ## Moved -/
def mv (d : Nat) (t : Tk) : Tk := { t with a := t.a + d }

theorem cut_move (d : Nat) (m : Nat) : ∀ (l : List UInt8) (cnt cnt' p : Nat), l.length ≤ m → cnt + l.length ≤ 8192 → cnt' + l.length ≤ 8192 →
    cut l cnt' (p + d) = match cut l cnt p with | .error x => .error (x.1, x.2 + d) | .ok a => .ok (a.map (mv d)) := by
  induction m with
  | zero =>
    intro l cnt cnt' p hl _ _
    rw [List.eq_nil_of_length_eq_zero (Nat.le_zero.1 hl), cut_nil, cut_nil]; rfl
  | succ m ih =>
    intro l cnt cnt' p hl h1 h2
    cases l with
    | nil => rw [cut_nil, cut_nil]; rfl
    | cons c r =>
      simp only [List.length_cons] at hl h1 h2
      cases hs : Zm.step c r with
      | skip n =>
        have hn := step_skip_le hs
        rw [cut_skip _ _ hs, cut_skip _ _ hs, show p + d + n = p + n + d by omega]
        exact ih _ _ _ _ (by simp; omega) (by simp; omega) (by simp; omega)
      | wrong => rw [cut_wrong _ _ hs, cut_wrong _ _ hs]
      | err e o =>
        rw [cut_err _ _ hs, cut_err _ _ hs, if_neg (by omega), if_neg (by omega)]
        simp only [show p + d + o = p + o + d by omega]
      | tok k n s len =>
        have hn := step_tok_le hs
        rw [cut_tok _ _ hs, cut_tok _ _ hs, if_neg (by omega), if_neg (by omega), show p + d + len = p + len + d by omega]
        rw [ih (r.drop (len - 1)) (cnt + 1) (cnt' + 1) (p + len) (by simp; omega) (by simp; omega) (by simp; omega)]
        cases cut (r.drop (len - 1)) (cnt + 1) (p + len) with
        | error x => rfl
        | ok a => rfl

def mvW (d : Nat) (w : Wd) : Wd := { w with a := w.a + d }
mutual
def mvN (d : Nat) : Nd → Nd
  | .mk nm a ws b ks => .mk nm (a + d) (ws.map (mvW d)) b (mvL d ks)
def mvL (d : Nat) : List Nd → List Nd
  | [] => []
  | n :: l => mvN d n :: mvL d l
end

theorem mvL_append (d : Nat) (a b : List Nd) : mvL d (a ++ b) = mvL d a ++ mvL d b := by
  induction a with
  | nil => simp [mvL]
  | cons n a ih => simp [mvL, ih]

def mvF (d : Nat) (f : Fr) : Fr := ⟨f.name, f.a + d, f.words.map (mvW d), f.block, mvL d f.kids⟩
def mvR (d : Nat) (r : Rd) : Rd := ⟨r.go, mvL d r.top, r.st.map (mvF d)⟩

theorem shut_move (d : Nat) (top : List Nd) (st : List Fr) : shut (mvL d top) (st.map (mvF d)) = mvR d (shut top st) := by
  match st with
  | [] => rfl
  | f :: [] => simp [shut, mvR, mvL_append, mvL, Fr.nd, mvF, mvN]
  | f :: g :: r => simp [shut, mvR, mvL_append, mvL, Fr.nd, mvF, mvN]

theorem mv_mk (d k a n : Nat) (s : List UInt8) : mv d ⟨k, a, n, s⟩ = ⟨k, a + d, n, s⟩ := rfl
theorem mvR_mk (d : Nat) (go : Bool) (top : List Nd) (st : List Fr) : mvR d ⟨go, top, st⟩ = ⟨go, mvL d top, st.map (mvF d)⟩ := rfl

theorem take_move (d : Nat) (r : Rd) (t : Tk) : take (mvR d r) (mv d t) = match take r t with | .error e => .error e | .ok r' => .ok (mvR d r') := by
  obtain ⟨go, top, st⟩ := r
  obtain ⟨k, a, n, s⟩ := t
  rw [mv_mk, mvR_mk]
  cases go with
  | false =>
    simp only [take]
    by_cases h1 : k = 1
    · rw [if_pos h1, if_pos h1]; simp [mvF, mvL, mvR]
    · rw [if_neg h1, if_neg h1]
      by_cases h4 : k = 4 ∧ st ≠ []
      · rw [if_pos h4, if_pos ⟨h4.1, by simpa using h4.2⟩, shut_move]
      · rw [if_neg h4, if_neg (by simpa using h4)]
  | true =>
    cases st with
    | nil => rfl
    | cons f st =>
      simp only [List.map_cons, take]
      by_cases h5 : k = 5
      · rw [if_pos h5, if_pos h5, ← List.map_cons, shut_move]
      · rw [if_neg h5, if_neg h5]
        by_cases h3 : k = 3
        · rw [if_pos h3, if_pos h3]
          simp only [List.length_map]
          by_cases h6 : 6 < st.length + 1
          · rw [if_pos h6, if_pos h6]
          · rw [if_neg h6, if_neg h6]; simp [mvF, mvR]
        · rw [if_neg h3, if_neg h3]
          by_cases h4 : k = 4
          · rw [if_pos h4, if_pos h4]
          · rw [if_neg h4, if_neg h4]
            simp only [mvF, List.length_map]
            by_cases h8 : f.words.length = 8
            · rw [if_pos h8, if_pos h8]
            · rw [if_neg h8, if_neg h8]; simp [mvF, wd, mvW, mvR]

theorem run_move (d : Nat) (l : List Tk) (r : Rd) : run (l.map (mv d)) (mvR d r) = match run l r with | .error x => .error (x.1, x.2 + d) | .ok r' => .ok (mvR d r') := by
  induction l generalizing r with
  | nil => rfl
  | cons t l ih =>
    simp only [List.map_cons, run]
    rw [take_move]
    cases take r t with
    | error e => rfl
    | ok r1 => exact ih r1

/-- TreeTwo -/
theorem parse_two {s t : List UInt8} {a : List Nd} (hp : parse s = .ok a) (hs : s.length ≤ 200) (ht : t.length ≤ 200) :
    parse (s ++ 10 :: t) = match parse t with | .error x => .error (x.1, s.length + 1 + x.2) | .ok b => .ok (a ++ mvL (s.length + 1) b) := by
  unfold parse at hp
  cases hc : cut s 0 0 with
  | error x => rw [hc] at hp; cases hp
  | ok l =>
    rw [hc] at hp
    simp only at hp
    cases hr : run l start with
    | error x => rw [hr] at hp; cases hp
    | ok r =>
      rw [hr] at hp
      simp only at hp
      split at hp
      · rename_i hst
        injection hp with hp
        have hl := (cut_tokens _ _ _ _ _ (Nat.le_refl _) hc).2.1
        unfold parse
        rw [cut_line_ok t hc, Nat.zero_add, Nat.zero_add, show s.length + 1 = 0 + (s.length + 1) by omega, cut_move (s.length + 1) _ t 0 l.length 0 (Nat.le_refl _) (by omega) (by omega), Nat.zero_add]
        cases cut t 0 0 with
        | error x => simp [Except.map]; omega
        | ok m =>
          simp only [Except.map]
          rw [run_two hr hst]
          have h0 : mvR (s.length + 1) start = start := rfl
          rw [← h0, run_move, h0]
          cases run m start with
          | error x => simp; omega
          | ok r2 =>
            simp only [mvR, List.map_eq_nil_iff]
            by_cases h2 : r2.st = []
            · rw [if_pos h2, if_pos h2, hp]
            · rw [if_neg h2, if_neg h2]
              simp; omega
      · cases hp

end Go.Proofs.YtjebdoecigmkhaaDoor.Ym
