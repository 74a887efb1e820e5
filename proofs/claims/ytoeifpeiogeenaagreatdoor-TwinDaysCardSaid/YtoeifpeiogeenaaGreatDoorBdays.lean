/- The days with which a unit's days are compared, one by one; plain mathematics, nothing of the program. -/
import Derived.Test.YtoeifpeiogeenaaGreatDoorJB
namespace Go.Proofs.YtoeifpeiogeenaaGreatDoor.Am
set_option linter.unusedSimpArgs false
set_option linter.unusedVariables false
open Go.Proofs.YtoeifpeiogeenaaGreatDoor.Cm Go.Proofs.YtoeifpeiogeenaaGreatDoor.Em Go.Proofs.YtoeifpeiogeenaaGreatDoor.Rk

/-- of the first j days of weeks from a on, those that have one with which they are compared -/
def cq (c : CalZ) (y t a : Int) : Nat → Nat
  | 0 => 0
  | j + 1 => cq c y t a j + (if polF c y t (a + ((j / 7 : Nat) : Int)) = none then 0 else 1)
section
variable {c : CalZ} {L y i t k a b er x : Int} {l : List U3} {r : List (Int × Int)} {n : Nat}
theorem cq_in (m i : Nat) (h : cq c y t a (7 * m) = 7 * (vsW c y t a m).length) (hi : i ≤ 7) : cq c y t a (7 * m + i) = 7 * (vsW c y t a m).length + (if polF c y t (a + m) = none then 0 else i) := by
  induction i with
  | zero => rw [Nat.add_zero, h]; split <;> rfl
  | succ i ih =>
    have ih := ih (by omega)
    have e : cq c y t a (7 * m + (i + 1)) = cq c y t a (7 * m + i) + (if polF c y t (a + (((7 * m + i) / 7 : Nat) : Int)) = none then 0 else 1) := rfl
    rw [e, ih, show (7 * m + i) / 7 = m by omega]
    split <;> omega
theorem cq_week (m : Nat) : cq c y t a (7 * m) = 7 * (vsW c y t a m).length := by
  induction m with
  | zero => rfl
  | succ m ih =>
    have h := cq_in m 7 ih (Nat.le_refl _)
    rw [show 7 * (m + 1) = 7 * m + 7 by omega, h]
    simp only [vsW]
    cases polF c y t (a + m) with
    | none => simp
    | some v => simp; omega
theorem cq_at (j : Nat) : cq c y t a j = 7 * (vsW c y t a (j / 7)).length + (if polF c y t (a + ((j / 7 : Nat) : Int)) = none then 0 else j % 7) := by
  have h := cq_in (j / 7) (j % 7) (cq_week (c := c) (y := y) (t := t) (a := a) (j / 7)) (by omega)
  rw [show 7 * (j / 7) + j % 7 = j by omega] at h
  exact h
theorem cq_le (j : Nat) : cq c y t a j ≤ j := by
  induction j with
  | zero => exact Nat.le_refl _
  | succ j ih =>
    have e : cq c y t a (j + 1) = cq c y t a j + (if polF c y t (a + ((j / 7 : Nat) : Int)) = none then 0 else 1) := rfl
    rw [e]
    split <;> omega
theorem cq_mono (j m : Nat) (h : j ≤ m) : cq c y t a j ≤ cq c y t a m := by
  induction m with
  | zero => obtain rfl : j = 0 := by omega
            exact Nat.le_refl _
  | succ m ih =>
    have e : cq c y t a (m + 1) = cq c y t a m + (if polF c y t (a + ((m / 7 : Nat) : Int)) = none then 0 else 1) := rfl
    by_cases q : j = m + 1
    · subst q; exact Nat.le_refl _
    · have := ih (by omega); omega
theorem pola_polf (P : PolA c y t x k er) : (er = 0 ∧ polF c y t x = some k) ∨ (er = 12 ∧ polF c y t x = none) := by
  unfold polF
  rcases P with ⟨p, e, h⟩ | ⟨p, e, h⟩ | ⟨p, ⟨q, z, _, h⟩ | ⟨q, z, e, h⟩ | ⟨q, e, h⟩⟩
  · rw [if_pos p]; exact .inl ⟨h, by rw [e]⟩
  · rw [if_neg (by omega), if_pos p]; exact .inl ⟨h, by rw [e]⟩
  · rw [if_neg (by omega), if_neg (by omega), if_pos q, if_pos z]; exact .inr ⟨h, rfl⟩
  · rw [if_neg (by omega), if_neg (by omega), if_pos q, if_neg z]; exact .inl ⟨h, by rw [e]⟩
  · rw [if_neg (by omega), if_neg (by omega), if_neg q]; exact .inl ⟨h, by rw [e]⟩
/-- a unit's days lie in whole weeks -/
theorem wk_days (u : UnitOk c L y i) (k6 : c.k ≠ 6) (W : WkOf c L y i a b) (hn : (n : Int) = b - a + 1) : uend c y L (i - 1) = yend c (y - 1) + 7 * (a - 1) ∧ uend c y L i = uend c y L (i - 1) + 7 * n ∧ 1 ≤ a ∧ 1 ≤ n ∧ n ≤ 53 ∧ b ≤ nweeks c y ∧ yend c y = yend c (y - 1) + 7 * nweeks c y ∧ 0 ≤ uend c y L (i - 1) ∧ uend c y L i ≤ 3068036 := by
  have r := wkof_is u W
  have st := served_told u.1 u.2.2.1
  have uc : ucount c y 5 = nwk c y := by simp [ucount]
  have nw := nwk_weeks u.1.1 k6 (y := y) (by omega) (by omega)
  have nn := nweeks_01 u.1.1 k6 (y := y) (by omega) (by omega)
  have wa := week_ends u.1 k6 u.2.2.1 (i := a) (by omega) (by omega)
  have wb := week_ends u.1 k6 u.2.2.1 (i := b) (by omega) (by omega)
  have b0 := uend_bd (y := y) (L := L) (i := i - 1) u.1.1 (by omega) (by omega) u.2.1 (by have := u.2.2.2.1; omega) (by have := u.2.2.2.2; omega)
  have b1 := uend_bd (y := y) (L := L) (i := i) u.1.1 (by omega) (by omega) u.2.1 (by have := u.2.2.2.1; omega) (by have := u.2.2.2.2; omega)
  omega
theorem day_of (u : UnitOk c L y i) (k6 : c.k ≠ 6) (s : Served c (y + k)) (W : WkOf c L y i a b) (hn : (n : Int) = b - a + 1) (j : Nat) (hj : j < 7 * n) : ∃ v g, CDayA c (uend c y L (i - 1) + 1 + j) k v g ∧
    ((polF c y (y + k) (a + ((j / 7 : Nat) : Int)) = none ∧ g = 12) ∨ ∃ x, polF c y (y + k) (a + ((j / 7 : Nat) : Int)) = some x ∧ g = 0 ∧ v = yend c (y + k - 1) + 7 * (x - 1) + 1 + ((j % 7 : Nat) : Int)) := by
  have w := wk_days u k6 W hn
  have st := served_told u.1 u.2.2.1
  have S := served_of (n := uend c y L (i - 1) + 1 + j) u.1 u.2.2.1 (by omega) (by omega)
  rcases cday_for k S k6 with ⟨no, _⟩ | ⟨_, i', w', v, er, h1, h2, h3, h4, P, CD, h5⟩
  · exact absurd s no
  · have ei : i' = a + ((j / 7 : Nat) : Int) := by omega
    subst ei
    refine ⟨v, er, CD, ?_⟩
    rcases pola_polf P with ⟨e, p⟩ | ⟨e, p⟩
    · refine .inr ⟨w', p, e, ?_⟩
      rcases h5 with ⟨_, h⟩ | ⟨h, _⟩
      · rw [h]; omega
      · omega
    · exact .inl ⟨p, e⟩
theorem day_far (u : UnitOk c L y i) (k6 : c.k ≠ 6) (s : ¬ Served c (y + k)) (W : WkOf c L y i a b) (hn : (n : Int) = b - a + 1) : CDayA c (uend c y L (i - 1) + 1) k 0 11 := by
  have w := wk_days u k6 W hn
  have S := served_of (n := uend c y L (i - 1) + 1) u.1 u.2.2.1 (by omega) (by omega)
  rcases cday_for k S k6 with ⟨_, h⟩ | ⟨h, _⟩
  · exact h
  · exact absurd h s
/-- where a week's place is not served some day has one with which it is compared -/
theorem none_some (h : cmpW c y t a n = none) : 0 < (vsW c y t a n).length := by
  induction n with
  | zero => cases h
  | succ n ih =>
    simp only [cmpW] at h
    simp only [vsW]
    cases hq : cmpW c y t a n with
    | none =>
      have := ih hq
      cases polF c y t (a + n) with
      | none => exact this
      | some v => simp
    | some l' =>
      rw [hq] at h
      cases hp : polF c y t (a + n) with
      | none => rw [hp] at h; cases h
      | some v => simp
/-- the q-th of the days that a unit is compared with -/
def dval (r : List (Int × Int)) (q : Nat) : Int := match r with
  | [(f, _)] => f + q
  | [(f, t), (g, _)] => if (q : Int) < t - f + 1 then f + q else g + (q - (t - f + 1))
  | _ => 0
/-- q days have come: the span that is told, and the next day -/
def TwD (r : List (Int × Int)) (q at' : Nat) (nx : Int) : Prop := match r with
  | [(f, t)] => at' = 0 ∧ nx = f + q ∧ (q : Int) ≤ t - f + 1
  | [(f, t), (g, v)] => (at' = 0 ∧ nx = f + q ∧ (q : Int) ≤ t - f + 1) ∨ (at' = 1 ∧ nx = g + (q - (t - f + 1)) ∧ t - f + 1 < q ∧ (q : Int) ≤ (t - f + 1) + (v - g + 1))
  | _ => False
theorem twd_start (X : TwList c l r) : ∃ f t, r[0]? = some (f, t) ∧ TwD r 0 0 f ∧ 0 ≤ f ∧ f ≤ 3068036 := by
  rcases X.two with ⟨f, t, rfl, f0, ft, t1⟩ | ⟨f, t, g, v, rfl, f0, ft, tg, gv, v1⟩
  · exact ⟨f, t, rfl, ⟨rfl, by simp, by omega⟩, f0, by omega⟩
  · exact ⟨f, t, rfl, .inl ⟨rfl, by simp, by omega⟩, f0, by omega⟩
theorem twd_step (X : TwList c l r) {q at' : Nat} {nx : Int} (D : TwD r q at' nx) (hq : (q : Int) < lens r) : at' < r.length ∧ 0 ≤ nx ∧ nx ≤ 3068037 ∧ ∃ f t, r[at']? = some (f, t) ∧
    ((¬ t < nx ∧ dval r q = nx ∧ TwD r (q + 1) at' (nx + 1)) ∨ (t < nx ∧ at' = 0 ∧ r.length = 2 ∧ ∃ g v, r[1]? = some (g, v) ∧ dval r q = g ∧ ¬ v < g ∧ 0 ≤ g ∧ g ≤ 3068036 ∧ TwD r (q + 1) 1 (g + 1))) := by
  rcases X.two with ⟨f, t, rfl, f0, ft, t1⟩ | ⟨f, t, g, v, rfl, f0, ft, tg, gv, v1⟩
  · obtain ⟨rfl, e, h⟩ := D
    simp only [lens] at hq
    refine ⟨by simp, by omega, by omega, f, t, rfl, .inl ⟨by omega, ?_, rfl, by omega, by omega⟩⟩
    simp only [dval]; omega
  · simp only [lens] at hq
    rcases D with ⟨rfl, e, h⟩ | ⟨rfl, e, h, h2⟩
    · by_cases w : (q : Int) < t - f + 1
      · refine ⟨by simp, by omega, by omega, f, t, rfl, .inl ⟨by omega, ?_, .inl ⟨rfl, by omega, by omega⟩⟩⟩
        simp only [dval]; rw [if_pos w]; omega
      · refine ⟨by simp, by omega, by omega, f, t, rfl, .inr ⟨by omega, rfl, rfl, g, v, rfl, ?_, by omega, by omega, by omega, .inr ⟨rfl, by omega, by omega, by omega⟩⟩⟩
        simp only [dval]; rw [if_neg w]; omega
    · refine ⟨by simp, by omega, by omega, g, v, rfl, .inl ⟨by omega, ?_, .inr ⟨rfl, by omega, by omega, by omega⟩⟩⟩
      simp only [dval]; rw [if_neg (by omega)]; omega
theorem twd_end (X : TwList c l r) {q at' : Nat} {nx : Int} (D : TwD r q at' nx) (hq : (q : Int) = lens r) : at' + 1 = r.length ∧ ∃ f t, r[at']? = some (f, t) ∧ nx = t + 1 ∧ 0 ≤ t ∧ t ≤ 3068036 := by
  rcases X.two with ⟨f, t, rfl, f0, ft, t1⟩ | ⟨f, t, g, v, rfl, f0, ft, tg, gv, v1⟩
  · obtain ⟨rfl, e, h⟩ := D
    simp only [lens] at hq
    exact ⟨rfl, f, t, rfl, by omega, by omega, by omega⟩
  · simp only [lens] at hq
    rcases D with ⟨rfl, e, h⟩ | ⟨rfl, e, h, h2⟩
    · omega
    · exact ⟨rfl, g, v, rfl, by omega, by omega, by omega⟩
theorem twd_bd (X : TwList c l r) {q at' : Nat} {nx : Int} (D : TwD r q at' nx) : at' < r.length ∧ 0 ≤ nx ∧ nx ≤ 3068037 := by
  rcases X.two with ⟨f, t, rfl, f0, ft, t1⟩ | ⟨f, t, g, v, rfl, f0, ft, tg, gv, v1⟩
  · obtain ⟨rfl, e, h⟩ := D
    exact ⟨by simp, by omega, by omega⟩
  · rcases D with ⟨rfl, e, h⟩ | ⟨rfl, e, h, h2⟩
    · exact ⟨by simp, by omega, by omega⟩
    · exact ⟨by simp, by omega, by omega⟩
/-- the days of numbers of weeks -/
theorem vs_dval {vs : List Int} {E : Int} (C : Closed vs) (ne : vs ≠ []) : (∀ (m d : Nat) (v : Int), vs[m]? = some v → d < 7 → E + 7 * (v - 1) + 1 + d = dval (runs (vs.map (wspan E))) (7 * m + d)) ∧ (7 * vs.length : Int) = lens (runs (vs.map (wspan E))) := by
  rcases C with ⟨v, n, e⟩ | ⟨v, n, m, n1, m1, e⟩
  · subst e
    have n0 : n ≠ 0 := fun z => ne (by rw [z]; rfl)
    obtain ⟨n, rfl⟩ : ∃ p, n = p + 1 := ⟨n - 1, by omega⟩
    rw [runs_con, conL_len]
    refine ⟨fun m d x hx hd => ?_, ?_⟩
    · have := conL_lt hx
      simp only [dval]; omega
    · simp only [lens]; omega
  · subst e
    obtain ⟨n, rfl⟩ : ∃ p, n = p + 1 := ⟨n - 1, by omega⟩
    obtain ⟨m, rfl⟩ : ∃ p, m = p + 1 := ⟨m - 1, by omega⟩
    rw [runs_two, List.length_append, conL_len, conL_len]
    refine ⟨fun p d x hx hd => ?_, ?_⟩
    · simp only [dval]
      by_cases w : p < n + 1
      · rw [List.getElem?_append_left (by rw [conL_len]; exact w)] at hx
        have := conL_lt hx
        rw [if_pos (by omega)]; omega
      · rw [List.getElem?_append_right (by rw [conL_len]; omega), conL_len] at hx
        have := conL_lt hx
        rw [if_neg (by omega)]; omega
    · simp only [lens]; omega
theorem vs_pre (n m : Nat) : ∃ q, vsW c y t a (n + m) = vsW c y t a n ++ q := ⟨_, vs_add n m⟩
/-- the day with which day j is compared is the next one of the spans -/
theorem tww_days (W : TwW c L y i t l a b n) (k6 : c.k ≠ 6) (ne : l ≠ []) : (∀ (j : Nat) (x : Int), j < 7 * n → polF c y t (a + ((j / 7 : Nat) : Int)) = some x → yend c (t - 1) + 7 * (x - 1) + 1 + ((j % 7 : Nat) : Int) = dval (runs (l.map (spanOf c))) (cq c y t a j) ∧ (cq c y t a j : Int) < lens (runs (l.map (spanOf c)))) ∧
    (cq c y t a (7 * n) : Int) = lens (runs (l.map (spanOf c))) := by
  obtain ⟨s1, _, s3⟩ := W.spans k6
  have vne : vsW c y t a n ≠ [] := fun e => by
    rw [e] at s3
    exact ne (List.length_eq_zero_iff.1 s3)
  obtain ⟨h1, h2⟩ := vs_dval (E := yend c (t - 1)) (W.closed k6).1 vne
  rw [s1]
  have tot : (cq c y t a (7 * n) : Int) = lens (runs ((vsW c y t a n).map (wspan (yend c (t - 1))))) := by rw [← h2, cq_week]; omega
  refine ⟨fun j x hj hx => ?_, tot⟩
  have e := cq_at (c := c) (y := y) (t := t) (a := a) j
  rw [if_neg (by rw [hx]; exact fun h => by cases h)] at e
  have lt : cq c y t a (j + 1) ≤ cq c y t a (7 * n) := cq_mono _ _ (by omega)
  have e2 : cq c y t a (j + 1) = cq c y t a j + (if polF c y t (a + ((j / 7 : Nat) : Int)) = none then 0 else 1) := rfl
  rw [if_neg (by rw [hx]; exact fun h => by cases h)] at e2
  obtain ⟨q, hq⟩ := vs_pre (c := c) (y := y) (t := t) (a := a) (j / 7 + 1) (n - (j / 7 + 1))
  rw [show j / 7 + 1 + (n - (j / 7 + 1)) = n by omega] at hq
  have v1 : vsW c y t a (j / 7 + 1) = vsW c y t a (j / 7) ++ [x] := by simp only [vsW]; rw [hx]
  have hv : (vsW c y t a n)[(vsW c y t a (j / 7)).length]? = some x := by rw [hq, v1]; simp
  refine ⟨?_, by omega⟩
  rw [e]
  exact h1 _ (j % 7) x hv (by omega)
end

end Go.Proofs.YtoeifpeiogeenaaGreatDoor.Am
