/- Texts that are joined: Bmath, Brun, Btwo, Blaw, Blaw2. -/
import Derived.Test.YtkfogmaogfgcgaaGreatDoorQaJP
import Derived.Test.YtkfogmaogfgcgaaGreatDoorQaJK
namespace Go.Proofs.YtkfogmaogfgcgaaGreatDoor.Am
set_option linter.unusedSimpArgs false
set_option linter.unusedVariables false
open Cm Em Rk

def polF (c : CalZ) (y t x : Int) : Option Int :=
  if c.po = 1 then some x else if c.po = 2 then some (x + nweeks c t - nweeks c y)
  else if x = addw c y then (if addw c t = 0 then none else some (addw c t)) else some (dropA x (addw c y) (addw c t))
def cntW (c : CalZ) (t n : Int) : Option U3 :=
  if n < 1 then (if c.fi < t then some (5, t - 1, nweeks c (t - 1)) else none)
  else if nweeks c t < n then (if t < c.la then some (5, t + 1, 1) else none)
  else some (5, t, n)
def cmpW (c : CalZ) (y t a : Int) : Nat → Option (List U3)
  | 0 => some []
  | n + 1 => match cmpW c y t a n with
    | none => none
    | some l => match polF c y t (a + n) with
      | none => some l
      | some v => match cntW c t v with
        | none => none
        | some u => some (l ++ [u])
def wkL (t a : Int) : Nat → List U3
  | 0 => []
  | n + 1 => wkL t a n ++ [(5, t, a + n)]
def vsW (c : CalZ) (y t a : Int) : Nat → List Int
  | 0 => []
  | n + 1 => match polF c y t (a + n) with
    | none => vsW c y t a n
    | some v => vsW c y t a n ++ [v]
def conL (v : Int) : Nat → List Int
  | 0 => []
  | n + 1 => conL v n ++ [v + n]
def WkOf (c : CalZ) (L y i a b : Int) : Prop := InU c y 5 (uend c y L (i - 1) + 1) a ∧ InU c y 5 (uend c y L i) b
def spanOf (c : CalZ) (u : U3) : Int × Int := (uend c u.2.1 5 (u.2.2 - 1) + 1, uend c u.2.1 5 u.2.2)

section
variable {c : CalZ} {L y i t k x a b v er : Int} {n m : Nat}
theorem polF_is (ok : CalOk c) (k6 : c.k ≠ 6) : (∃ v, polF c y t x = some v ∧ PolA c y t x v 0) ∨ (polF c y t x = none ∧ PolA c y t x 0 12) := by
  have p := pol_123 ok k6
  unfold polF
  by_cases p1 : c.po = 1
  · rw [if_pos p1]; exact .inl ⟨_, rfl, .inl ⟨p1, rfl, rfl⟩⟩
  rw [if_neg p1]
  by_cases p2 : c.po = 2
  · rw [if_pos p2]; exact .inl ⟨_, rfl, .inr (.inl ⟨p2, rfl, rfl⟩)⟩
  rw [if_neg p2]
  have p3 : c.po = 3 := by omega
  by_cases q : x = addw c y
  · rw [if_pos q]
    by_cases z : addw c t = 0
    · rw [if_pos z]; exact .inr ⟨rfl, .inr (.inr ⟨p3, .inl ⟨q, z, rfl, rfl⟩⟩)⟩
    · rw [if_neg z]; exact .inl ⟨_, rfl, .inr (.inr ⟨p3, .inr (.inl ⟨q, z, rfl, rfl⟩)⟩)⟩
  · rw [if_neg q]; exact .inl ⟨_, rfl, .inr (.inr ⟨p3, .inr (.inr ⟨q, rfl, rfl⟩)⟩)⟩
theorem polF_bd (ok : CalOk c) (k6 : c.k ≠ 6) (y0 : 1601 ≤ y) (y1 : y ≤ 9997) (t0 : 1601 ≤ t) (t1 : t ≤ 9997) (x0 : 1 ≤ x) (x1 : x ≤ nweeks c y) (h : polF c y t x = some v) : 0 ≤ v ∧ v ≤ nweeks c t + 1 := by
  rcases polF_is (y := y) (t := t) (x := x) ok k6 with ⟨w, e, P⟩ | ⟨e, _⟩
  · rw [h] at e
    cases e
    have n1 := (nweeks_01 ok.1 k6 y0 (by omega)).1
    have n2 := (nweeks_01 ok.1 k6 t0 (by omega)).1
    rcases pol_bd ok k6 y0 y1 t0 t1 x0 x1 P with ⟨_, e⟩ | ⟨_, e⟩ | ⟨_, e, e2, _⟩ <;> omega
  · rw [h] at e; cases e
structure WkAt (c : CalZ) (t v : Int) (u : U3) : Prop where
  l : u.1 = 5
  ok : UnitOk c 5 u.2.1 u.2.2
  from_ : uend c u.2.1 5 (u.2.2 - 1) = yend c (t - 1) + 7 * (v - 1)
  to_ : uend c u.2.1 5 u.2.2 = yend c (t - 1) + 7 * v
theorem week_ends (ok : CalOk c) (k6 : c.k ≠ 6) (s : Served c y) (i0 : 1 ≤ i) (i1 : i ≤ nweeks c y) : UnitOk c 5 y i ∧ uend c y 5 (i - 1) = yend c (y - 1) + 7 * (i - 1) ∧ uend c y 5 i = yend c (y - 1) + 7 * i := by
  have st := served_told ok s
  have nn := (nweeks_01 ok.1 k6 (y := y) (by omega) (by omega)).2
  have w := week_at (c := c) (y := y) (n := yend c (y - 1) + 7 * i) (i := i) ok k6 s (by omega) (by omega) (by omega) (by omega)
  exact ⟨⟨ok, ⟨by omega, by omega⟩, s, i0, by rw [w.2.2.2.2.2]; exact i1⟩, w.2.1, w.2.2.1⟩
theorem cntW_at {u : U3} (ok : CalOk c) (k6 : c.k ≠ 6) (s : Served c t) (v0 : 0 ≤ v) (v1 : v ≤ nweeks c t + 1) (h : cntW c t v = some u) : WkAt c t v u := by
  have st := served_told ok s
  have nt := (nweeks_01 ok.1 k6 (y := t) (by omega) (by omega)).2
  unfold cntW at h
  by_cases q : v < 1
  · rw [if_pos q] at h
    by_cases f : c.fi < t
    · rw [if_pos f] at h
      cases h
      have s2 : Served c (t - 1) := ⟨by omega, by have := s.2; omega⟩
      have n2 := (nweeks_01 ok.1 k6 (y := t - 1) (by omega) (by omega))
      have w := week_ends ok k6 s2 (i := nweeks c (t - 1)) (by omega) (Int.le_refl _)
      exact ⟨rfl, w.1, by rw [w.2.1]; omega, by rw [w.2.2]; omega⟩
    · rw [if_neg f] at h; cases h
  · rw [if_neg q] at h
    by_cases g : nweeks c t < v
    · rw [if_pos g] at h
      by_cases f : t < c.la
      · rw [if_pos f] at h
        cases h
        have s2 : Served c (t + 1) := ⟨by have := s.1; omega, by omega⟩
        have st2 := served_told ok s2
        have n2 := (nweeks_01 ok.1 k6 (y := t + 1) (by omega) (by omega))
        have w := week_ends ok k6 s2 (i := 1) (by omega) (by omega)
        rw [show t + 1 - 1 = t by omega] at w
        exact ⟨rfl, w.1, by rw [w.2.1]; omega, by rw [w.2.2]; omega⟩
      · rw [if_neg f] at h; cases h
    · rw [if_neg g] at h
      cases h
      have w := week_ends ok k6 s (i := v) (by omega) (by omega)
      exact ⟨rfl, w.1, w.2.1, w.2.2⟩
theorem wkof_ex (h : UnitOk c L y i) : ∃ a b, WkOf c L y i a b ∧ uend c y 5 (a - 1) = uend c y L (i - 1) ∧ uend c y 5 b = uend c y L i ∧ 1 ≤ a ∧ a ≤ b ∧ b ≤ ucount c y 5 := by
  obtain ⟨ok, l, s, i0, i1⟩ := h
  have st := served_told ok s
  obtain ⟨a, ha, ea⟩ := first_in (M := 5) (i := i) ok.1 (y := y) (by omega) (by omega) l.1 (by omega) l.2 i0 i1
  obtain ⟨b, hb, eb⟩ := last_in (M := 5) (i := i) ok.1 (y := y) (by omega) (by omega) l.1 (by omega) l.2 i0 i1
  refine ⟨a, b, ⟨ha, hb⟩, ea, eb, ha.1, ?_, hb.2.1⟩
  have d := uend_step (y := y) (i := i - 1) ok.1 (by omega) (by omega) l (by omega) (by omega)
  rw [show i - 1 + 1 = i by omega] at d
  by_cases q : a ≤ b
  · exact q
  · have := uend_mono (y := y) (L := 5) ok.1 (by omega) (by omega) ⟨by omega, by omega⟩ (a := b) (b := a - 1) (by have := hb.1; omega) (by omega) (by have := ha.2.1; omega)
    omega
theorem wkof_is (h : UnitOk c L y i) (W : WkOf c L y i a b) : uend c y 5 (a - 1) = uend c y L (i - 1) ∧ uend c y 5 b = uend c y L i ∧ 1 ≤ a ∧ a ≤ b ∧ b ≤ ucount c y 5 := by
  obtain ⟨a', b', W', r⟩ := wkof_ex h
  have st := served_told h.1 h.2.2.1
  have l5 : LevOk 5 := ⟨by omega, by omega⟩
  obtain rfl := inu_uniq h.1.1 (by omega) (by omega) l5 W.1 W'.1
  obtain rfl := inu_uniq h.1.1 (by omega) (by omega) l5 W.2 W'.2
  exact r
theorem conL_len (v : Int) (n : Nat) : (conL v n).length = n := by
  induction n with
  | zero => rfl
  | succ n ih => simp [conL, ih]
theorem conL_add (v : Int) (n m : Nat) : conL v (n + m) = conL v n ++ conL (v + n) m := by
  induction m with
  | zero => simp [conL]
  | succ m ih =>
    rw [show n + (m + 1) = n + m + 1 by omega]
    simp only [conL, ih, List.append_assoc]
    rw [show v + ((n + m : Nat) : Int) = v + n + m by omega]
theorem conL_at (v : Int) (n j : Nat) (h : j < n) : (conL v n)[j]? = some (v + j) := by
  induction n with
  | zero => omega
  | succ n ih =>
    by_cases e : j = n
    · subst e; simp [conL, List.getElem?_append_right, conL_len]
    · rw [conL, List.getElem?_append_left (by rw [conL_len]; omega)]
      exact ih (by omega)
theorem wkL_len (t a : Int) (n : Nat) : (wkL t a n).length = n := by
  induction n with
  | zero => rfl
  | succ n ih => simp [wkL, ih]
theorem wkL_at (t a : Int) (n j : Nat) (h : j < n) : (wkL t a n)[j]? = some (5, t, a + j) := by
  induction n with
  | zero => omega
  | succ n ih =>
    by_cases e : j = n
    · subst e; simp [wkL, List.getElem?_append_right, wkL_len]
    · rw [wkL, List.getElem?_append_left (by rw [wkL_len]; omega)]
      exact ih (by omega)
theorem vs_con {d : Int} (f : ∀ j : Nat, j < n → polF c y t (a + j) = some (a + j + d)) : vsW c y t a n = conL (a + d) n := by
  induction n with
  | zero => rfl
  | succ n ih =>
    have e := f n (by omega)
    have ih := ih (fun j hj => f j (by omega))
    simp only [vsW, e, ih, conL]
    rw [show a + (n : Int) + d = a + d + n by omega]
theorem vs_add (n m : Nat) : vsW c y t a (n + m) = vsW c y t a n ++ vsW c y t (a + n) m := by
  induction m with
  | zero => simp [vsW]
  | succ m ih =>
    rw [show n + (m + 1) = n + m + 1 by omega]
    simp only [vsW, ih]
    rw [show a + ((n + m : Nat) : Int) = a + n + m by omega]
    cases polF c y t (a + n + m) <;> simp
def Closed (l : List Int) : Prop := (∃ v n, l = conL v n) ∨ ∃ v n m, 1 ≤ n ∧ 1 ≤ m ∧ l = conL v n ++ conL (v + n + 1) m
theorem polF_drop (p3 : c.po = 3) (h : x ≠ addw c y) : polF c y t x = some (dropA x (addw c y) (addw c t)) := by
  unfold polF
  rw [if_neg (by omega), if_neg (by omega), if_neg h]
theorem vs_closed (ok : CalOk c) (k6 : c.k ≠ 6) (y0 : 1601 ≤ y) (y1 : y ≤ 9997) (t0 : 1601 ≤ t) (t1 : t ≤ 9997) (a0 : 1 ≤ a) (n : Nat) :
    Closed (vsW c y t a n) ∧ ((vsW c y t a n).length = n ∨ ((vsW c y t a n).length + 1 = n ∧ c.po = 3 ∧ addw c y ≠ 0 ∧ addw c t = 0 ∧ a ≤ addw c y ∧ addw c y ≤ a + n - 1)) ∧ (c.po = 3 → addw c y ≠ 0 → addw c t = 0 → a ≤ addw c y → addw c y ≤ a + n - 1 → (vsW c y t a n).length + 1 = n) := by
  have ay := addw_bd ok k6 y0 y1
  have at' := addw_bd ok k6 t0 t1
  have one : ∀ d, (∀ j : Nat, j < n → polF c y t (a + j) = some (a + j + d)) → (c.po = 3 → addw c y ≠ 0 → addw c t = 0 → a ≤ addw c y → addw c y ≤ a + n - 1 → False) → Closed (vsW c y t a n) ∧ ((vsW c y t a n).length = n ∨ ((vsW c y t a n).length + 1 = n ∧ c.po = 3 ∧ addw c y ≠ 0 ∧ addw c t = 0 ∧ a ≤ addw c y ∧ addw c y ≤ a + n - 1)) ∧ (c.po = 3 → addw c y ≠ 0 → addw c t = 0 → a ≤ addw c y → addw c y ≤ a + n - 1 → (vsW c y t a n).length + 1 = n) := fun d f g => by
    rw [vs_con f]
    exact ⟨.inl ⟨_, _, rfl⟩, .inl (conL_len ..), fun q1 q2 q3 q4 q5 => (g q1 q2 q3 q4 q5).elim⟩
  rcases pol_123 ok k6 with p | p | p
  · exact one 0 (fun j hj => by unfold polF; rw [if_pos p]; simp) (fun q => by omega)
  · refine one (nweeks c t - nweeks c y) (fun j hj => ?_) (fun q => by omega)
    unfold polF; rw [if_neg (by omega), if_pos p]
    congr 1; omega
  · by_cases E : addw c y = addw c t
    · refine one 0 (fun j hj => ?_) (fun _ q1 q2 _ _ => by omega)
      by_cases q : a + j = addw c y
      · unfold polF
        rw [if_neg (by omega), if_neg (by omega), if_pos q, if_neg (by omega)]
        congr 1; omega
      · rw [polF_drop p q]
        have := dropa_is (addw c y) (addw c t) (a + j)
        congr 1; omega
    · have eq : nweeks c y = 53 → nweeks c t = 53 → addw c y = addw c t := fun h1 h2 => addw_eq ok k6 y0 y1 t0 t1 h1 h2
      rcases ay with ⟨_, ay⟩ | ⟨_, ay0, ay1⟩
      · -- none was added in y, one in t
        have B1 : 1 ≤ addw c t := by omega
        have f1 : ∀ x : Int, 1 ≤ x → x < addw c t → polF c y t x = some x := fun x h1 h2 => by
          rw [polF_drop p (by omega)]
          have := dropa_is (addw c y) (addw c t) x
          congr 1; omega
        have f2 : ∀ x : Int, addw c t ≤ x → polF c y t x = some (x + 1) := fun x h1 => by
          rw [polF_drop p (by omega)]
          have := dropa_is (addw c y) (addw c t) x
          congr 1; omega
        by_cases q1 : a + n ≤ addw c t
        · exact one 0 (fun j hj => by rw [f1 _ (by omega) (by omega)]; simp) (fun _ q => by omega)
        by_cases q2 : addw c t ≤ a
        · exact one 1 (fun j hj => by rw [f2 _ (by omega)]) (fun _ q => by omega)
        obtain ⟨k, hk⟩ : ∃ k : Nat, (k : Int) = addw c t - a := ⟨(addw c t - a).toNat, by omega⟩
        obtain ⟨m, rfl⟩ : ∃ m, n = k + m := ⟨n - k, by omega⟩
        have e1 : vsW c y t a k = conL (a + 0) k := vs_con (fun j hj => by rw [f1 _ (by omega) (by omega)]; simp)
        have e2 : vsW c y t (a + k) m = conL (a + k + 1) m := vs_con (fun j hj => by rw [f2 _ (by omega)])
        rw [vs_add, e1, e2, show a + 0 = a by omega]
        refine ⟨.inr ⟨a, k, m, by omega, by omega, rfl⟩, .inl ?_, fun _ q => by omega⟩
        rw [List.length_append, conL_len, conL_len]
      · -- one was added in y, none in t
        have A0 : addw c t = 0 := by omega
        have f1 : ∀ x : Int, x < addw c y → polF c y t x = some x := fun x h2 => by
          rw [polF_drop p (by omega)]
          have := dropa_is (addw c y) (addw c t) x
          congr 1; omega
        have f2 : ∀ x : Int, addw c y < x → polF c y t x = some (x + -1) := fun x h1 => by
          rw [polF_drop p (by omega)]
          have := dropa_is (addw c y) (addw c t) x
          congr 1; omega
        have f3 : polF c y t (addw c y) = none := by
          unfold polF
          rw [if_neg (by omega), if_neg (by omega), if_pos rfl, if_pos A0]
        by_cases q1 : a + n ≤ addw c y
        · exact one 0 (fun j hj => by rw [f1 _ (by omega)]; simp) (fun _ _ _ _ q => by omega)
        by_cases q2 : addw c y < a
        · exact one (-1) (fun j hj => by rw [f2 _ (by omega)]) (fun _ _ _ q _ => by omega)
        obtain ⟨k, hk⟩ : ∃ k : Nat, (k : Int) = addw c y - a := ⟨(addw c y - a).toNat, by omega⟩
        obtain ⟨m, rfl⟩ : ∃ m, n = k + 1 + m := ⟨n - (k + 1), by omega⟩
        have e1 : vsW c y t a k = conL (a + 0) k := vs_con (fun j hj => by rw [f1 _ (by omega)]; simp)
        have e2 : vsW c y t (a + ((k + 1 : Nat) : Int)) m = conL (a + ((k + 1 : Nat) : Int) + -1) m := vs_con (fun j hj => by rw [f2 _ (by omega)])
        have e3 : vsW c y t a (k + 1) = vsW c y t a k := by
          simp only [vsW]
          rw [show a + (k : Int) = addw c y by omega, f3]
        rw [vs_add, e3, e1, e2, show a + 0 = a by omega, show a + ((k + 1 : Nat) : Int) + -1 = a + k by omega, ← conL_add, conL_len]
        exact ⟨.inl ⟨a, k + m, rfl⟩, .inr ⟨by omega, p, by omega, A0, by omega, by omega⟩, fun _ _ _ _ _ => by omega⟩
theorem cmpW_some {l : List U3} (h : cmpW c y t a n = some l) : l.length = (vsW c y t a n).length ∧ ∀ (j : Nat) v, (vsW c y t a n)[j]? = some v → ∃ u, l[j]? = some u ∧ cntW c t v = some u := by
  induction n generalizing l with
  | zero => simp [cmpW] at h; subst h; simp [vsW]
  | succ n ih =>
    simp only [cmpW] at h
    cases hq : cmpW c y t a n with
    | none => rw [hq] at h; cases h
    | some l0 =>
      rw [hq] at h
      simp only at h
      have := ih hq
      simp only [vsW]
      cases hp : polF c y t (a + n) with
      | none => rw [hp] at h; cases h; exact this
      | some v =>
        rw [hp] at h
        simp only at h
        cases hc : cntW c t v with
        | none => rw [hc] at h; cases h
        | some u =>
          rw [hc] at h
          cases h
          refine ⟨by simp [this.1], fun j w hj => ?_⟩
          simp only at hj ⊢
          by_cases q : j < (vsW c y t a n).length
          · rw [List.getElem?_append_left q] at hj
            obtain ⟨u', h1, h2⟩ := this.2 j w hj
            exact ⟨u', by rw [List.getElem?_append_left (by omega)]; exact h1, h2⟩
          · rw [List.getElem?_append_right (by omega)] at hj
            have : j - (vsW c y t a n).length = 0 := by
              cases e : j - (vsW c y t a n).length with
              | zero => rfl
              | succ k => rw [e] at hj; simp at hj
            rw [this] at hj
            simp at hj
            subst hj
            exact ⟨u, by rw [List.getElem?_append_right (by omega), show j - l0.length = 0 by omega]; rfl, hc⟩
theorem cmpW_add (n m : Nat) : cmpW c y t a (n + m) = (match cmpW c y t a n with | none => none | some l => (match cmpW c y t (a + n) m with | none => none | some k => some (l ++ k))) := by
  induction m with
  | zero => cases h : cmpW c y t a n <;> simp [cmpW, h]
  | succ m ih =>
    rw [show n + (m + 1) = n + m + 1 by omega]
    simp only [cmpW, ih]
    rw [show a + ((n + m : Nat) : Int) = a + n + m by omega]
    cases cmpW c y t a n with
    | none => rfl
    | some l =>
      simp only
      cases cmpW c y t (a + n) m with
      | none => rfl
      | some k =>
        simp only
        cases polF c y t (a + n + m) with
        | none => rfl
        | some v =>
          simp only
          cases cntW c t v with
          | none => rfl
          | some u => simp
theorem cmpW_none (n m : Nat) (h : cmpW c y t a n = none) : cmpW c y t a (n + m) = none := by
  rw [cmpW_add, h]
end

end Go.Proofs.YtkfogmaogfgcgaaGreatDoor.Am

namespace Go.Proofs.YtkfogmaogfgcgaaGreatDoor.Am
set_option linter.unusedSimpArgs false
set_option linter.unusedVariables false
open Cm Em Rk

def mstep (r : List (Int × Int)) (s : Int × Int) : List (Int × Int) :=
  match r.reverse with
  | [] => [s]
  | x :: q => if x.2 + 1 = s.1 then q.reverse ++ [(x.1, s.2)] else r ++ [s]
def runs (l : List (Int × Int)) : List (Int × Int) := l.foldl mstep []
def spl (S : Nat → Int × Int) : Nat → List (Int × Int)
  | 0 => []
  | n + 1 => spl S n ++ [S n]
theorem mstep_join {p : List (Int × Int)} {x s : Int × Int} (h : x.2 + 1 = s.1) : mstep (p ++ [x]) s = p ++ [(x.1, s.2)] := by
  unfold mstep
  rw [List.reverse_append]
  simp [h]
theorem mstep_new {p : List (Int × Int)} {x s : Int × Int} (h : x.2 + 1 ≠ s.1) : mstep (p ++ [x]) s = p ++ [x] ++ [s] := by
  unfold mstep
  rw [List.reverse_append]
  simp [h]
theorem runs_snoc (l : List (Int × Int)) (s : Int × Int) : runs (l ++ [s]) = mstep (runs l) s := by simp [runs, List.foldl_append]
theorem snoc_cases {α : Type} (l : List α) : l = [] ∨ ∃ p x, l = p ++ [x] := by
  cases h : l.reverse with
  | nil => exact .inl (by simpa using h)
  | cons x q => exact .inr ⟨q.reverse, x, by have := congrArg List.reverse h; simpa using this⟩
theorem runs_chain {S : Nat → Int × Int} {n : Nat} (p : List (Int × Int)) (hp : p = [] ∨ ∃ q x, p = q ++ [x] ∧ x.2 + 1 ≠ (S 0).1) (h : ∀ j, j < n → (S j).2 + 1 = (S (j + 1)).1) :
    (spl S (n + 1)).foldl mstep p = p ++ [((S 0).1, (S n).2)] := by
  induction n with
  | zero =>
    simp only [spl, List.nil_append, List.foldl_cons, List.foldl_nil]
    rcases hp with rfl | ⟨q, x, rfl, ne⟩
    · rfl
    · rw [mstep_new ne]
  | succ n ih =>
    rw [spl, List.foldl_append, ih (fun j hj => h j (by omega))]
    simp only [List.foldl_cons, List.foldl_nil]
    exact mstep_join (x := ((S 0).1, (S n).2)) (h n (by omega))
def wspan (e v : Int) : Int × Int := (e + 7 * (v - 1) + 1, e + 7 * v)
theorem map_con (e v : Int) (n : Nat) : (conL v n).map (wspan e) = spl (fun j => wspan e (v + j)) n := by
  induction n with
  | zero => rfl
  | succ n ih => simp [conL, spl, ih]
theorem runs_con (e v : Int) (n : Nat) : runs ((conL v (n + 1)).map (wspan e)) = [(e + 7 * (v - 1) + 1, e + 7 * (v + n))] := by
  rw [map_con]
  unfold runs
  rw [runs_chain [] (.inl rfl) (fun j hj => by simp only [wspan]; omega)]
  simp [wspan]
theorem runs_two (e v : Int) (n m : Nat) : runs ((conL v (n + 1) ++ conL (v + ((n + 1 : Nat) : Int) + 1) (m + 1)).map (wspan e)) = [(e + 7 * (v - 1) + 1, e + 7 * (v + n)), (e + 7 * (v + n + 1) + 1, e + 7 * (v + n + 2 + m))] := by
  have e1 := runs_con e v n
  unfold runs at e1 ⊢
  rw [List.map_append, List.foldl_append, e1, map_con, runs_chain [(e + 7 * (v - 1) + 1, e + 7 * (v + n))] (.inr ⟨[], _, rfl, by simp only [wspan]; omega⟩) (fun j hj => by simp only [wspan]; omega)]
  simp [wspan]
  omega
theorem runs_wk (c : CalZ) (t a : Int) (n : Nat) : runs ((wkL t a (n + 1)).map (spanOf c)) = [(uend c t 5 (a - 1) + 1, uend c t 5 (a + n))] := by
  have m : ∀ n, (wkL t a n).map (spanOf c) = spl (fun j => spanOf c (5, t, a + j)) n := by
    intro n
    induction n with
    | zero => rfl
    | succ n ih => simp [wkL, spl, ih]
  rw [m]
  unfold runs
  rw [runs_chain [] (.inl rfl) (fun j hj => by
    simp only [spanOf]
    rw [show a + ((j + 1 : Nat) : Int) - 1 = a + j by omega])]
  simp [spanOf]

def WeeksF (c : CalZ) (L y i t : Int) (o : Option (List U3)) : Prop :=
  (c.k ≠ 6 ∧ ∃ a b, WkOf c L y i a b ∧ o = cmpW c y t a (b - a + 1).toNat) ∨ (c.k = 6 ∧ L ≠ 5 ∧ ∃ a b, WkOf c L t i a b ∧ o = some (wkL t a (b - a + 1).toNat)) ∨
  (c.k = 6 ∧ L = 5 ∧ ∃ p a b a' b', InU c y 4 (uend c y 5 (i - 1) + 1) p ∧ WkOf c 4 y p a b ∧ WkOf c 4 t p a' b' ∧ a ≤ i ∧ o = some (if i - a ≤ b' - a' then [(5, t, a' + (i - a))] else []))
def TwA (c : CalZ) (L y i k : Int) (l : List U3) (er : Int) : Prop :=
  (UnitOk c L y i ∧ Served c (y + k) ∧ ∃ o, WeeksF c L y i (y + k) o ∧ ((o = none ∧ l = [] ∧ er = 11) ∨ (o = some [] ∧ l = [] ∧ er = 12) ∨ (o = some l ∧ l ≠ [] ∧ er = 0))) ∨
  (UnitOk c L y i ∧ ¬ Served c (y + k) ∧ l = [] ∧ er = 11) ∨ (¬ UnitOk c L y i ∧ UChkA c L y i er ∧ l = [])
section
variable {c : CalZ} {L y i t k er : Int} {l : List U3}
theorem month_unit (k6 : c.k = 6) (h : UnitOk c L y i) (hL : L ≠ 5) (s : Served c t) : UnitOk c L t i := by
  obtain ⟨ok, l, _, i0, i1⟩ := h
  refine ⟨ok, l, s, i0, ?_⟩
  have l2 := l.2
  have l1 := l.1
  have L4 : L = 1 ∨ L = 2 ∨ L = 3 ∨ L = 4 := by omega
  unfold ucount at i1 ⊢
  rcases L4 with rfl | rfl | rfl | rfl <;> simpa using i1
theorem month_of (h : UnitOk c 5 y i) : ∃ p a b, InU c y 4 (uend c y 5 (i - 1) + 1) p ∧ UnitOk c 4 y p ∧ WkOf c 4 y p a b ∧ uend c y 5 (a - 1) = uend c y 4 (p - 1) ∧ uend c y 5 b = uend c y 4 p ∧ 1 ≤ a ∧ a ≤ i ∧ i ≤ b ∧ b ≤ ucount c y 5 := by
  obtain ⟨ok, l, s, i0, i1⟩ := h
  have st := served_told ok s
  have l5 : LevOk 5 := ⟨by omega, by omega⟩
  have b0 := uend_bd (y := y) (i := i - 1) ok.1 (by omega) (by omega) l5 (by omega) (by omega)
  have b1 := uend_bd (y := y) (i := i) ok.1 (by omega) (by omega) l5 (by omega) (by omega)
  have d := uend_step (y := y) (i := i - 1) ok.1 (by omega) (by omega) l5 (by omega) (by omega)
  rw [show i - 1 + 1 = i by omega] at d
  obtain ⟨p, hp⟩ := inu_ex (y := y) (L := 4) (d := uend c y 5 (i - 1) + 1) ok.1 (by omega) (by omega) ⟨by omega, by omega⟩ (by omega) (by omega)
  have up : UnitOk c 4 y p := ⟨ok, ⟨by omega, by omega⟩, s, hp.1, hp.2.1⟩
  obtain ⟨a, b, W, ea, eb, a0, ab, b2⟩ := wkof_ex up
  refine ⟨p, a, b, hp, up, W, ea, eb, a0, ?_, ?_, b2⟩
  · by_cases q : a ≤ i
    · exact q
    · have := uend_mono (y := y) (L := 5) ok.1 (by omega) (by omega) l5 (a := i) (b := a - 1) (by omega) (by omega) (by omega)
      have := hp.2.2.1
      omega
  · by_cases q : i ≤ b
    · exact q
    · have := uend_mono (y := y) (L := 5) ok.1 (by omega) (by omega) l5 (a := b) (b := i - 1) (by omega) (by omega) (by omega)
      have := hp.2.2.2
      omega
theorem weeksf_ex (h : UnitOk c L y i) (s : Served c t) : ∃ o, WeeksF c L y i t o := by
  by_cases k6 : c.k = 6
  · by_cases hL : L = 5
    · subst hL
      obtain ⟨p, a, b, hp, up, W, _, _, _, ai, _⟩ := month_of h
      obtain ⟨a', b', W', _⟩ := wkof_ex (month_unit k6 up (by decide) s)
      exact ⟨_, .inr (.inr ⟨k6, rfl, p, a, b, a', b', hp, W, W', ai, rfl⟩)⟩
    · obtain ⟨a, b, W, _⟩ := wkof_ex (month_unit k6 h hL s)
      exact ⟨_, .inr (.inl ⟨k6, hL, a, b, W, rfl⟩)⟩
  · obtain ⟨a, b, W, _⟩ := wkof_ex h
    exact ⟨_, .inl ⟨k6, a, b, W, rfl⟩⟩
theorem twa_ex (c : CalZ) (L y i k : Int) : ∃ l er, TwA c L y i k l er := by
  by_cases h : UnitOk c L y i
  · by_cases s : Served c (y + k)
    · obtain ⟨o, w⟩ := weeksf_ex h s
      cases o with
      | none => exact ⟨[], 11, .inl ⟨h, s, _, w, .inl ⟨rfl, rfl, rfl⟩⟩⟩
      | some l =>
        cases l with
        | nil => exact ⟨[], 12, .inl ⟨h, s, _, w, .inr (.inl ⟨rfl, rfl, rfl⟩)⟩⟩
        | cons u l => exact ⟨u :: l, 0, .inl ⟨h, s, _, w, .inr (.inr ⟨rfl, by simp, rfl⟩)⟩⟩
    · exact ⟨[], 11, .inr (.inl ⟨h, s, rfl, rfl⟩)⟩
  · obtain ⟨er, e⟩ := uchka_ex c L y i
    exact ⟨[], er, .inr (.inr ⟨h, e, rfl⟩)⟩
theorem twa_no (h : TwA c L y i k l er) (n : er ≠ 0) : l = [] := by
  rcases h with ⟨_, _, o, _, ⟨_, h, _⟩ | ⟨_, h, _⟩ | ⟨_, _, h⟩⟩ | ⟨_, _, h, _⟩ | ⟨_, _, h⟩
  · exact h
  · exact h
  · exact absurd h n
  · exact h
  · exact h
structure TwList (c : CalZ) (l : List U3) (r : List (Int × Int)) : Prop where
  l0 : 1 ≤ l.length
  l1 : l.length ≤ 60
  u : ∀ (j : Nat) (u : U3), l[j]? = some u → u.1 = 5 ∧ UnitOk c 5 u.2.1 u.2.2
  rise : ∀ (j : Nat) (u v : U3), l[j]? = some u → l[j + 1]? = some v → (spanOf c u).2 < (spanOf c v).1
  eq : r = runs (l.map (spanOf c))
  two : (∃ f t, r = [(f, t)] ∧ 0 ≤ f ∧ f ≤ t ∧ t ≤ 3068036) ∨ (∃ f1 t1 f2 t2, r = [(f1, t1), (f2, t2)] ∧ 0 ≤ f1 ∧ f1 ≤ t1 ∧ t1 + 1 < f2 ∧ f2 ≤ t2 ∧ t2 ≤ 3068036)
theorem list_ext {α : Type} {a b : List α} (hl : a.length = b.length) (h : ∀ (j : Nat) (x : α), b[j]? = some x → a[j]? = some x) : a = b := by
  apply List.ext_getElem?
  intro j
  cases e : b[j]? with
  | some x => exact h j x e
  | none =>
    rw [List.getElem?_eq_none_iff] at e ⊢
    omega
theorem cmp_spans {a : Int} {n : Nat} (ok : CalOk c) (k6 : c.k ≠ 6) (s : Served c y) (st : Served c t) (a0 : 1 ≤ a) (an : a + n - 1 ≤ nweeks c y) (h : cmpW c y t a n = some l) :
    l.map (spanOf c) = (vsW c y t a n).map (wspan (yend c (t - 1))) ∧ (∀ (j : Nat) (v : Int), (vsW c y t a n)[j]? = some v → 0 ≤ v ∧ v ≤ nweeks c t + 1 ∧ ∃ u, l[j]? = some u ∧ WkAt c t v u) := by
  have ty := served_told ok s
  have tt := served_told ok st
  have w := cmpW_some h
  have vb : ∀ n : Nat, a + n - 1 ≤ nweeks c y → ∀ (j : Nat) (v : Int), (vsW c y t a n)[j]? = some v → 0 ≤ v ∧ v ≤ nweeks c t + 1 := by
    intro n
    induction n with
    | zero => intro _ j v hj; simp [vsW] at hj
    | succ n ih =>
      intro hn j v hj
      simp only [vsW] at hj
      cases hp : polF c y t (a + n) with
      | none => rw [hp] at hj; exact ih (by omega) j v hj
      | some v' =>
        rw [hp] at hj
        simp only at hj
        by_cases q : j < (vsW c y t a n).length
        · rw [List.getElem?_append_left q] at hj
          exact ih (by omega) j v hj
        · rw [List.getElem?_append_right (by omega)] at hj
          cases e : j - (vsW c y t a n).length with
          | zero =>
            rw [e] at hj
            simp at hj
            subst hj
            exact polF_bd ok k6 (by omega) (by omega) (by omega) (by omega) (x := a + n) (by omega) (by omega) hp
          | succ m => rw [e] at hj; simp at hj
  have wa : ∀ (j : Nat) (v : Int), (vsW c y t a n)[j]? = some v → 0 ≤ v ∧ v ≤ nweeks c t + 1 ∧ ∃ u, l[j]? = some u ∧ WkAt c t v u := fun j v hj => by
    obtain ⟨v0, v1⟩ := vb n an j v hj
    obtain ⟨u, hu, hc⟩ := w.2 j v hj
    exact ⟨v0, v1, u, hu, cntW_at ok k6 st v0 v1 hc⟩
  refine ⟨list_ext (by simp [w.1]) (fun j x hx => ?_), wa⟩
  rw [List.getElem?_map] at hx ⊢
  cases hv : (vsW c y t a n)[j]? with
  | none => rw [hv] at hx; simp at hx
  | some v =>
    rw [hv] at hx
    simp at hx
    obtain ⟨_, _, u, hu, W⟩ := wa j v hv
    rw [hu, ← hx]
    simp [spanOf, wspan, W.from_, W.to_]
end

end Go.Proofs.YtkfogmaogfgcgaaGreatDoor.Am

namespace Go.Proofs.YtkfogmaogfgcgaaGreatDoor.Am
set_option linter.unusedSimpArgs false
set_option linter.unusedVariables false
open Cm Em Rk

section
variable {c : CalZ} {L y i t k er : Int} {l : List U3}
theorem conL_lt {v x : Int} {n j : Nat} (h : (conL v n)[j]? = some x) : j < n ∧ x = v + j := by
  have q := (List.getElem?_eq_some_iff.1 h).1
  rw [conL_len] at q
  rw [conL_at v n j q] at h
  exact ⟨q, by cases h; rfl⟩
theorem closed_rise {vs : List Int} (h : Closed vs) {j : Nat} {x z : Int} (hx : vs[j]? = some x) (hz : vs[j + 1]? = some z) : x < z := by
  rcases h with ⟨v, n, rfl⟩ | ⟨v, n, m, n1, m1, rfl⟩
  · have := conL_lt hx; have := conL_lt hz; omega
  · by_cases q : j < n
    · rw [List.getElem?_append_left (by rw [conL_len]; exact q)] at hx
      have a := conL_lt hx
      by_cases q2 : j + 1 < n
      · rw [List.getElem?_append_left (by rw [conL_len]; exact q2)] at hz
        have := conL_lt hz; omega
      · rw [List.getElem?_append_right (by rw [conL_len]; omega), conL_len] at hz
        have := conL_lt hz; omega
    · rw [List.getElem?_append_right (by rw [conL_len]; omega), conL_len] at hx
      rw [List.getElem?_append_right (by rw [conL_len]; omega), conL_len] at hz
      have := conL_lt hx; have := conL_lt hz; omega
theorem wkat_bd {v : Int} {u : U3} (W : WkAt c t v u) : 0 ≤ yend c (t - 1) + 7 * (v - 1) ∧ yend c (t - 1) + 7 * v ≤ 3068036 := by
  obtain ⟨_, h, f, o⟩ := W
  obtain ⟨ok, l, s, i0, i1⟩ := h
  have st := served_told ok s
  have b0 := uend_bd (i := u.2.2 - 1) ok.1 (y := u.2.1) (by omega) (by omega) l (by omega) (by omega)
  have b1 := uend_bd (i := u.2.2) ok.1 (y := u.2.1) (by omega) (by omega) l (by omega) (by omega)
  omega
structure TwW (c : CalZ) (L y i t : Int) (l : List U3) (a b : Int) (n : Nat) : Prop where
  unit : UnitOk c L y i
  st : Served c t
  w : WkOf c L y i a b
  ea : uend c y 5 (a - 1) = uend c y L (i - 1)
  eb : uend c y 5 b = uend c y L i
  a0 : 1 ≤ a
  ab : a ≤ b
  bn : b ≤ nweeks c y
  n_ : (n : Int) = b - a + 1
  cmp : cmpW c y t a n = some l
theorem twa_weeks (k6 : c.k ≠ 6) (h : TwA c L y i k l 0) : (∃ a b n, TwW c L y i (y + k) l a b n) ∧ l ≠ [] := by
  rcases h with ⟨u, st, o, wf, ⟨_, _, h⟩ | ⟨_, _, h⟩ | ⟨rfl, ne, _⟩⟩ | ⟨_, _, _, h⟩ | ⟨no, ck, _⟩
  · omega
  · omega
  · rcases wf with ⟨_, a, b, W, e⟩ | ⟨q, _⟩ | ⟨q, _⟩
    · have r := wkof_is u W
      have sy := u.2.2.1
      have ty := served_told u.1 sy
      have uc : ucount c y 5 = nwk c y := by simp [ucount]
      have nw := nwk_weeks u.1.1 k6 (y := y) (by omega) (by omega)
      exact ⟨⟨a, b, _, u, st, W, r.1, r.2.1, r.2.2.1, r.2.2.2.1, by omega, by omega, e.symm⟩, ne⟩
    · exact absurd q k6
    · exact absurd q k6
  · omega
  · exact absurd ((uchka_ok ck).1 rfl) no
section
variable {a b : Int} {n : Nat}
theorem TwW.bd (h : TwW c L y i t l a b n) (k6 : c.k ≠ 6) : 1601 ≤ y ∧ y ≤ 9997 ∧ 1601 ≤ t ∧ t ≤ 9997 ∧ b ≤ 53 := by
  have ty := served_told h.unit.1 h.unit.2.2.1
  have tt := served_told h.unit.1 h.st
  have := (nweeks_01 h.unit.1.1 k6 (y := y) (by omega) (by omega)).1
  have := h.bn
  omega
theorem TwW.spans (h : TwW c L y i t l a b n) (k6 : c.k ≠ 6) : l.map (spanOf c) = (vsW c y t a n).map (wspan (yend c (t - 1))) ∧ (∀ (j : Nat) (v : Int), (vsW c y t a n)[j]? = some v → 0 ≤ v ∧ v ≤ nweeks c t + 1 ∧ ∃ u, l[j]? = some u ∧ WkAt c t v u) ∧ l.length = (vsW c y t a n).length :=
  have s := cmp_spans h.unit.1 k6 h.unit.2.2.1 h.st h.a0 (by have := h.bn; have := h.n_; omega) h.cmp
  ⟨s.1, s.2, (cmpW_some h.cmp).1⟩
theorem TwW.closed (h : TwW c L y i t l a b n) (k6 : c.k ≠ 6) : Closed (vsW c y t a n) ∧ ((vsW c y t a n).length = n ∨ ((vsW c y t a n).length + 1 = n ∧ c.po = 3 ∧ addw c y ≠ 0 ∧ addw c t = 0 ∧ a ≤ addw c y ∧ addw c y ≤ a + n - 1)) ∧ (c.po = 3 → addw c y ≠ 0 → addw c t = 0 → a ≤ addw c y → addw c y ≤ a + n - 1 → (vsW c y t a n).length + 1 = n) := (vs_closed (n := n) (a := a) h.unit.1 k6 (h.bd k6).1 (h.bd k6).2.1 (h.bd k6).2.2.1 (h.bd k6).2.2.2.1 h.a0)
theorem TwW.list (h : TwW c L y i t l a b n) (k6 : c.k ≠ 6) (ne : l ≠ []) : TwList c l (runs (l.map (spanOf c))) := by
  obtain ⟨s1, s2, s3⟩ := h.spans k6
  obtain ⟨C, len, _⟩ := h.closed k6
  have bd := h.bd k6
  have hn := h.n_
  have ha := h.a0
  have hb := h.bn
  have l1 : 1 ≤ l.length := by cases l with | nil => exact absurd rfl ne | cons x q => simp
  have at_ : ∀ (j : Nat) (u : U3), l[j]? = some u → ∃ v, (vsW c y t a n)[j]? = some v ∧ WkAt c t v u := fun j u hu => by
    have q := (List.getElem?_eq_some_iff.1 hu).1
    obtain ⟨v, hv⟩ : ∃ v, (vsW c y t a n)[j]? = some v := ⟨_, List.getElem?_eq_getElem (by omega)⟩
    obtain ⟨_, _, u', hu', W⟩ := s2 j v hv
    rw [hu] at hu'
    cases hu'
    exact ⟨v, hv, W⟩
  refine ⟨l1, by omega, fun j u hu => ?_, fun j u v hu hv => ?_, rfl, ?_⟩
  · obtain ⟨v, _, W⟩ := at_ j u hu
    exact ⟨W.l, W.ok⟩
  · obtain ⟨x, hx, W⟩ := at_ j u hu
    obtain ⟨z, hz, W2⟩ := at_ (j + 1) v hv
    have := closed_rise C hx hz
    simp only [spanOf, W.to_, W2.from_]
    omega
  · rw [s1]
    rcases C with ⟨v, m, e⟩ | ⟨v, m1, m2, h1, h2, e⟩
    · rw [e] at s3 s2 ⊢
      rw [conL_len] at s3
      obtain ⟨m, rfl⟩ : ∃ p, m = p + 1 := ⟨m - 1, by omega⟩
      obtain ⟨_, _, u, _, W⟩ := s2 0 v (by rw [conL_at v _ 0 (by omega)]; simp)
      obtain ⟨_, _, u2, _, W2⟩ := s2 m (v + m) (by rw [conL_at v _ m (by omega)])
      have b1 := wkat_bd W
      have b2 := wkat_bd W2
      rw [runs_con]
      exact .inl ⟨_, _, rfl, by omega, by omega, by omega⟩
    · rw [e] at s3 s2 ⊢
      rw [List.length_append, conL_len, conL_len] at s3
      obtain ⟨m1, rfl⟩ : ∃ p, m1 = p + 1 := ⟨m1 - 1, by omega⟩
      obtain ⟨m2, rfl⟩ : ∃ p, m2 = p + 1 := ⟨m2 - 1, by omega⟩
      obtain ⟨_, _, u, _, W⟩ := s2 0 v (by rw [List.getElem?_append_left (by rw [conL_len]; omega), conL_at v _ 0 (by omega)]; simp)
      obtain ⟨_, _, u2, _, W2⟩ := s2 (m1 + 1 + m2) (v + ((m1 + 1 : Nat) : Int) + 1 + m2) (by rw [List.getElem?_append_right (by rw [conL_len]; omega), conL_len, show m1 + 1 + m2 - (m1 + 1) = m2 by omega, conL_at _ _ m2 (by omega)])
      have b1 := wkat_bd W
      have b2 := wkat_bd W2
      rw [runs_two]
      exact .inr ⟨_, _, _, _, rfl, by omega, by omega, by omega, by omega, by omega⟩
end
theorem wk_list {a : Int} {n : Nat} (ok : CalOk c) (st : Served c t) (a0 : 1 ≤ a) (an : a + n ≤ ucount c t 5) : TwList c (wkL t a (n + 1)) [(uend c t 5 (a - 1) + 1, uend c t 5 (a + n))] := by
  have tt := served_told ok st
  have l5 : LevOk 5 := ⟨by omega, by omega⟩
  have ub := ucount_bd (L := 5) (y := t) ok.1 (by omega) (by omega)
  have at_ : ∀ (j : Nat) (u : U3), (wkL t a (n + 1))[j]? = some u → j ≤ n ∧ u = (5, t, a + j) := fun j u hu => by
    have q := (List.getElem?_eq_some_iff.1 hu).1
    rw [wkL_len] at q
    rw [wkL_at _ _ _ _ q] at hu
    cases hu
    exact ⟨by omega, rfl⟩
  refine ⟨by rw [wkL_len]; omega, by rw [wkL_len]; omega, fun j u hu => ?_, fun j u v hu hv => ?_, (runs_wk c t a n).symm, .inl ⟨_, _, rfl, ?_, ?_, ?_⟩⟩
  · obtain ⟨hj, rfl⟩ := at_ j u hu
    exact ⟨rfl, ok, l5, st, by show 1 ≤ a + (j : Int); omega, by show a + (j : Int) ≤ ucount c t 5; omega⟩
  · obtain ⟨hj, rfl⟩ := at_ j u hu
    obtain ⟨hj2, rfl⟩ := at_ (j + 1) v hv
    simp only [spanOf]
    rw [show a + ((j + 1 : Nat) : Int) - 1 = a + j by omega]
    omega
  · have := uend_bd (y := t) (i := a - 1) ok.1 (by omega) (by omega) l5 (by omega) (by omega); omega
  · have := uend_mono (y := t) ok.1 (by omega) (by omega) l5 (a := a - 1) (b := a + n) (by omega) (by omega) (by omega); omega
  · have := uend_bd (y := t) (i := a + n) ok.1 (by omega) (by omega) l5 (by omega) (by omega); omega
theorem twa_months (k6 : c.k = 6) (h : TwA c L y i k l 0) : UnitOk c L y i ∧ Served c (y + k) ∧ ((L ≠ 5 ∧ UnitOk c L (y + k) i ∧ TwList c l [(uend c (y + k) L (i - 1) + 1, uend c (y + k) L i)] ∧ ∃ a b, WkOf c L (y + k) i a b ∧ l = wkL (y + k) a (b - a + 1).toNat) ∨
    (L = 5 ∧ ∃ p a b a' b', InU c y 4 (uend c y 5 (i - 1) + 1) p ∧ WkOf c 4 y p a b ∧ WkOf c 4 (y + k) p a' b' ∧ UnitOk c 4 (y + k) p ∧ a ≤ i ∧ 1 ≤ a' ∧ i - a ≤ b' - a' ∧ b' ≤ ucount c (y + k) 5 ∧ l = [(5, y + k, a' + (i - a))] ∧ TwList c l [(uend c (y + k) 5 (a' + (i - a) - 1) + 1, uend c (y + k) 5 (a' + (i - a)))])) := by
  rcases h with ⟨u, st, o, wf, ⟨_, _, h⟩ | ⟨_, _, h⟩ | ⟨rfl, ne, _⟩⟩ | ⟨_, _, _, h⟩ | ⟨no, ck, _⟩
  · omega
  · omega
  · refine ⟨u, st, ?_⟩
    rcases wf with ⟨q, _⟩ | ⟨_, hL, a, b, W, e⟩ | ⟨_, hL, p, a, b, a', b', hp, W, W', ai, e⟩
    · exact absurd k6 q
    · have um := month_unit k6 u hL st
      have r := wkof_is um W
      cases e
      obtain ⟨n, hn⟩ : ∃ n : Nat, (b - a + 1).toNat = n + 1 := ⟨(b - a).toNat, by omega⟩
      have wl := wk_list (c := c) (t := y + k) (a := a) (n := n) u.1 st r.2.2.1 (by omega)
      rw [r.1, show a + (n : Int) = b by omega, r.2.1] at wl
      rw [hn]
      exact .inl ⟨hL, um, wl, a, b, W, by rw [hn]⟩
    · subst hL
      have ty := served_told u.1 u.2.2.1
      have up : UnitOk c 4 y p := ⟨u.1, ⟨by omega, by omega⟩, u.2.2.1, hp.1, hp.2.1⟩
      have um := month_unit k6 up (by decide) st
      have r := wkof_is um W'
      by_cases q : i - a ≤ b' - a'
      · rw [if_pos q] at e
        cases e
        have wl := wk_list (c := c) (t := y + k) (a := a' + (i - a)) (n := 0) u.1 st (by omega) (by have := r.2.2.2.2; simp; omega)
        rw [show a' + (i - a) + ((0 : Nat) : Int) = a' + (i - a) by omega] at wl
        have e1 : wkL (y + k) (a' + (i - a)) (0 + 1) = [(5, y + k, a' + (i - a))] := by simp [wkL]
        rw [e1] at wl
        exact .inr ⟨rfl, p, a, b, a', b', hp, W, W', um, ai, r.2.2.1, q, r.2.2.2.2, rfl, wl⟩
      · rw [if_neg q] at e
        cases e
        exact absurd rfl ne
  · omega
  · exact absurd ((uchka_ok ck).1 rfl) no
theorem twa_list (h : TwA c L y i k l 0) : TwList c l (runs (l.map (spanOf c))) := by
  by_cases k6 : c.k = 6
  · obtain ⟨_, _, ⟨_, _, w, _⟩ | ⟨_, _, _, _, _, _, _, _, _, _, _, _, _, _, _, w⟩⟩ := twa_months k6 h
    · have e := w.eq; rw [← e]; exact w
    · have e := w.eq; rw [← e]; exact w
  · obtain ⟨⟨a, b, n, w⟩, ne⟩ := twa_weeks k6 h
    exact w.list k6 ne
end

end Go.Proofs.YtkfogmaogfgcgaaGreatDoor.Am

namespace Go.Proofs.YtkfogmaogfgcgaaGreatDoor.Am
set_option linter.unusedSimpArgs false
set_option linter.unusedVariables false
open Cm Em Rk

section
variable {c : CalZ} {L y i t k er : Int} {l : List U3}
section
variable {a b : Int} {n : Nat}
end
end

end Go.Proofs.YtkfogmaogfgcgaaGreatDoor.Am

namespace Go.Proofs.YtkfogmaogfgcgaaGreatDoor.Am
set_option linter.unusedSimpArgs false
set_option linter.unusedVariables false
open Cm Em Rk

section
variable {c : CalZ} {l : List U3} {r : List (Int × Int)} {j : Nat} {s p : Int}
theorem span_bd {u : U3} (h : u.1 = 5 ∧ UnitOk c 5 u.2.1 u.2.2) : 0 ≤ (spanOf c u).1 ∧ (spanOf c u).1 ≤ (spanOf c u).2 ∧ (spanOf c u).2 ≤ 3068036 := by
  obtain ⟨_, ok, l, s, i0, i1⟩ := h
  have st := served_told ok s
  have b0 := uend_bd (y := u.2.1) (L := 5) (i := u.2.2 - 1) ok.1 (by omega) (by omega) l (by omega) (by omega)
  have b1 := uend_bd (y := u.2.1) (L := 5) (i := u.2.2) ok.1 (by omega) (by omega) l (by omega) (by omega)
  have d := uend_step (y := u.2.1) (L := 5) (i := u.2.2 - 1) ok.1 (by omega) (by omega) l (by omega) (by omega)
  rw [show u.2.2 - 1 + 1 = u.2.2 by omega] at d
  simp only [spanOf]
  omega
end

end Go.Proofs.YtkfogmaogfgcgaaGreatDoor.Am

