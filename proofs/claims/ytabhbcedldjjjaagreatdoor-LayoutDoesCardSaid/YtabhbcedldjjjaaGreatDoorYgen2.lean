/- Items of any kind: how many may be left, how deep they are. No condition. -/
import Derived.Test.YtabhbcedldjjjaaGreatDoorYgen
import Derived.Test.YtabhbcedldjjjaaGreatDoorYsame
namespace Go.Proofs.YtabhbcedldjjjaaGreatDoor.Yg
set_option linter.unusedSimpArgs false
set_option linter.unusedVariables false
open Go Go.RowKit Go.Proofs.YtabhbcedldjjjaaGreatDoor.Zm Go.Proofs.YtabhbcedldjjjaaGreatDoor.Ym

def NI.ws : NI → List WI
  | .mk _ _ ws _ _ => ws
def NI.ks : NI → List NI
  | .mk _ _ _ _ ks => ks
def lftGo (f : List NI → Int → Int) : List NI → Int → Int
  | [], m => m
  | n :: l, m => if m < 0 ∨ 20 < n.ws.length then -1 else lftGo f l (f n.ks (m - 1))
/-- how many more there might be -/
def lft : Nat → List NI → Int → Int
  | 0, l, m => if 0 < l.length then -1 else m
  | d + 1, l, m => lftGo (lft d) l m
theorem lftGo_bd (f : List NI → Int → Int) (hf : ∀ l m, -1 ≤ m → -1 ≤ f l m ∧ f l m ≤ m) (l : List NI) (m : Int) (hm : -1 ≤ m) : -1 ≤ lftGo f l m ∧ lftGo f l m ≤ m := by
  induction l generalizing m with
  | nil => simp only [lftGo]; omega
  | cons n l ih =>
    simp only [lftGo]
    split
    · omega
    · have := hf n.ks (m - 1) (by omega)
      have := ih (f n.ks (m - 1)) (by omega)
      omega
theorem lft_bd : ∀ (d : Nat) (l : List NI) (m : Int), -1 ≤ m → -1 ≤ lft d l m ∧ lft d l m ≤ m
  | 0, l, m, h => by
    simp only [lft]
    split <;> omega
  | d + 1, l, m, h => lftGo_bd (lft d) (lft_bd d) l m h
mutual
/-- lists are no longer than they may be -/
def LenN : NI → Prop
  | .mk _ _ ws _ ks => ws.length ≤ maxLen ∧ ks.length ≤ maxLen ∧ LenL ks
def LenL : List NI → Prop
  | [] => True
  | n :: l => LenN n ∧ LenL l
end
theorem LenL.get {l : List NI} (h : LenL l) (i : Nat) (hi : i < l.length) : LenN l[i] := by
  induction l generalizing i with
  | nil => exact absurd hi (by simp)
  | cons n l ih =>
    simp only [LenL] at h
    cases i with
    | zero => exact h.1
    | succ i => exact ih h.2 i (by simpa using hi)
theorem lftGo_few (f : List NI → Int → Int) (hb : ∀ l m, -1 ≤ m → -1 ≤ f l m ∧ f l m ≤ m) (hf : ∀ l m, 0 ≤ f l m → (cntL l : Int) ≤ m - f l m ∧ WsL 20 l) (hn : ∀ l m, -1 ≤ m → f l m < 0 → f l m = -1) (l : List NI) (m : Int) (h : 0 ≤ lftGo f l m) :
    (cntL l : Int) ≤ m - lftGo f l m ∧ WsL 20 l := by
  induction l generalizing m with
  | nil => simp only [lftGo] at h ⊢; simp [cntL, WsL]
  | cons n l ih =>
    simp only [lftGo] at h ⊢
    split at h
    · omega
    · rename_i hc
      rw [if_neg hc]
      have i1 := ih _ h
      have hk : 0 ≤ f n.ks (m - 1) := by
        refine Classical.byContradiction fun q => ?_
        have e := hn n.ks (m - 1) (by omega) (by omega)
        rw [e] at h
        cases l with
        | nil => simp only [lftGo] at h; omega
        | cons x l =>
          simp only [lftGo] at h
          rw [if_pos (.inl (by omega))] at h
          omega
      have i2 := hf n.ks (m - 1) hk
      cases n with
      | mk nm a ws b ks =>
        simp only [NI.ws, NI.ks] at *
        simp only [cntL, cntN, WsL, WsN]
        exact ⟨by omega, ⟨by omega, i2.2⟩, i1.2⟩
theorem lft_few : ∀ (d : Nat) (l : List NI) (m : Int), 0 ≤ lft d l m → (cntL l : Int) ≤ m - lft d l m ∧ WsL 20 l
  | 0, l, m, h => by
    simp only [lft] at h ⊢
    split at h
    · omega
    · rename_i q
      have e : l = [] := List.eq_nil_of_length_eq_zero (by omega)
      subst e
      simp [cntL, WsL]
  | d + 1, l, m, h => lftGo_few (lft d) (lft_bd d) (lft_few d) (fun l m hm h => by have := (lft_bd d l m hm).1; omega) l m h
theorem WsL.mono {a b : Nat} (hab : a ≤ b) : ∀ {l : List NI}, WsL a l → WsL b l := by
  have key : ∀ (n : Nat) (l : List NI), cntL l ≤ n → WsL a l → WsL b l := by
    intro n
    induction n with
    | zero =>
      intro l h _
      cases l with
      | nil => trivial
      | cons x l => simp only [cntL] at h; have := cnt_pos x; omega
    | succ n ih =>
      intro l
      induction l with
      | nil => intro _ _; trivial
      | cons x l il =>
        intro h hw
        cases x with
        | mk nm c ws b2 ks =>
          simp only [cntL, cntN] at h
          simp only [WsL, WsN] at hw ⊢
          exact ⟨⟨by omega, ih ks (by omega) hw.1.2⟩, il (by omega) hw.2⟩
  exact fun {l} h => key (cntL l) l (Nat.le_refl _) h

mutual
def dpN : NI → Nat
  | .mk _ _ _ b ks => (if b then 1 else 0) + dpL ks
def dpL : List NI → Nat
  | [] => 0
  | n :: l => max (dpN n) (dpL l)
end
mutual
theorem dpN_cnt : ∀ n : NI, dpN n ≤ cntN n
  | .mk _ _ _ b ks => by
    have := dpL_cnt ks
    simp only [dpN, cntN]
    split <;> omega
theorem dpL_cnt : ∀ l : List NI, dpL l ≤ cntL l
  | [] => by simp [dpL]
  | n :: l => by
    have := dpN_cnt n
    have := dpL_cnt l
    simp only [dpL, cntL]; omega
end
theorem dpL_snoc (l : List NI) (n : NI) : dpL (l ++ [n]) = max (dpL l) (dpN n) := by
  induction l with
  | nil => simp [dpL]
  | cons m l ih => simp only [List.cons_append, dpL, ih]; omega
theorem take_dp (l : List NI) (k : Nat) (hk : k < l.length) : dpL (l.take (k + 1)) = max (dpL (l.take k)) (dpN l[k]) := by
  rw [← dpL_snoc, List.take_succ_eq_append_getElem hk]
theorem take_dp_le (l : List NI) (k : Nat) : dpL (l.take k) ≤ dpL l := by
  induction l generalizing k with
  | nil => simp [dpL]
  | cons n l ih =>
    cases k with
    | zero => simp [dpL]
    | succ k => have := ih k; simp only [List.take_succ_cons, dpL]; omega
mutual
theorem dp_embN : ∀ n : Nd, dpN (embN n) = deepN n
  | .mk _ _ _ b ks => by simp only [embN, dpN, deepN, dp_embL ks]
theorem dp_embL : ∀ l : List Nd, dpL (embL l) = deepL l
  | [] => rfl
  | n :: l => by simp only [embL, dpL, deepL, dp_embN n, dp_embL l]
end

end Go.Proofs.YtabhbcedldjjjaaGreatDoor.Yg
