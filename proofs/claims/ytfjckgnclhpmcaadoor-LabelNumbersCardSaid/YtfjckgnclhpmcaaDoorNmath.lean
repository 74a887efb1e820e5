/- Units as texts, and numbers as texts; plain mathematics, nothing of the program. -/
import Derived.Test.YtfjckgnclhpmcaaDoorTmath
namespace Go.Proofs.YtfjckgnclhpmcaaDoor.Nm
set_option linter.unusedSimpArgs false
set_option linter.unusedVariables false
open Go.Proofs.YtfjckgnclhpmcaaDoor.Tm

/-- the greatest number of a unit, what stands behind the year, and in how many digits the number is written -/
def most (L : Int) : Int := if L = 1 then 1 else if L = 2 then 2 else if L = 3 then 4 else if L = 4 then 52 else 60
def sgn (L : Int) : ByteArray := if L = 1 then ⟨#[]⟩ else if L = 2 then ⟨#[45, 72]⟩ else if L = 3 then ⟨#[45, 81]⟩ else if L = 4 then ⟨#[45, 80]⟩ else ⟨#[45, 87]⟩
def dgc (L : Int) : Nat := if L = 1 then 0 else if L = 2 then 1 else if L = 3 then 1 else 2
/-- a number's digits of a level -/
def sd (L i : Int) : ByteArray := if L = 1 then ⟨#[]⟩ else if L = 2 then s1 i else if L = 3 then s1 i else s2 i
def ustr (L y i : Int) : ByteArray := s4 y ++ sgn L ++ sd L i
def WrOk (L y i : Int) : Prop := 1601 ≤ y ∧ y ≤ 9997 ∧ 1 ≤ L ∧ L ≤ 5 ∧ 1 ≤ i ∧ i ≤ most L
instance (L y i : Int) : Decidable (WrOk L y i) := by unfold WrOk; exact inferInstance
def PrintA (L y i : Int) (s : ByteArray) (er : Int) : Prop := (WrOk L y i ∧ s = ustr L y i ∧ er = 0) ∨ (¬ WrOk L y i ∧ s = ⟨#[]⟩ ∧ er = 1)
theorem printa_ex (L y i : Int) : ∃ s er, PrintA L y i s er := by
  by_cases h : WrOk L y i
  · exact ⟨_, 0, .inl ⟨h, rfl, rfl⟩⟩
  · exact ⟨_, 1, .inr ⟨h, rfl, rfl⟩⟩
/-- what digits of a level may say -/
def NumOk (L i : Int) : Prop := (L = 1 ∧ i = 1) ∨ ((L = 2 ∨ L = 3) ∧ 0 ≤ i ∧ i ≤ 9) ∨ ((L = 4 ∨ L = 5) ∧ 0 ≤ i ∧ i ≤ 99)
/-- s has a unit's form, and says this unit -/
def Form (s : ByteArray) (L y i : Int) : Prop := 0 ≤ y ∧ y ≤ 9999 ∧ NumOk L i ∧ s = ustr L y i
def ParseA (s : ByteArray) (L y i er : Int) : Prop :=
  (Form s L y i ∧ WrOk L y i ∧ er = 0) ∨ (∃ M z j, Form s M z j ∧ ¬ WrOk M z j ∧ L = 0 ∧ y = 0 ∧ i = 0 ∧ er = 13) ∨ ((∀ M z j, ¬ Form s M z j) ∧ L = 0 ∧ y = 0 ∧ i = 0 ∧ er = 5)
theorem parsea_ex (s : ByteArray) : ∃ L y i er, ParseA s L y i er := by
  by_cases h : ∃ M z j, Form s M z j
  · obtain ⟨M, z, j, h⟩ := h
    by_cases k : WrOk M z j
    · exact ⟨M, z, j, 0, .inl ⟨h, k, rfl⟩⟩
    · exact ⟨0, 0, 0, 13, .inr (.inl ⟨M, z, j, h, k, rfl, rfl, rfl, rfl⟩)⟩
  · exact ⟨0, 0, 0, 5, .inr (.inr ⟨fun M z j q => h ⟨M, z, j, q⟩, rfl, rfl, rfl, rfl⟩)⟩
theorem sgn_size {L : Int} (h : 1 ≤ L ∧ L ≤ 5) : (sgn L).size = if L = 1 then 0 else 2 := by
  have : L = 1 ∨ L = 2 ∨ L = 3 ∨ L = 4 ∨ L = 5 := by omega
  rcases this with rfl | rfl | rfl | rfl | rfl <;> rfl
theorem sd_size (L i : Int) : (sd L i).size = dgc L := by
  unfold sd dgc; repeat' split
  all_goals rfl
theorem ustr1 (y i : Int) : ustr 1 y i = s4 y := by
  unfold ustr sgn sd s4; simp only [if_pos]
  rw [ByteArray.mk_append_mk [_, _, _, _] [], ByteArray.mk_append_mk _ []]
  rfl
theorem ustr2 (y i : Int) : ustr 2 y i = ⟨#[dg (y / 1000), dg (y / 100 % 10), dg (y / 10 % 10), dg (y % 10), 45, 72, dg i]⟩ := by
  show s4 y ++ ⟨#[45, 72]⟩ ++ s1 i = _
  unfold s4 s1
  rw [ByteArray.mk_append_mk [_, _, _, _] [45, 72], ByteArray.mk_append_mk _ [_]]
  rfl
theorem ustr3 (y i : Int) : ustr 3 y i = ⟨#[dg (y / 1000), dg (y / 100 % 10), dg (y / 10 % 10), dg (y % 10), 45, 81, dg i]⟩ := by
  show s4 y ++ ⟨#[45, 81]⟩ ++ s1 i = _
  unfold s4 s1
  rw [ByteArray.mk_append_mk [_, _, _, _] [45, 81], ByteArray.mk_append_mk _ [_]]
  rfl
theorem ustr4 (y i : Int) : ustr 4 y i = ⟨#[dg (y / 1000), dg (y / 100 % 10), dg (y / 10 % 10), dg (y % 10), 45, 80, dg (i / 10), dg (i % 10)]⟩ := by
  show s4 y ++ ⟨#[45, 80]⟩ ++ s2 i = _
  unfold s4 s2
  rw [ByteArray.mk_append_mk [_, _, _, _] [45, 80], ByteArray.mk_append_mk _ [_, _]]
  rfl
theorem ustr5 (y i : Int) : ustr 5 y i = ⟨#[dg (y / 1000), dg (y / 100 % 10), dg (y / 10 % 10), dg (y % 10), 45, 87, dg (i / 10), dg (i % 10)]⟩ := by
  show s4 y ++ ⟨#[45, 87]⟩ ++ s2 i = _
  unfold s4 s2
  rw [ByteArray.mk_append_mk [_, _, _, _] [45, 87], ByteArray.mk_append_mk _ [_, _]]
  rfl
theorem most_fits {L i : Int} (h : 1 ≤ L ∧ L ≤ 5) (i0 : 1 ≤ i) (i1 : i ≤ most L) : NumOk L i := by
  have : L = 1 ∨ L = 2 ∨ L = 3 ∨ L = 4 ∨ L = 5 := by omega
  unfold NumOk
  rcases this with rfl | rfl | rfl | rfl | rfl <;> simp [most] at i1 <;> omega
theorem form_of {L y i : Int} (h : WrOk L y i) : Form (ustr L y i) L y i := ⟨by have := h.1; omega, by have := h.2.1; omega, most_fits ⟨h.2.2.1, h.2.2.2.1⟩ h.2.2.2.2.1 h.2.2.2.2.2, rfl⟩
theorem dig4_inj {a b : Int} (a0 : 0 ≤ a) (a1 : a ≤ 9999) (b0 : 0 ≤ b) (b1 : b ≤ 9999) (h1 : dg (a / 1000) = dg (b / 1000)) (h2 : dg (a / 100 % 10) = dg (b / 100 % 10)) (h3 : dg (a / 10 % 10) = dg (b / 10 % 10)) (h4 : dg (a % 10) = dg (b % 10)) : a = b := by
  have := dg_inj (by omega) (by omega) (by omega) (by omega) h1
  have := dg_inj (by omega) (by omega) (by omega) (by omega) h2
  have := dg_inj (by omega) (by omega) (by omega) (by omega) h3
  have := dg_inj (by omega) (by omega) (by omega) (by omega) h4
  omega
/-- a text says one unit -/
theorem form_uniq {s : ByteArray} {L y i M z j : Int} (h : Form s L y i) (k : Form s M z j) : L = M ∧ y = z ∧ i = j := by
  obtain ⟨y0, y1, n, rfl⟩ := h
  obtain ⟨z0, z1, m, e⟩ := k
  have l : L = 1 ∨ L = 2 ∨ L = 3 ∨ L = 4 ∨ L = 5 := by unfold NumOk at n; omega
  have l' : M = 1 ∨ M = 2 ∨ M = 3 ∨ M = 4 ∨ M = 5 := by unfold NumOk at m; omega
  unfold NumOk at n m
  rcases l with rfl | rfl | rfl | rfl | rfl <;> rcases l' with rfl | rfl | rfl | rfl | rfl <;> simp only [ustr1, ustr2, ustr3, ustr4, ustr5, s4] at e <;> injection e with e <;> injection e with e <;> simp only [List.cons.injEq] at e
  all_goals first | (exfalso; revert e; simp; done) | skip
  all_goals have ey := dig4_inj y0 y1 z0 z1 e.1 e.2.1 e.2.2.1 e.2.2.2.1
  · refine ⟨rfl, ey, by omega⟩
  · refine ⟨rfl, ey, dg_inj (by omega) (by omega) (by omega) (by omega) e.2.2.2.2.2.2.1⟩
  · refine ⟨rfl, ey, dg_inj (by omega) (by omega) (by omega) (by omega) e.2.2.2.2.2.2.1⟩
  · have a := dg_inj (by omega) (by omega) (by omega) (by omega) e.2.2.2.2.2.2.1
    have b := dg_inj (by omega) (by omega) (by omega) (by omega) e.2.2.2.2.2.2.2.1
    refine ⟨rfl, ey, by omega⟩
  · have a := dg_inj (by omega) (by omega) (by omega) (by omega) e.2.2.2.2.2.2.1
    have b := dg_inj (by omega) (by omega) (by omega) (by omega) e.2.2.2.2.2.2.2.1
    refine ⟨rfl, ey, by omega⟩

/-! numbers -/
def vl (f : Nat → Int) : Nat → Int
  | 0 => 0
  | n + 1 => 10 * vl f n + f n
def byt (s : ByteArray) (k : Nat) : Int := if h : k < s.size then (s[k].toNat : Int) else 48
def IsDig (b : Int) : Prop := 48 ≤ b ∧ b ≤ 57
def AllDig (s : ByteArray) : Prop := ∀ k, k < s.size → IsDig (byt s k)
def val (s : ByteArray) (n : Nat) : Int := vl (fun k => byt s k - 48) n
theorem byt_at {s : ByteArray} {k : Nat} (h : k < s.size) : byt s k = (s[k].toNat : Int) := by unfold byt; rw [dif_pos h]
theorem byt_bd (s : ByteArray) (k : Nat) : 0 ≤ byt s k ∧ byt s k ≤ 255 := by
  unfold byt
  split
  · have := (s[k]'(by assumption)).toNat_lt; omega
  · omega
theorem val_succ (s : ByteArray) (n : Nat) : val s (n + 1) = 10 * val s n + (byt s n - 48) := rfl
theorem val_nonneg {s : ByteArray} (h : AllDig s) (n : Nat) (hn : n ≤ s.size) : 0 ≤ val s n := by
  induction n with
  | zero => simp [val, vl]
  | succ k ih => have := ih (by omega); have := h k (by omega); unfold IsDig at this; rw [val_succ]; omega
theorem val_mono {s : ByteArray} (h : AllDig s) {a b : Nat} (l : a ≤ b) (hb : b ≤ s.size) : val s a ≤ val s b := by
  induction b with
  | zero => obtain rfl : a = 0 := by omega
            exact Int.le_refl _
  | succ k ih =>
    by_cases e : a = k + 1
    · subst e; exact Int.le_refl _
    · have := ih (by omega) (by omega)
      have := h k (by omega)
      have := val_nonneg h k (by omega)
      unfold IsDig at *
      rw [val_succ]; omega
/-- the text behind a '-', if there is one -/
def neg (s : ByteArray) : Bool := decide (0 < s.size) && (byt s 0 == 45)
def rest (s : ByteArray) : ByteArray := if neg s then s.extract 1 s.size else s
def zeroT : ByteArray := ⟨#[48]⟩
def DecOk (s : ByteArray) : Prop := 0 < (rest s).size ∧ AllDig (rest s) ∧ (byt (rest s) 0 = 48 → s = zeroT)
def dval (s : ByteArray) : Int := if neg s then - val (rest s) (rest s).size else val (rest s) (rest s).size
def Fit64 (n : Int) : Prop := -9223372036854775808 ≤ n ∧ n ≤ 9223372036854775807
instance (n : Int) : Decidable (Fit64 n) := by unfold Fit64; exact inferInstance
def AmountA (s : ByteArray) (v er : Int) : Prop := (DecOk s ∧ Fit64 (dval s) ∧ v = dval s ∧ er = 0) ∨ (DecOk s ∧ ¬ Fit64 (dval s) ∧ v = 0 ∧ er = 2) ∨ (¬ DecOk s ∧ v = 0 ∧ er = 5)
theorem amounta_ex (s : ByteArray) : ∃ v er, AmountA s v er := by
  by_cases h : DecOk s
  · by_cases k : Fit64 (dval s)
    · exact ⟨_, 0, .inl ⟨h, k, rfl, rfl⟩⟩
    · exact ⟨0, 2, .inr (.inl ⟨h, k, rfl, rfl⟩)⟩
  · exact ⟨0, 5, .inr (.inr ⟨h, rfl, rfl⟩)⟩
def SmallA (s : ByteArray) (v er : Int) : Prop := ∃ n e, AmountA s n e ∧ ((e ≠ 0 ∧ v = 0 ∧ er = e) ∨ (e = 0 ∧ ¬ (-999999999 ≤ n ∧ n ≤ 999999999) ∧ v = 0 ∧ er = 2) ∨ (e = 0 ∧ -999999999 ≤ n ∧ n ≤ 999999999 ∧ v = n ∧ er = 0))
theorem smalla_ex (s : ByteArray) : ∃ v er, SmallA s v er := by
  obtain ⟨n, e, h⟩ := amounta_ex s
  by_cases q : e = 0
  · by_cases k : -999999999 ≤ n ∧ n ≤ 999999999
    · exact ⟨n, 0, n, e, h, .inr (.inr ⟨q, k.1, k.2, rfl, rfl⟩)⟩
    · exact ⟨0, 2, n, e, h, .inr (.inl ⟨q, k, rfl, rfl⟩)⟩
  · exact ⟨0, e, n, e, h, .inl ⟨q, rfl, rfl⟩⟩
/-- which level is called so -/
def lname (L : Int) : ByteArray := if L = 1 then ⟨#[121, 101, 97, 114]⟩ else if L = 2 then ⟨#[104, 97, 108, 102]⟩ else if L = 3 then ⟨#[113, 117, 97, 114, 116, 101, 114]⟩ else if L = 4 then ⟨#[112, 101, 114, 105, 111, 100]⟩ else ⟨#[119, 101, 101, 107]⟩
def LevelA (s : ByteArray) (L er : Int) : Prop := (1 ≤ L ∧ L ≤ 5 ∧ s = lname L ∧ er = 0) ∨ ((∀ M : Int, 1 ≤ M → M ≤ 5 → s ≠ lname M) ∧ L = 0 ∧ er = 5)
theorem levela_ex (s : ByteArray) : ∃ L er, LevelA s L er := by
  by_cases h : ∃ M : Int, 1 ≤ M ∧ M ≤ 5 ∧ s = lname M
  · obtain ⟨M, a, b, e⟩ := h
    exact ⟨M, 0, .inl ⟨a, b, e, rfl⟩⟩
  · exact ⟨0, 5, .inr ⟨fun M a b e => h ⟨M, a, b, e⟩, rfl, rfl⟩⟩

end Go.Proofs.YtfjckgnclhpmcaaDoor.Nm
