/- Units' texts in order, and the digits of numbers; plain mathematics, nothing of the program. -/
import Derived.Test.YtfjckgnclhpmcaaDoorNlaw
namespace Go.Proofs.YtfjckgnclhpmcaaDoor.Nm
set_option linter.unusedSimpArgs false
set_option linter.unusedVariables false
open Go.Proofs.YtfjckgnclhpmcaaDoor.Tm
open Go.Op (bytesLess)

/-! the order of units' texts -/
theorem ustr_list {L y i : Int} : (ustr L y i).toList = [dg (y / 1000), dg (y / 100 % 10), dg (y / 10 % 10), dg (y % 10)] ++ ((sgn L).toList ++ (sd L i).toList) := by
  unfold ustr
  simp only [ByteArray.toList_eq, ByteArray.data_append, Array.toList_append, List.append_assoc]
  rfl
theorem bl_self (l : List UInt8) : bytesLess l l = false := by
  induction l with
  | nil => rfl
  | cons a l ih => simp [bytesLess, ih]
theorem sd_less {L i j : Int} (hL : 1 ≤ L ∧ L ≤ 5) (hi : NumOk L i) (hj : NumOk L j) : bytesLess (sd L i).toList (sd L j).toList = decide (i < j) := by
  have O : L = 1 ∨ (L = 2 ∨ L = 3) ∨ (L = 4 ∨ L = 5) := by omega
  unfold NumOk at hi hj
  rcases O with rfl | O | O
  · have e : i = j := by omega
    subst e
    rw [bl_self, decide_eq_false (by omega)]
  · have a : sd L i = s1 i := by rcases O with rfl | rfl <;> rfl
    have b : sd L j = s1 j := by rcases O with rfl | rfl <;> rfl
    rw [a, b]
    have e : ∀ n : Int, (s1 n).toList = [dg n] := fun n => ByteArray.toList_mk [_]
    rw [e, e]
    exact less1 (by omega) (by omega) (by omega) (by omega)
  · have a : sd L i = s2 i := by rcases O with rfl | rfl <;> rfl
    have b : sd L j = s2 j := by rcases O with rfl | rfl <;> rfl
    rw [a, b]
    have e : ∀ n : Int, (s2 n).toList = [dg (n / 10), dg (n % 10)] := fun n => ByteArray.toList_mk [_, _]
    rw [e, e]
    exact (less2 (by omega) (by omega) (by omega) (by omega)).1
theorem ustr_less {L y i z j : Int} (h : WrOk L y i) (k : WrOk L z j) : bytesLess (ustr L y i).toList (ustr L z j).toList = (decide (y < z) || (decide (y = z) && decide (i < j))) := by
  have hL : 1 ≤ L ∧ L ≤ 5 := ⟨h.2.2.1, h.2.2.2.1⟩
  rw [ustr_list, ustr_list, bl_append (by rfl), bl_append (by rfl), bl_self, sd_less hL (form_of h).2.2.1 (form_of k).2.2.1,
    (less4 (by have := h.1; omega) (by have := h.2.1; omega) (by have := k.1; omega) (by have := k.2.1; omega)).1]
  by_cases e : y = z
  · subst e; simp
  · have : ([dg (y / 1000), dg (y / 100 % 10), dg (y / 10 % 10), dg (y % 10)] == [dg (z / 1000), dg (z / 100 % 10), dg (z / 10 % 10), dg (z % 10)]) = false := by
      apply beq_eq_false_iff_ne.2
      intro q
      simp only [List.cons.injEq] at q
      exact e (dig4_inj (by have := h.1; omega) (by have := h.2.1; omega) (by have := k.1; omega) (by have := k.2.1; omega) q.1 q.2.1 q.2.2.1 q.2.2.2.1)
    rw [this]
    simp [e]
theorem ustr_same {L y i z j : Int} (h : WrOk L y i) (k : WrOk L z j) : ustr L y i = ustr L z j ↔ (y = z ∧ i = j) := by
  constructor
  · intro e
    have a := form_of h
    have b := form_of k
    rw [← e] at b
    exact (form_uniq a b).2
  · rintro ⟨rfl, rfl⟩; rfl

/-! digits put together -/
theorem byt_app_left {s t : ByteArray} {k : Nat} (h : k < s.size) : byt (s ++ t) k = byt s k := by
  rw [byt_at (by rw [ByteArray.size_append]; omega), byt_at h, ByteArray.getElem_append_left h]
theorem byt_app_right {s t : ByteArray} {k : Nat} (h : k < t.size) : byt (s ++ t) (s.size + k) = byt t k := by
  rw [byt_at (by rw [ByteArray.size_append]; omega), byt_at h, ByteArray.getElem_append_right (by omega)]
  congr 2
  simp
theorem val_app_left {s t : ByteArray} (n : Nat) (h : n ≤ s.size) : val (s ++ t) n = val s n := by
  induction n with
  | zero => rfl
  | succ k ih => rw [val_succ, val_succ, ih (by omega), byt_app_left (by omega)]
theorem val_app_right {s t : ByteArray} (n : Nat) (h : n ≤ t.size) : val (s ++ t) (s.size + n) = val s s.size * 10 ^ n + val t n := by
  induction n with
  | zero => rw [Nat.add_zero, val_app_left _ (Nat.le_refl _)]; simp [val, vl]
  | succ k ih =>
    rw [show s.size + (k + 1) = (s.size + k) + 1 by omega, val_succ, val_succ, ih (by omega), byt_app_right (by omega), Int.pow_succ]
    have : val s s.size * (10 ^ k * 10) = 10 * (val s s.size * 10 ^ k) := by rw [← Int.mul_assoc, Int.mul_comm]
    omega
theorem alldig_app {s t : ByteArray} (h : AllDig s) (k : AllDig t) : AllDig (s ++ t) := by
  intro i hi
  rw [ByteArray.size_append] at hi
  by_cases q : i < s.size
  · rw [byt_app_left q]; exact h i q
  · obtain ⟨j, rfl⟩ : ∃ j, i = s.size + j := ⟨i - s.size, by omega⟩
    rw [byt_app_right (by omega)]
    exact k j (by omega)
theorem s1_dig {d : Int} (h0 : 0 ≤ d) (h1 : d ≤ 9) : AllDig (s1 d) ∧ val (s1 d) 1 = d ∧ byt (s1 d) 0 = 48 + d := by
  have v := dg_val h0 h1
  refine ⟨fun k hk => ?_, ?_, ?_⟩
  · have hk' : k < 1 := hk
    obtain rfl : k = 0 := by omega
    exact dig_dg h0 h1
  · show 10 * 0 + (((dg d).toNat : Int) - 48) = _
    omega
  · show ((dg d).toNat : Int) = _
    exact v
theorem val_lt {s : ByteArray} (h : AllDig s) (n : Nat) (hn : n ≤ s.size) : val s n < 10 ^ n := by
  induction n with
  | zero => simp [val, vl]
  | succ k ih =>
    have a := ih (by omega)
    have b := h k (by omega)
    unfold IsDig at b
    rw [val_succ, Int.pow_succ]
    omega
theorem val_ge {s : ByteArray} (h : AllDig s) (h0 : byt s 0 ≠ 48) (n : Nat) (hn : n + 1 ≤ s.size) : (10 : Int) ^ n ≤ val s (n + 1) := by
  induction n with
  | zero =>
    have b := h 0 (by omega)
    unfold IsDig at b
    rw [val_succ]
    show (1 : Int) ≤ 10 * 0 + _
    omega
  | succ k ih =>
    have a := ih (by omega)
    have b := h (k + 1) (by omega)
    unfold IsDig at b
    rw [val_succ, Int.pow_succ]
    omega
/-- s holds the last digits of a, of which m is left -/
structure Digs (a m : Int) (s : ByteArray) : Prop where
  d : AllDig s
  v : a = m * 10 ^ s.size + val s s.size
  z : m = 0 → 0 < s.size → byt s 0 ≠ 48
theorem Digs.start (a : Int) : Digs a a ⟨#[]⟩ := ⟨fun k hk => absurd (show k < 0 from hk) (by omega), by show a = a * 10 ^ 0 + 0; simp, fun _ h => absurd (show 0 < 0 from h) (by omega)⟩
theorem Digs.step {a m : Int} {s : ByteArray} (h : Digs a m s) (m0 : 0 < m) : Digs a (m / 10) (s1 (m % 10) ++ s) := by
  have e := s1_dig (d := m % 10) (by omega) (by omega)
  refine ⟨alldig_app e.1 h.d, ?_, fun q _ => ?_⟩
  · have := val_app_right (s := s1 (m % 10)) (t := s) s.size (Nat.le_refl _)
    rw [ByteArray.size_append]
    rw [this, s1_size, e.2.1, Nat.add_comm, Int.pow_succ]
    have hv := h.v
    have p : m * 10 ^ s.size = (m / 10) * (10 ^ s.size * 10) + (m % 10) * 10 ^ s.size := by
      rw [Int.mul_comm (10 ^ s.size) 10, ← Int.mul_assoc, ← Int.add_mul]
      congr 1
      omega
    omega
  · rw [byt_app_left (by rw [s1_size]; omega), e.2.2]
    omega
theorem pow_up {a b : Nat} (h : a ≤ b) : (10 : Int) ^ a ≤ 10 ^ b := by
  have := Nat.pow_le_pow_right (n := 10) (by decide) h
  exact_mod_cast this
theorem Digs.small {a m : Int} {s : ByteArray} (h : Digs a m s) (m0 : 0 < m) (a1 : a < 10 ^ 19) : s.size < 19 := by
  by_cases q : s.size < 19
  · exact q
  · have n := val_nonneg h.d s.size (Nat.le_refl _)
    have p : (10 : Int) ^ 19 ≤ 10 ^ s.size := pow_up (by omega)
    have p2 : (10 : Int) ^ s.size ≤ m * 10 ^ s.size := by
      have : (1 : Int) * 10 ^ s.size ≤ m * 10 ^ s.size := Int.mul_le_mul_of_nonneg_right (by omega) (by omega)
      omega
    have := h.v
    omega

end Go.Proofs.YtfjckgnclhpmcaaDoor.Nm
