/- Plain facts for the laws of layer 7: texts go up as days do; nothing of the program. -/
import Derived.Test.YtfjckgnclhpmcaaDoorTmath
import GoSem.Op.String
namespace Go.Proofs.YtfjckgnclhpmcaaDoor.Tm
set_option linter.unusedSimpArgs false
set_option linter.unusedVariables false
open Go.Proofs.YtfjckgnclhpmcaaDoor.Cm Go.Proofs.YtfjckgnclhpmcaaDoor.Em
open Go.Op (bytesLess)

theorem bl_append {p q x y : List UInt8} (h : p.length = q.length) : bytesLess (p ++ x) (q ++ y) = (bytesLess p q || (p == q && bytesLess x y)) := by
  induction p generalizing q with
  | nil =>
    obtain rfl : q = [] := List.length_eq_zero_iff.1 h.symm
    simp [bytesLess]
  | cons a p ih =>
    match q, h with
    | b :: q, h =>
      have h' : p.length = q.length := by simpa using h
      simp only [List.cons_append, bytesLess, ih h']
      have e : (a :: p == b :: q) = ((a == b) && (p == q)) := rfl
      rw [e]
      cases decide (a < b) <;> cases (a == b) <;> cases bytesLess p q <;> simp
theorem dg_lt {a b : Int} (a0 : 0 ≤ a) (a1 : a ≤ 9) (b0 : 0 ≤ b) (b1 : b ≤ 9) : (dg a < dg b) ↔ a < b := by
  rw [UInt8.lt_iff_toNat_lt, dg_nat a0 a1, dg_nat b0 b1]; omega
theorem dg_eq {a b : Int} (a0 : 0 ≤ a) (a1 : a ≤ 9) (b0 : 0 ≤ b) (b1 : b ≤ 9) : (dg a = dg b) ↔ a = b := ⟨fun h => dg_inj a0 a1 b0 b1 h, fun h => by rw [h]⟩
theorem less4 {y z : Int} (y0 : 0 ≤ y) (y1 : y ≤ 9999) (z0 : 0 ≤ z) (z1 : z ≤ 9999) :
    bytesLess [dg (y / 1000), dg (y / 100 % 10), dg (y / 10 % 10), dg (y % 10)] [dg (z / 1000), dg (z / 100 % 10), dg (z / 10 % 10), dg (z % 10)] = decide (y < z) ∧
    ([dg (y / 1000), dg (y / 100 % 10), dg (y / 10 % 10), dg (y % 10)] == [dg (z / 1000), dg (z / 100 % 10), dg (z / 10 % 10), dg (z % 10)]) = decide (y = z) := by
  have l1 := dg_lt (a := y / 1000) (b := z / 1000) (by omega) (by omega) (by omega) (by omega)
  have l2 := dg_lt (a := y / 100 % 10) (b := z / 100 % 10) (by omega) (by omega) (by omega) (by omega)
  have l3 := dg_lt (a := y / 10 % 10) (b := z / 10 % 10) (by omega) (by omega) (by omega) (by omega)
  have l4 := dg_lt (a := y % 10) (b := z % 10) (by omega) (by omega) (by omega) (by omega)
  have e1 := dg_eq (a := y / 1000) (b := z / 1000) (by omega) (by omega) (by omega) (by omega)
  have e2 := dg_eq (a := y / 100 % 10) (b := z / 100 % 10) (by omega) (by omega) (by omega) (by omega)
  have e3 := dg_eq (a := y / 10 % 10) (b := z / 10 % 10) (by omega) (by omega) (by omega) (by omega)
  have e4 := dg_eq (a := y % 10) (b := z % 10) (by omega) (by omega) (by omega) (by omega)
  constructor
  · rw [Bool.eq_iff_iff]
    simp only [bytesLess, Bool.or_eq_true, Bool.and_eq_true, beq_iff_eq, decide_eq_true_eq, l1, l2, l3, l4, e1, e2, e3, e4, Bool.or_false, Bool.and_false, Bool.false_eq_true, and_false, or_false]
    omega
  · rw [Bool.eq_iff_iff]
    simp only [beq_iff_eq, decide_eq_true_eq, List.cons.injEq, e1, e2, e3, e4, and_true]
    omega
theorem less2 {y z : Int} (y0 : 0 ≤ y) (y1 : y ≤ 99) (z0 : 0 ≤ z) (z1 : z ≤ 99) :
    bytesLess [dg (y / 10), dg (y % 10)] [dg (z / 10), dg (z % 10)] = decide (y < z) ∧ ([dg (y / 10), dg (y % 10)] == [dg (z / 10), dg (z % 10)]) = decide (y = z) := by
  have l1 := dg_lt (a := y / 10) (b := z / 10) (by omega) (by omega) (by omega) (by omega)
  have l2 := dg_lt (a := y % 10) (b := z % 10) (by omega) (by omega) (by omega) (by omega)
  have e1 := dg_eq (a := y / 10) (b := z / 10) (by omega) (by omega) (by omega) (by omega)
  have e2 := dg_eq (a := y % 10) (b := z % 10) (by omega) (by omega) (by omega) (by omega)
  constructor
  · rw [Bool.eq_iff_iff]
    simp only [bytesLess, Bool.or_eq_true, Bool.and_eq_true, beq_iff_eq, decide_eq_true_eq, l1, l2, e1, e2, Bool.or_false, Bool.and_false, Bool.false_eq_true, and_false, or_false]
    omega
  · rw [Bool.eq_iff_iff]
    simp only [beq_iff_eq, decide_eq_true_eq, List.cons.injEq, e1, e2, and_true]
    omega
theorem less1 {y z : Int} (y0 : 0 ≤ y) (y1 : y ≤ 9) (z0 : 0 ≤ z) (z1 : z ≤ 9) : bytesLess [dg y] [dg z] = decide (y < z) := by
  have l1 := dg_lt (a := y) (b := z) y0 y1 z0 z1
  rw [Bool.eq_iff_iff]
  simp [bytesLess, l1]

theorem dstr_list (y m d : Int) : (dstr y m d).toList = [dg (y / 1000), dg (y / 100 % 10), dg (y / 10 % 10), dg (y % 10)] ++ ([45] ++ ([dg (m / 10), dg (m % 10)] ++ ([45] ++ [dg (d / 10), dg (d % 10)]))) := ByteArray.toList_mk [_, _, _, _, _, _, _, _, _, _]
theorem istr_list (y k d : Int) : (istr y k d).toList = [dg (y / 1000), dg (y / 100 % 10), dg (y / 10 % 10), dg (y % 10)] ++ ([45, 87] ++ ([dg (k / 10), dg (k % 10)] ++ ([45] ++ [dg d]))) := ByteArray.toList_mk [_, _, _, _, _, _, _, _, _, _]

/-- days' texts go up as days do -/
theorem dates_less {y m d y' m' d' : Int} (h : DateOk y m d) (h' : DateOk y' m' d') : bytesLess (dstr y m d).toList (dstr y' m' d').toList = decide (num y m d < num y' m' d') := by
  have l := mlen_bd y m
  have l' := mlen_bd y' m'
  have nl := num_less h h'
  obtain ⟨⟨a0, a1, a2, a3⟩, a4, a5⟩ := h
  obtain ⟨⟨b0, b1, b2, b3⟩, b4, b5⟩ := h'
  obtain ⟨f1, f2⟩ := less4 (y := y) (z := y') (by omega) (by omega) (by omega) (by omega)
  obtain ⟨g1, g2⟩ := less2 (y := m) (z := m') (by omega) (by omega) (by omega) (by omega)
  obtain ⟨k1, k2⟩ := less2 (y := d) (z := d') (by omega) (by omega) (by omega) (by omega)
  rw [dstr_list, dstr_list, bl_append, bl_append, bl_append, bl_append, f1, f2, g1, g2, k1, Bool.eq_iff_iff]
  have z : bytesLess [(45 : UInt8)] [45] = false := by decide
  have z2 : (([45] : List UInt8) == [45]) = true := by decide
  rw [z, z2]
  simp only [Bool.or_eq_true, Bool.and_eq_true, decide_eq_true_eq, Bool.false_or, Bool.true_and]
  rw [nl]
  omega
  all_goals rfl
theorem inum_lt {y k d y' k' d' : Int} (h : IsoOk y k d) (h' : IsoOk y' k' d') (l : y < y' ∨ (y = y' ∧ (k < k' ∨ (k = k' ∧ d < d')))) : inum y k d < inum y' k' d' := by
  obtain ⟨_, _, k0, k1, d0, d1, _, _⟩ := h
  obtain ⟨_, _, k2, k3, d2, d3, _, _⟩ := h'
  unfold inum
  rcases l with l | ⟨rfl, l | ⟨rfl, l⟩⟩
  · have := fm_mono (a := y + 1) (b := y') (by omega)
    omega
  · omega
  · omega
theorem inum_less {y k d y' k' d' : Int} (h : IsoOk y k d) (h' : IsoOk y' k' d') : inum y k d < inum y' k' d' ↔ (y < y' ∨ (y = y' ∧ (k < k' ∨ (k = k' ∧ d < d')))) := by
  constructor
  · intro l
    rcases Int.lt_trichotomy y y' with a | a | a
    · exact .inl a
    · rcases Int.lt_trichotomy k k' with b | b | b
      · exact .inr ⟨a, .inl b⟩
      · rcases Int.lt_trichotomy d d' with j | j | j
        · exact .inr ⟨a, .inr ⟨b, j⟩⟩
        · subst a b j; omega
        · have := inum_lt h' h (.inr ⟨a.symm, .inr ⟨b.symm, j⟩⟩); omega
      · have := inum_lt h' h (.inr ⟨a.symm, .inl b⟩); omega
    · have := inum_lt h' h (.inl a); omega
  · exact inum_lt h h'
theorem isos_less {y k d y' k' d' : Int} (h : IsoOk y k d) (h' : IsoOk y' k' d') : bytesLess (istr y k d).toList (istr y' k' d').toList = decide (inum y k d < inum y' k' d') := by
  have l := weeks_le h
  have l' := weeks_le h'
  have nl := inum_less h h'
  obtain ⟨a0, a1, a2, _, a4, a5, _, _⟩ := h
  obtain ⟨b0, b1, b2, _, b4, b5, _, _⟩ := h'
  obtain ⟨f1, f2⟩ := less4 (y := y) (z := y') (by omega) (by omega) (by omega) (by omega)
  obtain ⟨g1, g2⟩ := less2 (y := k) (z := k') (by omega) (by omega) (by omega) (by omega)
  have k1 := less1 (y := d) (z := d') (by omega) (by omega) (by omega) (by omega)
  rw [istr_list, istr_list, bl_append, bl_append, bl_append, bl_append, f1, f2, g1, g2, k1, Bool.eq_iff_iff]
  have z : bytesLess [(45 : UInt8)] [45] = false := by decide
  have z2 : (([45] : List UInt8) == [45]) = true := by decide
  have z3 : bytesLess [(45 : UInt8), 87] [45, 87] = false := by decide
  have z4 : (([45, 87] : List UInt8) == [45, 87]) = true := by decide
  rw [z, z2, z3, z4]
  simp only [Bool.or_eq_true, Bool.and_eq_true, decide_eq_true_eq, Bool.false_or, Bool.true_and]
  rw [nl]
  omega
  all_goals rfl

/-- a day's two texts -/
theorem both_ex {n : Int} (h0 : 0 ≤ n) (h1 : n ≤ 3068036) : ∃ y m d a b c, DateOk y m d ∧ num y m d = n ∧ IsoOk a b c ∧ inum a b c = n := by
  obtain ⟨y, m, d, e1, e2⟩ := num_ex h0 h1
  obtain ⟨a, b, c, e3, e4⟩ := iso_ex h0 h1
  exact ⟨y, m, d, a, b, c, e1, e2, e3, e4⟩
theorem date_range {y m d : Int} (h : DateOk y m d) : 0 ≤ y ∧ y ≤ 9999 ∧ 0 ≤ m ∧ m ≤ 99 ∧ 0 ≤ d ∧ d ≤ 99 := by
  have l := mlen_bd y m
  obtain ⟨⟨a0, a1, a2, a3⟩, a4, a5⟩ := h
  omega
theorem iso_range {y k d : Int} (h : IsoOk y k d) : 0 ≤ y ∧ y ≤ 9999 ∧ 0 ≤ k ∧ k ≤ 99 ∧ 0 ≤ d ∧ d ≤ 9 := by
  have l := weeks_le h
  obtain ⟨a0, a1, a2, _, a4, a5, _, _⟩ := h
  omega
/-- of any text: it is a day's, or an ISO day's, or none's; which number it has -/
def ReadAs (s : ByteArray) (v g u f : Int) : Prop :=
  (g = 0 ∧ f = 5 ∧ u = 0 ∧ 0 ≤ v ∧ v ≤ 3068036 ∧ PrRes v s 0) ∨ (g = 5 ∧ v = 0 ∧ f = 0 ∧ 0 ≤ u ∧ u ≤ 3068036 ∧ PiRes u s 0) ∨ ((g = 4 ∨ g = 5) ∧ (f = 4 ∨ f = 5) ∧ v = 0 ∧ u = 0)
theorem read_as {s : ByteArray} {v g u f : Int} (R1 : PaRes s v g) (R2 : PsRes s u f) : ReadAs s v g u f := by
  rcases R1 with ⟨y, m, d, y0, y1, m0, m1, d0, d1, hs, ⟨ok, hv, rfl⟩ | ⟨no, rfl, rfl⟩⟩ | ⟨L, rfl, rfl⟩
  · rcases R2 with ⟨a, b, c, a0, a1, b0, b1, c0, c1, hs', _⟩ | ⟨L, rfl, rfl⟩
    · exact (not_both (s := s) (by rw [hs]; exact date_like y0 y1 m0 m1 d0 d1) (by rw [hs']; exact iso_like a0 a1 b0 b1 c0 c1)).elim
    · have r := num_range ok
      rw [← hv] at r
      exact .inl ⟨rfl, rfl, rfl, r.1, r.2, .inl ⟨r.1, r.2, y, m, d, ok, hv.symm, hs, rfl⟩⟩
  · rcases R2 with ⟨a, b, c, a0, a1, b0, b1, c0, c1, hs', _⟩ | ⟨L, rfl, rfl⟩
    · exact (not_both (s := s) (by rw [hs]; exact date_like y0 y1 m0 m1 d0 d1) (by rw [hs']; exact iso_like a0 a1 b0 b1 c0 c1)).elim
    · exact .inr (.inr ⟨.inl rfl, .inr rfl, rfl, rfl⟩)
  · rcases R2 with ⟨a, b, c, a0, a1, b0, b1, c0, c1, hs', ⟨ok, hv, rfl⟩ | ⟨no, rfl, rfl⟩⟩ | ⟨L, rfl, rfl⟩
    · have r0 := ok.2.2.2.2.2.2.1
      have r1 := ok.2.2.2.2.2.2.2
      rw [← hv] at r0 r1
      exact .inr (.inl ⟨rfl, rfl, rfl, r0, r1, .inl ⟨r0, r1, a, b, c, ok, hv.symm, hs', rfl⟩⟩)
    · exact .inr (.inr ⟨.inr rfl, .inl rfl, rfl, rfl⟩)
    · exact .inr (.inr ⟨.inr rfl, .inr rfl, rfl, rfl⟩)

end Go.Proofs.YtfjckgnclhpmcaaDoor.Tm
