/- What texts of digits are as decimal numbers; nothing of the program but Amount's answer. -/
import Derived.Test.YtfjckgnclhpmcaaDoorNlive
namespace Go.Proofs.YtfjckgnclhpmcaaDoor.Nl
set_option linter.unusedSimpArgs false
set_option linter.unusedVariables false
open Go.RowKit Go.Proofs.YtfjckgnclhpmcaaDoor.Pr Go.Proofs.YtfjckgnclhpmcaaDoor.Nm Go.Proofs.YtfjckgnclhpmcaaDoor.Wm Go.Proofs.YtfjckgnclhpmcaaDoor.Wc Go.Proofs.YtfjckgnclhpmcaaDoor.Bx Go.Proofs.YtfjckgnclhpmcaaDoor.Fs Go.Proofs.YtfjckgnclhpmcaaDoor.Bn Go.Proofs.YtfjckgnclhpmcaaDoor.Np
open Go.Proofs.YtfjckgnclhpmcaaDoor.Tm (s1 dg)

def minusT : ByteArray := ⟨#[45]⟩
theorem dig_rest {d : ByteArray} (h : AllDig d) : neg d = false ∧ rest d = d := by
  have e : neg d = false := by
    unfold neg
    by_cases z : 0 < d.size
    · have := h 0 z
      unfold IsDig at this
      rw [decide_eq_true z, Bool.true_and]
      exact beq_eq_false_iff_ne.2 (by omega)
    · rw [decide_eq_false z]; rfl
  exact ⟨e, by unfold rest; rw [e]; rfl⟩
theorem minus_rest (d : ByteArray) : neg (minusT ++ d) = true ∧ rest (minusT ++ d) = d := by
  have z : 0 < (minusT ++ d).size := by rw [ByteArray.size_append]; show 0 < 1 + _; omega
  have e : neg (minusT ++ d) = true := by
    unfold neg
    rw [decide_eq_true z, byt_app_left (show 0 < minusT.size by decide)]
    rfl
  exact ⟨e, by unfold rest; rw [if_pos e]; exact ByteArray.extract_append_eq_right rfl ByteArray.size_append⟩
theorem minus_ne (d : ByteArray) : minusT ++ d ≠ zeroT := fun e => by
  have h : byt (minusT ++ d) 0 = byt zeroT 0 := by rw [e]
  rw [byt_app_left (show 0 < minusT.size by decide)] at h
  exact absurd h (by decide)
theorem dec_pos {d : ByteArray} (h : AllDig d) (z : 0 < d.size) (h0 : byt d 0 ≠ 48) : DecOk d ∧ dval d = val d d.size := by
  have r := dig_rest h
  refine ⟨⟨by rw [r.2]; exact z, by rw [r.2]; exact h, fun e => by rw [r.2] at e; exact absurd e h0⟩, ?_⟩
  unfold dval; rw [r.1, r.2]; rfl
theorem dec_neg {d : ByteArray} (h : AllDig d) (z : 0 < d.size) (h0 : byt d 0 ≠ 48) : DecOk (minusT ++ d) ∧ dval (minusT ++ d) = - val d d.size := by
  have r := minus_rest d
  refine ⟨⟨by rw [r.2]; exact z, by rw [r.2]; exact h, fun e => by rw [r.2] at e; exact absurd e h0⟩, ?_⟩
  unfold dval; rw [r.1, r.2]; rfl
theorem dec_zero : DecOk zeroT ∧ dval zeroT = 0 := by
  have h : AllDig zeroT := fun k hk => by
    have hk' : k < 1 := hk
    obtain rfl : k = 0 := by omega
    unfold IsDig; decide
  have r := dig_rest h
  refine ⟨⟨by rw [r.2]; decide, by rw [r.2]; exact h, fun _ => rfl⟩, ?_⟩
  unfold dval; rw [r.1, r.2]; decide
theorem nought_dig {d : ByteArray} (h : AllDig d) : AllDig (zeroT ++ d) ∧ byt (zeroT ++ d) 0 = 48 := by
  refine ⟨alldig_app (fun k hk => ?_) h, by rw [byt_app_left (show 0 < zeroT.size by decide)]; rfl⟩
  have hk' : k < 1 := hk
  obtain rfl : k = 0 := by omega
  unfold IsDig; decide
theorem bad_pos {d : ByteArray} (h : AllDig d) (z : 0 < d.size) : ¬ DecOk (zeroT ++ d) := by
  have n := nought_dig h
  have r := dig_rest n.1
  intro k
  have := k.2.2 (by rw [r.2]; exact n.2)
  have := congrArg ByteArray.size this
  rw [ByteArray.size_append] at this
  have e : zeroT.size = 1 := rfl
  omega
theorem bad_neg {d : ByteArray} (h : byt d 0 = 48) : ¬ DecOk (minusT ++ d) := by
  have r := minus_rest d
  intro k
  exact minus_ne d (k.2.2 (by rw [r.2]; exact h))
theorem last_bad {t u : ByteArray} {b : UInt8} (hu : u = ⟨#[b]⟩) (hb : ¬ IsDig (b.toNat : Int)) : ¬ AllDig (t ++ u) := by
  subst hu
  intro h
  have := h t.size (by rw [ByteArray.size_append]; show t.size < t.size + 1; omega)
  have e := byt_app_right (s := t) (t := ⟨#[b]⟩) (k := 0) (show 0 < 1 by decide)
  rw [Nat.add_zero] at e
  rw [e] at this
  exact hb this
theorem end_bad {t u : ByteArray} {b : UInt8} (hu : u = ⟨#[b]⟩) (hb : ¬ IsDig (b.toNat : Int)) (hz : 0 < t.size) (ht : AllDig t) : ¬ DecOk (t ++ u) := by
  have e : neg (t ++ u) = false := by
    unfold neg
    have := ht 0 hz
    unfold IsDig at this
    rw [byt_app_left hz, beq_eq_false_iff_ne.2 (by omega), Bool.and_false]
  intro k
  have := k.2.1
  unfold rest at this
  rw [e] at this
  exact last_bad hu hb this
theorem end_badm {t u : ByteArray} {b : UInt8} (hu : u = ⟨#[b]⟩) (hb : ¬ IsDig (b.toNat : Int)) : ¬ DecOk (minusT ++ t ++ u) := by
  rw [ByteArray.append_assoc]
  have r := minus_rest (t ++ u)
  intro k
  have := k.2.1
  rw [r.2] at this
  exact last_bad hu hb this

/-- what a number's digits are read as: n, its text s, its text with a nought ahead, and s with a blank behind -/
structure Told (n : Int) (s bad : ByteArray) : Prop where
  size : s.size ≤ 20
  bsize : bad.size ≤ 21
  amt : AmountA s n 0
  bad : AmountA bad 0 5
  blank : AmountA (s ++ ⟨#[32]⟩) 0 5
theorem told_zero : Told 0 zeroT ⟨#[45, 48]⟩ := by
  have h : AllDig zeroT := fun k hk => by
    have hk' : k < 1 := hk
    obtain rfl : k = 0 := by omega
    unfold IsDig; decide
  refine ⟨by decide, by decide, .inl ⟨dec_zero.1, by rw [dec_zero.2]; unfold Fit64; omega, dec_zero.2.symm, rfl⟩, .inr (.inr ⟨?_, rfl, rfl⟩), .inr (.inr ⟨end_bad rfl (by unfold IsDig; decide) (by decide) h, rfl, rfl⟩)⟩
  have : (⟨#[45, 48]⟩ : ByteArray) = minusT ++ zeroT := by
    unfold minusT zeroT
    rw [ByteArray.mk_append_mk [45] [48]]; rfl
  rw [this]
  exact bad_neg (by decide)
theorem told_pos {n : Int} {s : ByteArray} (h : Digs n 0 s) (n0 : 0 < n) (n1 : n ≤ 9223372036854775807) (z : s.size ≤ 19) : Told n s (zeroT ++ s) := by
  have hv : n = val s s.size := by have := h.v; omega
  have z0 : 0 < s.size := by
    by_cases q : 0 < s.size
    · exact q
    · have : s.size = 0 := by omega
      rw [this] at hv
      have : val s 0 = 0 := rfl
      omega
  have b0 := h.z rfl z0
  have d := dec_pos h.d z0 b0
  refine ⟨by omega, by rw [ByteArray.size_append]; show 1 + _ ≤ 21; omega, .inl ⟨d.1, by rw [d.2, ← hv]; unfold Fit64; omega, by rw [d.2, ← hv], rfl⟩, .inr (.inr ⟨bad_pos h.d z0, rfl, rfl⟩), .inr (.inr ⟨end_bad rfl (by unfold IsDig; decide) z0 h.d, rfl, rfl⟩)⟩
theorem told_neg {n : Int} {s : ByteArray} (h : Digs (-n) 0 s) (n0 : n < 0) (n1 : -9223372036854775808 ≤ n) (z : s.size ≤ 19) : Told n (minusT ++ s) (minusT ++ (zeroT ++ s)) := by
  have hv : -n = val s s.size := by have := h.v; omega
  have z0 : 0 < s.size := by
    by_cases q : 0 < s.size
    · exact q
    · have : s.size = 0 := by omega
      rw [this] at hv
      have : val s 0 = 0 := rfl
      omega
  have b0 := h.z rfl z0
  have d := dec_neg h.d z0 b0
  refine ⟨by rw [ByteArray.size_append]; show 1 + _ ≤ 20; omega, by rw [ByteArray.size_append, ByteArray.size_append]; show 1 + (1 + _) ≤ 21; omega, .inl ⟨d.1, by rw [d.2, ← hv]; unfold Fit64; omega, by rw [d.2, ← hv]; omega, rfl⟩,
    .inr (.inr ⟨bad_neg (nought_dig h.d).2, rfl, rfl⟩), .inr (.inr ⟨end_badm rfl (by unfold IsDig; decide), rfl, rfl⟩)⟩

/-- more than nineteen digits -/
theorem told_over {n : Int} {s t : ByteArray} (h : Digs n 0 s) (n0 : 0 < n) (ht : AllDig t) (z : 20 ≤ (s ++ t).size) : AmountA (s ++ t) 0 2 ∧ AmountA (minusT ++ (s ++ t)) 0 2 ∧ AmountA (s ++ t ++ ⟨#[120]⟩) 0 5 := by
  have hv : n = val s s.size := by have := h.v; omega
  have z0 : 0 < s.size := by
    by_cases q : 0 < s.size
    · exact q
    · have : s.size = 0 := by omega
      rw [this] at hv
      have : val s 0 = 0 := rfl
      omega
  have b0 := h.z rfl z0
  have ad := alldig_app h.d ht
  have b1 : byt (s ++ t) 0 ≠ 48 := by rw [byt_app_left z0]; exact b0
  obtain ⟨k, hk⟩ : ∃ k, (s ++ t).size = k + 1 := ⟨(s ++ t).size - 1, by omega⟩
  have ge := val_ge ad b1 k (by omega)
  have p := pow_up (a := 19) (b := k) (by omega)
  rw [← hk] at ge
  have dp := dec_pos ad (by omega) b1
  have dn := dec_neg ad (by omega) b1
  refine ⟨.inr (.inl ⟨dp.1, by rw [dp.2]; unfold Fit64; omega, rfl, rfl⟩), .inr (.inl ⟨dn.1, by rw [dn.2]; unfold Fit64; omega, rfl, rfl⟩), .inr (.inr ⟨end_bad rfl (by unfold IsDig; decide) (by omega) ad, rfl, rfl⟩)⟩

end Go.Proofs.YtfjckgnclhpmcaaDoor.Nl
