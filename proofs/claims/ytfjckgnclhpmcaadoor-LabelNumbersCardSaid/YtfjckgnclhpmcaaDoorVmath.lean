/- Plain facts for package wide: bits of two words; nothing of the program. -/
import Derived.RowKit
import Derived.Laws.BitsAllLaws
namespace Go.Proofs.YtfjckgnclhpmcaaDoor.Vm
set_option linter.unusedSimpArgs false
set_option linter.unusedVariables false
open Go.RowKit (wrap32 wrap64)

theorem xor_all (b : Nat) (hb : b < 18446744073709551616) : 18446744073709551615 ^^^ b = 18446744073709551615 - b := by
  have h := congrArg BitVec.toNat (BitVec.allOnes_xor (x := BitVec.ofNat 64 b))
  rw [BitVec.toNat_xor, BitVec.toNat_not, BitVec.toNat_allOnes, BitVec.toNat_ofNat, Nat.mod_eq_of_lt hb] at h
  exact h

theorem u64_not {a : Int} (h1 : 0 ≤ a) (h2 : a ≤ 18446744073709551615) : bits .xor .u64 IntKind.u64.max a = 18446744073709551615 - a := by
  have e : IntKind.u64.max = 18446744073709551615 := rfl
  rw [e, u64_xor 18446744073709551615 a (by omega) (by omega) h1 (by omega)]
  have h := xor_all a.toNat (by omega)
  have e2 : (18446744073709551615 : Int).toNat = 18446744073709551615 := rfl
  rw [e2, h]
  omega

/-- a word whose low half is empty, and a half -/
theorem or_half {x y : Int} (hx0 : 0 ≤ x) (hx1 : x ≤ 18446744073709551615) (hx : x % 4294967296 = 0) (hy0 : 0 ≤ y) (hy1 : y ≤ 4294967295) : bits .or .u64 x y = x + y := by
  rw [u64_or x y hx0 (by omega) hy0 (by omega)]
  have h := Nat.shiftLeft_add_eq_or_of_lt (b := y.toNat) (i := 32) (by omega) (x.toNat / 4294967296)
  have e : (x.toNat / 4294967296) <<< 32 = x.toNat := by rw [Nat.shiftLeft_eq]; omega
  rw [e] at h
  rw [← h]
  omega

/-- an even word, and a bit -/
theorem or_bit {x y : Int} (hx0 : 0 ≤ x) (hx1 : x ≤ 18446744073709551615) (hx : x % 2 = 0) (hy0 : 0 ≤ y) (hy1 : y ≤ 1) : bits .or .u64 x y = x + y := by
  rw [u64_or x y hx0 (by omega) hy0 (by omega)]
  have h := Nat.shiftLeft_add_eq_or_of_lt (b := y.toNat) (i := 1) (by omega) (x.toNat / 2)
  have e : (x.toNat / 2) <<< 1 = x.toNat := by rw [Nat.shiftLeft_eq]; omega
  rw [e] at h
  rw [← h]
  omega

/-- the number of two words -/
def num (h l : Int) : Int := h * 18446744073709551616 + l
/-- -1, 0 or 1 -/
def cv (a b : Int) : Int := if a < b then -1 else if b < a then 1 else 0
theorem cv_low (h l1 l2 : Int) : cv (num h l1) (num h l2) = cv l1 l2 := by
  unfold cv num
  repeat' split
  all_goals omega
theorem cv_high (h1 l1 h2 l2 : Int) (c : ¬ h1 = h2) (b1 : 0 ≤ l1) (b2 : l1 ≤ 18446744073709551615) (b3 : 0 ≤ l2) (b4 : l2 ≤ 18446744073709551615) : cv (num h1 l1) (num h2 l2) = cv h1 h2 := by
  unfold cv num
  repeat' split
  all_goals omega

/-- two words in their bounds -/
def Bd (h l : Int) : Prop := -9223372036854775808 ≤ h ∧ h ≤ 9223372036854775807 ∧ 0 ≤ l ∧ l ≤ 18446744073709551615
/-- x fits in two words -/
def Fits (x : Int) : Prop := -170141183460469231731687303715884105728 ≤ x ∧ x ≤ 170141183460469231731687303715884105727
/-- what a call that tells a Wide, or that there is none, answers: the words h, l of the number x, and 0; or noughts, and 2 -/
def Res (x h l er : Int) : Prop := (er = 0 ∧ num h l = x ∧ Bd h l) ∨ (er = 2 ∧ h = 0 ∧ l = 0 ∧ ¬ Fits x)
theorem bd_fits {h l : Int} (b : Bd h l) : Fits (num h l) := by unfold Bd at b; unfold Fits num; omega
theorem num_inj {h l h' l' : Int} (b : Bd h l) (b' : Bd h' l') (e : num h l = num h' l') : h = h' ∧ l = l' := by unfold Bd at b b'; unfold num at e; omega
theorem res_unique {x h l er h' l' er' : Int} (r : Res x h l er) (r' : Res x h' l' er') : h = h' ∧ l = l' ∧ er = er' := by
  rcases r with ⟨e1, e2, e3⟩ | ⟨e1, e2, e3, e4⟩ <;> rcases r' with ⟨f1, f2, f3⟩ | ⟨f1, f2, f3, f4⟩
  · have := num_inj e3 f3 (e2.trans f2.symm)
    exact ⟨this.1, this.2, e1.trans f1.symm⟩
  · exact absurd (e2 ▸ bd_fits e3) f4
  · exact absurd (f2 ▸ bd_fits f3) e4
  · exact ⟨e2.trans f2.symm, e3.trans f3.symm, e1.trans f1.symm⟩
theorem res_ex (x : Int) : ∃ h l er, Res x h l er := by
  by_cases f : Fits x
  · exact ⟨x / 18446744073709551616, x % 18446744073709551616, 0, Or.inl ⟨rfl, by unfold num; omega, by unfold Fits at f; unfold Bd; omega⟩⟩
  · exact ⟨0, 0, 2, Or.inr ⟨rfl, rfl, rfl, f⟩⟩
theorem res_bd {x h l er : Int} (r : Res x h l er) : Bd h l := by
  rcases r with ⟨_, _, b⟩ | ⟨_, rfl, rfl, _⟩
  · exact b
  · unfold Bd; omega

/-- the words of a sum, which go around where it does not fit -/
theorem add_words {h1 l1 h2 l2 s1 s0 : Int} (b1 : Bd h1 l1) (b2 : Bd h2 l2)
    (e1 : wrap64 ((h1 % 18446744073709551616 + h2 % 18446744073709551616 + (l1 + l2) / 18446744073709551616) % 18446744073709551616) = s1) (e0 : (l1 + l2) % 18446744073709551616 = s0) :
    Bd s1 s0 ∧ (num s1 s0 = num h1 l1 + num h2 l2 ∨ num s1 s0 = num h1 l1 + num h2 l2 - 340282366920938463463374607431768211456 ∨ num s1 s0 = num h1 l1 + num h2 l2 + 340282366920938463463374607431768211456) := by
  unfold wrap64 at e1; unfold Bd at *; unfold num
  omega
theorem add_over {h1 l1 h2 l2 s1 s0 : Int} (b1 : Bd h1 l1) (b2 : Bd h2 l2)
    (e : Bd s1 s0 ∧ (num s1 s0 = num h1 l1 + num h2 l2 ∨ num s1 s0 = num h1 l1 + num h2 l2 - 340282366920938463463374607431768211456 ∨ num s1 s0 = num h1 l1 + num h2 l2 + 340282366920938463463374607431768211456))
    (c : (h1 < 0 ∧ h2 < 0 ∧ 0 ≤ s1) ∨ (0 ≤ h1 ∧ 0 ≤ h2 ∧ s1 < 0)) : Res (num h1 l1 + num h2 l2) 0 0 2 := by
  refine Or.inr ⟨rfl, rfl, rfl, ?_⟩
  unfold Bd at *; unfold num Fits at *
  omega
theorem add_fits {h1 l1 h2 l2 s1 s0 : Int} (b1 : Bd h1 l1) (b2 : Bd h2 l2)
    (e : Bd s1 s0 ∧ (num s1 s0 = num h1 l1 + num h2 l2 ∨ num s1 s0 = num h1 l1 + num h2 l2 - 340282366920938463463374607431768211456 ∨ num s1 s0 = num h1 l1 + num h2 l2 + 340282366920938463463374607431768211456))
    (c : (h1 < 0 ∧ s1 < 0) ∨ (0 ≤ h1 ∧ 0 ≤ s1) ∨ (h1 < 0 ∧ 0 ≤ h2) ∨ (0 ≤ h1 ∧ h2 < 0)) : Res (num h1 l1 + num h2 l2) s1 s0 0 := by
  refine Or.inl ⟨rfl, ?_, e.1⟩
  unfold Bd at *; unfold num at *
  omega

/-- the words of the opposite, which goes around where it does not fit -/
theorem neg_words {h1 l1 s1 s0 : Int} (b1 : Bd h1 l1)
    (e1 : wrap64 ((18446744073709551615 - h1 % 18446744073709551616 + (18446744073709551616 - l1) / 18446744073709551616) % 18446744073709551616) = s1) (e0 : (18446744073709551616 - l1) % 18446744073709551616 = s0) :
    Bd s1 s0 ∧ (num s1 s0 = -num h1 l1 ∨ num s1 s0 = -num h1 l1 - 340282366920938463463374607431768211456 ∨ num s1 s0 = -num h1 l1 + 340282366920938463463374607431768211456) := by
  unfold wrap64 at e1; unfold Bd at *; unfold num
  omega
theorem neg_over {h1 l1 s1 s0 : Int} (b1 : Bd h1 l1)
    (e : Bd s1 s0 ∧ (num s1 s0 = -num h1 l1 ∨ num s1 s0 = -num h1 l1 - 340282366920938463463374607431768211456 ∨ num s1 s0 = -num h1 l1 + 340282366920938463463374607431768211456))
    (c1 : h1 < 0) (c2 : s1 < 0) : Res (-num h1 l1) 0 0 2 := by
  refine Or.inr ⟨rfl, rfl, rfl, ?_⟩
  unfold Bd at *; unfold num Fits at *
  omega
theorem neg_fits {h1 l1 s1 s0 : Int} (b1 : Bd h1 l1)
    (e : Bd s1 s0 ∧ (num s1 s0 = -num h1 l1 ∨ num s1 s0 = -num h1 l1 - 340282366920938463463374607431768211456 ∨ num s1 s0 = -num h1 l1 + 340282366920938463463374607431768211456))
    (c : 0 ≤ h1 ∨ 0 ≤ s1) : Res (-num h1 l1) s1 s0 0 := by
  refine Or.inl ⟨rfl, ?_, e.1⟩
  unfold Bd at *; unfold num at *
  omega
/-- the number of a word, and of its sign above it -/
theorem of_num {a : Int} (h1 : -9223372036854775808 ≤ a) (h2 : a ≤ 9223372036854775807) : num (a / 9223372036854775808) (a % 18446744073709551616) = a ∧ Bd (a / 9223372036854775808) (a % 18446744073709551616) := by
  unfold num Bd; omega

end Go.Proofs.YtfjckgnclhpmcaaDoor.Vm
