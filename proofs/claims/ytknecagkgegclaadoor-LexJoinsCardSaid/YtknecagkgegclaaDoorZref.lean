/- What the small functions of the reference of layer 8 come to: letter, digit, inner, kind, Name. -/
import Derived.Test.YtknecagkgegclaaDoorChecked
import Derived.Test.YtknecagkgegclaaDoorZlaw3
import Derived.WalkKit
import Derived.Below
import Derived.Lib.Hide
import Derived.Deep.QuietTactic
import Derived.BigQuiet
namespace Go.Proofs.YtknecagkgegclaaDoor.Zr
set_option linter.unusedSimpArgs false
set_option linter.unusedVariables false
open Go.RowKit Go.Proofs.YtknecagkgegclaaDoor.Zm

set_option maxHeartbeats 1000000

theorem rletter (c : UInt8) (w : World) : Calls Tryd.prog 41 #[.int .u8 c.toNat] w fun e w' => e = .returned (.bool (letter c)) ∧ w = w' := by
  have e : letter c = (decide ((97 : Int) ≤ (c.toNat : Int)) && decide ((c.toNat : Int) ≤ 122)) := by
    unfold letter; congr 1 <;> (rw [decide_eq_decide]; omega)
  rw [e]; clear e
  by_cases h1 : (97 : Int) ≤ (c.toNat : Int)
  · have d1 : decide ((97 : Int) ≤ (c.toNat : Int)) = true := decide_eq_true h1
    clear h1
    go_enter Tryd.func41, Tryd.ntmps41
    go_wp2
    go_ret
    exact ⟨by simp [d1], rfl⟩
  · have d1 : decide ((97 : Int) ≤ (c.toNat : Int)) = false := decide_eq_false h1
    clear h1
    go_enter Tryd.func41, Tryd.ntmps41
    go_wp2
    go_ret
    exact ⟨by simp [d1], rfl⟩

theorem rdigit (c : UInt8) (w : World) : Calls Tryd.prog 42 #[.int .u8 c.toNat] w fun e w' => e = .returned (.bool (digit c)) ∧ w = w' := by
  have e : digit c = (decide ((48 : Int) ≤ (c.toNat : Int)) && decide ((c.toNat : Int) ≤ 57)) := by
    unfold digit; congr 1 <;> (rw [decide_eq_decide]; omega)
  rw [e]; clear e
  by_cases h1 : (48 : Int) ≤ (c.toNat : Int)
  · have d1 : decide ((48 : Int) ≤ (c.toNat : Int)) = true := decide_eq_true h1
    clear h1
    go_enter Tryd.func42, Tryd.ntmps42
    go_wp2
    go_ret
    exact ⟨by simp [d1], rfl⟩
  · have d1 : decide ((48 : Int) ≤ (c.toNat : Int)) = false := decide_eq_false h1
    clear h1
    go_enter Tryd.func42, Tryd.ntmps42
    go_wp2
    go_ret
    exact ⟨by simp [d1], rfl⟩

/-- the kinds of signs that are alone -/
def sign (c : UInt8) : Nat := if c.toNat = 123 then 3 else if c.toNat = 125 then 4 else if c.toNat = 59 then 5 else 0

theorem rkind (c : UInt8) (w : World) : Calls Tryd.prog 43 #[.int .u8 c.toNat] w fun e w' => e = .returned (.int .i64 (sign c : Nat)) ∧ w = w' := by
  unfold sign
  by_cases h1 : c.toNat = 123
  · have d1 : ((c.toNat : Int) == 123) = true := beq_iff_eq.2 (by omega)
    rw [if_pos h1]; clear h1
    go_enter Tryd.func43, Tryd.ntmps43
    go_wp2
    go_ret
    exact ⟨rfl, rfl⟩
  have d1 : ((c.toNat : Int) == 123) = false := beq_eq_false_iff_ne.2 (by omega)
  rw [if_neg h1]; clear h1
  by_cases h1 : c.toNat = 125
  · have d2 : ((c.toNat : Int) == 125) = true := beq_iff_eq.2 (by omega)
    rw [if_pos h1]; clear h1
    go_enter Tryd.func43, Tryd.ntmps43
    go_wp2
    go_ret
    exact ⟨rfl, rfl⟩
  have d2 : ((c.toNat : Int) == 125) = false := beq_eq_false_iff_ne.2 (by omega)
  rw [if_neg h1]; clear h1
  by_cases h1 : c.toNat = 59
  · have d3 : ((c.toNat : Int) == 59) = true := beq_iff_eq.2 (by omega)
    rw [if_pos h1]; clear h1
    go_enter Tryd.func43, Tryd.ntmps43
    go_wp2
    go_ret
    exact ⟨rfl, rfl⟩
  have d3 : ((c.toNat : Int) == 59) = false := beq_eq_false_iff_ne.2 (by omega)
  rw [if_neg h1]; clear h1
  go_enter Tryd.func43, Tryd.ntmps43
  go_wp2
  go_ret
  exact ⟨rfl, rfl⟩

theorem rinner (c : UInt8) (w : World) : Calls Tryd.prog 44 #[.int .u8 c.toNat] w fun e w' => e = .returned (.bool (inner c)) ∧ w = w' := by
  have e : inner c = ((letter c || digit c) || ((c.toNat : Int) == 45)) := by
    unfold inner; congr 1; rw [Bool.eq_iff_iff]; simp; omega
  rw [e]; clear e
  have cl := rletter c
  have cd := rdigit c
  cases h1 : letter c with
  | true =>
    rw [h1] at cl
    go_enter Tryd.func44, Tryd.ntmps44
    go_wp2_with fail
    refine (cl _).mono ?_
    rintro e w' ⟨rfl, rfl⟩
    go_wp2_with fail
    go_ret
    exact ⟨rfl, rfl⟩
  | false =>
    rw [h1] at cl
    cases h2 : digit c with
    | true =>
      rw [h2] at cd
      go_enter Tryd.func44, Tryd.ntmps44
      go_wp2_with fail
      refine (cl _).mono ?_
      rintro e w' ⟨rfl, rfl⟩
      go_wp2_with fail
      refine (cd _).mono ?_
      rintro e w' ⟨rfl, rfl⟩
      go_wp2_with fail
      go_ret
      exact ⟨rfl, rfl⟩
    | false =>
      rw [h2] at cd
      go_enter Tryd.func44, Tryd.ntmps44
      go_wp2_with fail
      refine (cl _).mono ?_
      rintro e w' ⟨rfl, rfl⟩
      go_wp2_with fail
      refine (cd _).mono ?_
      rintro e w' ⟨rfl, rfl⟩
      go_wp2_with fail
      go_ret
      exact ⟨rfl, rfl⟩

end Go.Proofs.YtknecagkgegclaaDoor.Zr
