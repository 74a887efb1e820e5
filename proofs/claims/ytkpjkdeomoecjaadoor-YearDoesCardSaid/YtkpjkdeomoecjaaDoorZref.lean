/- What the small functions of the reference of layer 8 come to: letter, digit, inner, kind, Name. -/
import Derived.Test.YtkpjkdeomoecjaaDoorChecked
import Derived.Test.YtkpjkdeomoecjaaDoorZlaw3
import Derived.WalkKit
import Derived.Below
import Derived.Lib.Hide
import Derived.Deep.QuietTactic
import Derived.BigQuiet
namespace Go.Proofs.YtkpjkdeomoecjaaDoor.Zr
set_option linter.unusedSimpArgs false
set_option linter.unusedVariables false
open Go.RowKit Go.Proofs.YtkpjkdeomoecjaaDoor.Zm

set_option maxHeartbeats 1000000

theorem rletter (c : UInt8) (w : World) : Calls Tryd.prog 86 #[.int .u8 c.toNat] w fun e w' => e = .returned (.bool (letter c)) ∧ w = w' := by
  have e : letter c = (decide ((97 : Int) ≤ (c.toNat : Int)) && decide ((c.toNat : Int) ≤ 122)) := by
    unfold letter; congr 1 <;> (rw [decide_eq_decide]; omega)
  rw [e]; clear e
  by_cases h1 : (97 : Int) ≤ (c.toNat : Int)
  · have d1 : decide ((97 : Int) ≤ (c.toNat : Int)) = true := decide_eq_true h1
    clear h1
    go_enter Tryd.func86, Tryd.ntmps86
    go_wp2
    go_ret
    exact ⟨by simp [d1], rfl⟩
  · have d1 : decide ((97 : Int) ≤ (c.toNat : Int)) = false := decide_eq_false h1
    clear h1
    go_enter Tryd.func86, Tryd.ntmps86
    go_wp2
    go_ret
    exact ⟨by simp [d1], rfl⟩

theorem rdigit (c : UInt8) (w : World) : Calls Tryd.prog 93 #[.int .u8 c.toNat] w fun e w' => e = .returned (.bool (digit c)) ∧ w = w' := by
  have e : digit c = (decide ((48 : Int) ≤ (c.toNat : Int)) && decide ((c.toNat : Int) ≤ 57)) := by
    unfold digit; congr 1 <;> (rw [decide_eq_decide]; omega)
  rw [e]; clear e
  by_cases h1 : (48 : Int) ≤ (c.toNat : Int)
  · have d1 : decide ((48 : Int) ≤ (c.toNat : Int)) = true := decide_eq_true h1
    clear h1
    go_enter Tryd.func93, Tryd.ntmps93
    go_wp2
    go_ret
    exact ⟨by simp [d1], rfl⟩
  · have d1 : decide ((48 : Int) ≤ (c.toNat : Int)) = false := decide_eq_false h1
    clear h1
    go_enter Tryd.func93, Tryd.ntmps93
    go_wp2
    go_ret
    exact ⟨by simp [d1], rfl⟩

/-- the kinds of signs that are alone -/
def sign (c : UInt8) : Nat := if c.toNat = 123 then 3 else if c.toNat = 125 then 4 else if c.toNat = 59 then 5 else 0

theorem rinner (c : UInt8) (w : World) : Calls Tryd.prog 87 #[.int .u8 c.toNat] w fun e w' => e = .returned (.bool (inner c)) ∧ w = w' := by
  have e : inner c = ((letter c || digit c) || ((c.toNat : Int) == 45)) := by
    unfold inner; congr 1; rw [Bool.eq_iff_iff]; simp; omega
  rw [e]; clear e
  have cl := rletter c
  have cd := rdigit c
  cases h1 : letter c with
  | true =>
    rw [h1] at cl
    go_enter Tryd.func87, Tryd.ntmps87
    go_wp2_with fail
    refine (cl _).mono ?_
    rintro e w' ⟨rfl, rfl⟩
    go_wp2_with fail
    go_ret
    exact ⟨rfl, rfl⟩
  | false =>
    rw [h1] at cl
    cases h2 : digit c with
    | true =>
      rw [h2] at cd
      go_enter Tryd.func87, Tryd.ntmps87
      go_wp2_with fail
      refine (cl _).mono ?_
      rintro e w' ⟨rfl, rfl⟩
      go_wp2_with fail
      refine (cd _).mono ?_
      rintro e w' ⟨rfl, rfl⟩
      go_wp2_with fail
      go_ret
      exact ⟨rfl, rfl⟩
    | false =>
      rw [h2] at cd
      go_enter Tryd.func87, Tryd.ntmps87
      go_wp2_with fail
      refine (cl _).mono ?_
      rintro e w' ⟨rfl, rfl⟩
      go_wp2_with fail
      refine (cd _).mono ?_
      rintro e w' ⟨rfl, rfl⟩
      go_wp2_with fail
      go_ret
      exact ⟨rfl, rfl⟩

end Go.Proofs.YtkpjkdeomoecjaaDoor.Zr
