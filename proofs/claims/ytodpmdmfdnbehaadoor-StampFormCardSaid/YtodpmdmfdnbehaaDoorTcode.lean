/- What the functions of package stamp come to. -/
import Derived.Test.YtodpmdmfdnbehaaDoorEcode2
import Derived.Test.YtodpmdmfdnbehaaDoorTmath
import Derived.Test.YtodpmdmfdnbehaaDoorShelf
import Derived.Lib.OthersKept
import Derived.Lib.AppendIntMem
import Derived.Lib.SmallJoins
import Derived.Deep.RegionHeld3
namespace Go.Proofs.YtodpmdmfdnbehaaDoor.Tp
set_option linter.unusedSimpArgs false
set_option linter.unusedVariables false
open Go.RowKit Go.Proofs.YtodpmdmfdnbehaaDoor.Bx Go.Proofs.YtodpmdmfdnbehaaDoor.Cm Go.Proofs.YtodpmdmfdnbehaaDoor.Cp Go.Proofs.YtodpmdmfdnbehaaDoor.Em Go.Proofs.YtodpmdmfdnbehaaDoor.Ep Go.Proofs.YtodpmdmfdnbehaaDoor.Tm

set_option maxHeartbeats 1000000

/-- both tables lie in the world -/
structure Tabs (W : World) : Prop where
  tab : Tab W
  pow : Lib.TabIs Tryd.prog W "internal/strconv.uint64pow10" .u64 Lib.pow10Tab
theorem gPow : Tryd.prog.globalNamed "internal/strconv.uint64pow10" = some 1 := by kernel_rfl
theorem Tabs.kept {W w1 : World} (p : Tabs W) (hb : Below W.heap.size W w1) : Tabs w1 := ⟨p.tab.kept hb, Joins.tab_stays gPow p.pow hb (Nat.le_refl _)⟩
theorem Tabs.alloc {W : World} (p : Tabs W) (o : Obj) : Tabs (W.alloc o) := p.kept ((Below.refl _ _).alloc (Nat.le_refl _) o)

theorem dig4 (n : Int) (w : World) (h0 : 1000 ≤ n) (h1 : n ≤ 9999) (T : Tabs w) :
    Calls Tryd.prog 56 #[.int .i64 n, .int .i64 4] w fun e w' => e = .returned (.string (s4 n)) ∧ Below w.heap.size w w' := by
  obtain ⟨k, rfl⟩ : ∃ k : Nat, n = k := ⟨n.toNat, by omega⟩
  have ci : Calls Tryd.prog 66 #[.int .i64 k] w fun e w' => e = .returned (.string (s4 k)) ∧ Below w.heap.size w w' :=
    (Tryd.strconv_Itoa (k : Int) (by omega) (by omega) w T.pow).mono fun e w' ⟨a, q, os, b⟩ => ⟨by rw [a, itoa_4 (by omega) (by omega)], by subst b; exact Lib.below_grow _ w (Nat.le_refl _) q os⟩
  have cr : ∀ w, Calls Tryd.prog 67 #[.string ⟨#[48]⟩, .int .i64 0] w fun e w' => e = .returned (.string ⟨#[]⟩) ∧ w = w' := fun w => (Tryd.strings_Repeat_zero ⟨#[48]⟩ w).mono fun e w' ⟨a, b⟩ => ⟨a, b.symm⟩
  have z4 := s4_size k
  generalize s4 (k : Int) = s at *
  clear T h0 h1
  go_enter Tryd.func56, Tryd.ntmps56
  go_wp2_with fail
  refine ci.mono ?_
  rintro e w1 ⟨rfl, hb⟩
  clear ci
  go_wp2_with fail
  refine (cr _).mono ?_
  rintro e w' ⟨rfl, rfl⟩
  go_wp2
  go_ret
  exact ⟨congrArg (fun x => Ending.returned (.string x)) (ByteArray.empty_append), hb⟩

theorem dig2 (n : Int) (w : World) (h0 : 0 ≤ n) (h1 : n ≤ 99) :
    Calls Tryd.prog 56 #[.int .i64 n, .int .i64 2] w fun e w' => e = .returned (.string (s2 n)) ∧ w = w' := by
  obtain ⟨k, rfl⟩ : ∃ k : Nat, n = k := ⟨n.toNat, by omega⟩
  by_cases c : k ≤ 9
  · have ci : Calls Tryd.prog 66 #[.int .i64 k] w fun e w' => e = .returned (.string (s1 k)) ∧ w = w' :=
      (Tryd.strconv_Itoa_small k (by omega) w).mono fun e w' ⟨a, b⟩ => ⟨by rw [a, itoa_1 c], b.symm⟩
    have cr : ∀ w, Calls Tryd.prog 67 #[.string ⟨#[48]⟩, .int .i64 1] w fun e w' => e = .returned (.string ⟨#[48]⟩) ∧ w = w' := fun w => (Tryd.strings_Repeat_one ⟨#[48]⟩ w).mono fun e w' ⟨a, b⟩ => ⟨a, b.symm⟩
    have z := s1_size k
    rw [← pad_2 (n := (k : Int)) (by omega) (by omega)]
    generalize s1 (k : Int) = s at *
    clear h0 h1 c
    go_enter Tryd.func56, Tryd.ntmps56
    go_wp2_with fail
    refine ci.mono ?_
    rintro e w' ⟨rfl, rfl⟩
    clear ci
    go_wp2_with fail
    refine (cr _).mono ?_
    rintro e w' ⟨rfl, rfl⟩
    go_wp2
    go_ret
    exact ⟨rfl, rfl⟩
  · have ci : Calls Tryd.prog 66 #[.int .i64 k] w fun e w' => e = .returned (.string (s2 k)) ∧ w = w' :=
      (Tryd.strconv_Itoa_small k (by omega) w).mono fun e w' ⟨a, b⟩ => ⟨by rw [a, itoa_2 (by omega) (by omega)], b.symm⟩
    have cr : ∀ w, Calls Tryd.prog 67 #[.string ⟨#[48]⟩, .int .i64 0] w fun e w' => e = .returned (.string ⟨#[]⟩) ∧ w = w' := fun w => (Tryd.strings_Repeat_zero ⟨#[48]⟩ w).mono fun e w' ⟨a, b⟩ => ⟨a, b.symm⟩
    have z := s2_size k
    generalize s2 (k : Int) = s at *
    clear h0 h1 c
    go_enter Tryd.func56, Tryd.ntmps56
    go_wp2_with fail
    refine ci.mono ?_
    rintro e w' ⟨rfl, rfl⟩
    clear ci
    go_wp2_with fail
    refine (cr _).mono ?_
    rintro e w' ⟨rfl, rfl⟩
    go_wp2
    go_ret
    exact ⟨congrArg (fun x => Ending.returned (.string x)) (ByteArray.empty_append), rfl⟩

theorem dig1 (n : Int) (w : World) (h0 : 0 ≤ n) (h1 : n ≤ 9) :
    Calls Tryd.prog 56 #[.int .i64 n, .int .i64 1] w fun e w' => e = .returned (.string (s1 n)) ∧ w = w' := by
  obtain ⟨k, rfl⟩ : ∃ k : Nat, n = k := ⟨n.toNat, by omega⟩
  have ci : Calls Tryd.prog 66 #[.int .i64 k] w fun e w' => e = .returned (.string (s1 k)) ∧ w = w' :=
    (Tryd.strconv_Itoa_small k (by omega) w).mono fun e w' ⟨a, b⟩ => ⟨by rw [a, itoa_1 (by omega)], b.symm⟩
  have cr : ∀ w, Calls Tryd.prog 67 #[.string ⟨#[48]⟩, .int .i64 0] w fun e w' => e = .returned (.string ⟨#[]⟩) ∧ w = w' := fun w => (Tryd.strings_Repeat_zero ⟨#[48]⟩ w).mono fun e w' ⟨a, b⟩ => ⟨a, b.symm⟩
  have z := s1_size k
  generalize s1 (k : Int) = s at *
  clear h0 h1
  go_enter Tryd.func56, Tryd.ntmps56
  go_wp2_with fail
  refine ci.mono ?_
  rintro e w' ⟨rfl, rfl⟩
  clear ci
  go_wp2_with fail
  refine (cr _).mono ?_
  rintro e w' ⟨rfl, rfl⟩
  go_wp2
  go_ret
  exact ⟨congrArg (fun x => Ending.returned (.string x)) (ByteArray.empty_append), rfl⟩

def okI (c p : Int) : Bool := if p = 48 then decide (48 ≤ c) && decide (c ≤ 57) else c == p
theorem fitsAt_any (c p : Int) (b : Bool) (w : World) (hb : b = okI c p) :
    Calls Tryd.prog 68 #[.int .i32 c, .int .i32 p] w fun e w' => e = .returned (.bool b) ∧ w = w' := by
  by_cases hp : p = 48
  · subst hp
    by_cases h0 : 48 ≤ c
    · by_cases h1 : c ≤ 57
      · obtain rfl : b = true := by rw [hb]; simp [okI, h0, h1]
        clear hb
        go_enter Tryd.func68, Tryd.ntmps68
        go_wp2
        go_ret
        exact ⟨rfl, rfl⟩
      · obtain rfl : b = false := by rw [hb]; simp [okI, h1]
        have d1 : decide (c ≤ 57) = false := decide_eq_false h1
        clear hb
        go_enter Tryd.func68, Tryd.ntmps68
        go_wp2
        go_ret
        exact ⟨rfl, rfl⟩
    · obtain rfl : b = false := by rw [hb]; simp [okI, h0]
      have d1 : decide (48 ≤ c) = false := decide_eq_false h0
      clear hb
      go_enter Tryd.func68, Tryd.ntmps68
      go_wp2
      go_ret
      exact ⟨rfl, rfl⟩
  · have d0 : (p == 48) = false := beq_eq_false_iff_ne.2 hp
    have hb' : b = (c == p) := by rw [hb]; simp [okI, hp]
    clear hb hp
    cases h : (c == p)
    all_goals
      rw [h] at hb'
      subst hb'
      go_enter Tryd.func68, Tryd.ntmps68
      go_wp2
      go_ret
      exact ⟨rfl, rfl⟩

end Go.Proofs.YtodpmdmfdnbehaaDoor.Tp
