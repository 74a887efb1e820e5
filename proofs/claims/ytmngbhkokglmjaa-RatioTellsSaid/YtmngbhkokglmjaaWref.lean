/- What the reference's functions of layer 1 come to. -/
import Derived.Test.YtmngbhkokglmjaaGcode
namespace Go.Proofs.Ytmngbhkokglmjaa.Wr
open Go.RowKit Go.Proofs.Ytmngbhkokglmjaa.Wm Go.Proofs.Ytmngbhkokglmjaa.Wc

set_option maxHeartbeats 400000

theorem size_any (a : Int) (w : World) (h : Fit a) :
    Calls Try.prog 52 #[.int .i64 a] w fun e w' => e = .returned (.int .u64 (a.natAbs : Int)) ∧ w = w' := by
  unfold Fit at h
  obtain ⟨h1, h2⟩ := h
  by_cases c : a < 0
  · have e1 : (a.natAbs : Int) = -(a + 1) + 1 := by omega
    rw [e1]
    clear e1
    go_enter Try.func52, Try.ntmps52
    go_wp2
    go_ret
    exact ⟨rfl, rfl⟩
  · have e1 : (a.natAbs : Int) = a := by omega
    rw [e1]
    clear e1
    go_enter Try.func52, Try.ntmps52
    go_wp2
    go_ret
    exact ⟨rfl, rfl⟩

/-- a size that is small enough, with its sign -/
theorem signed_yes (n : Int) (s : Bool) (w : World) (h0 : 0 ≤ n) (h : n ≤ 9223372036854775807) :
    Calls Try.prog 87 #[.int .u64 n, .bool s] w fun e w' => e = .returned (.tuple #[.int .i64 (if s then -n else n), .int .i64 0]) ∧ w = w' := by
  have d1 : (n == 9223372036854775808) = false := beq_eq_false_iff_ne.2 (by omega)
  cases s
  all_goals
    go_enter Try.func87, Try.ntmps87
    go_wp2
    go_ret2
    exact ⟨rfl, rfl⟩

theorem signed_least (w : World) :
    Calls Try.prog 87 #[.int .u64 9223372036854775808, .bool true] w fun e w' => e = .returned (.tuple #[.int .i64 (-9223372036854775808), .int .i64 0]) ∧ w = w' := by
  go_enter Try.func87, Try.ntmps87
  go_wp2
  go_ret2
  exact ⟨rfl, rfl⟩

theorem signed_no (n : Int) (s : Bool) (w : World) (h0 : 9223372036854775808 ≤ n) (h : n ≤ 18446744073709551615) (hs : s = false ∨ n ≠ 9223372036854775808) :
    Calls Try.prog 87 #[.int .u64 n, .bool s] w fun e w' => e = .returned (.tuple #[.int .i64 0, .int .i64 2]) ∧ w = w' := by
  have h1 : 9223372036854775807 < n := by omega
  clear h0
  cases s
  · clear hs
    go_enter Try.func87, Try.ntmps87
    go_wp2
    go_ret2
    exact ⟨rfl, rfl⟩
  · have d1 : (n == 9223372036854775808) = false := beq_eq_false_iff_ne.2 (by rcases hs with h | h; exact absurd h (by decide); exact h)
    clear hs
    go_enter Try.func87, Try.ntmps87
    go_wp2
    go_ret2
    exact ⟨rfl, rfl⟩

theorem rdiv_yes (a b : Int) (w : World) (ha : Fit a) (hb : Fit b) (c1 : b ≠ 0) (c2 : ¬ (a = -9223372036854775808 ∧ b = -1)) :
    Calls Try.prog 57 #[.int .i64 a, .int .i64 b] w fun e w' => e = .returned (.tuple #[.int .i64 (dq a b), .int .i64 (dr a b), .int .i64 0]) ∧ Drew w w' := by
  have d0 : (b == 0) = false := beq_eq_false_iff_ne.2 c1
  have k1 : IntKind.i64.wrap (a.tdiv b) = a.tdiv b := IntWalk.i64_in _ (tdiv_fit ha c2)
  have k2 := dq_fit ha c1 c2
  have k3 : Fit (dr a b) := by
    unfold Fit at *
    by_cases hp : 0 < b
    · have := dr_pos a hp; omega
    · have := dr_neg a (b := b) (by omega); omega
  have fin : ∀ n, Drew w (w.drewN n) := fun n => ⟨n, rfl⟩
  have c8 := div_tests c2
  clear c2 ha hb
  by_cases c3 : a.tmod b ≠ 0 ∧ ¬ ((a.tmod b < 0) ↔ (b < 0))
  · have e1 : dq a b = a.tdiv b - 1 := by unfold dq; rw [if_pos c3]
    have e2 : dr a b = a.tmod b + b := by unfold dr; rw [if_pos c3]
    rw [e1] at k2 ⊢; rw [e2] at k3 ⊢
    clear e1 e2
    obtain ⟨c4, c5⟩ := c3
    have d4 : (a.tmod b != 0) = true := by rw [bne_iff_ne]; exact c4
    unfold Fit at k2 k3
    obtain ⟨k4, k5⟩ := k2
    obtain ⟨k6, k7⟩ := k3
    have c9 : (decide (b < 0) = true ∧ decide (a.tmod b < 0) = false) ∨ (decide (b < 0) = false ∧ decide (a.tmod b < 0) = true) := by
      simp only [decide_eq_true_eq, decide_eq_false_iff_not]; omega
    clear c5 c4
    rcases c9 with ⟨d6, d7⟩ | ⟨d6, d7⟩ <;> rcases c8 with ⟨d8, d9⟩ | ⟨d8, d9⟩
    all_goals
      go_enter Try.func57, Try.ntmps57
      go_wp2
      go_quiet (fail)
      go_wp2
      go_ret3
      exact ⟨rfl, fin _⟩
  · have e1 : dq a b = a.tdiv b := by unfold dq; rw [if_neg c3]
    have e2 : dr a b = a.tmod b := by unfold dr; rw [if_neg c3]
    rw [e1, e2]
    clear e1 e2 k2 k3
    have c9 : ((a.tmod b != 0) = false ∧ True) ∨ ((a.tmod b != 0) = true ∧ decide (b < 0) = true ∧ decide (a.tmod b < 0) = true) ∨ ((a.tmod b != 0) = true ∧ decide (b < 0) = false ∧ decide (a.tmod b < 0) = false) := by
      by_cases c4 : a.tmod b = 0
      · exact Or.inl ⟨by rw [bne_eq_false_iff_eq]; exact c4, trivial⟩
      · have c5 : (a.tmod b < 0) ↔ (b < 0) := by
          by_cases c6 : (a.tmod b < 0) ↔ (b < 0)
          · exact c6
          · exact absurd ⟨c4, c6⟩ c3
        have c7 : (a.tmod b != 0) = true := by rw [bne_iff_ne]; exact c4
        by_cases c6 : b < 0
        · exact Or.inr (Or.inl ⟨c7, decide_eq_true c6, decide_eq_true (c5.2 c6)⟩)
        · exact Or.inr (Or.inr ⟨c7, decide_eq_false c6, decide_eq_false (fun h => c6 (c5.1 h))⟩)
    clear c3
    rcases c9 with ⟨d4, _⟩ | ⟨d4, d6, d7⟩ | ⟨d4, d6, d7⟩ <;> rcases c8 with ⟨d8, d9⟩ | ⟨d8, d9⟩
    all_goals
      go_enter Try.func57, Try.ntmps57
      go_wp2
      go_quiet (fail)
      go_wp2
      go_ret3
      exact ⟨rfl, fin _⟩

theorem rdiv_zero (a : Int) (w : World) :
    Calls Try.prog 57 #[.int .i64 a, .int .i64 0] w fun e w' => e = .returned (.tuple #[.int .i64 0, .int .i64 0, .int .i64 3]) ∧ Drew w w' := by
  have fin : Drew w w := ⟨0, rfl⟩
  go_enter Try.func57, Try.ntmps57
  go_wp2
  go_ret3
  exact ⟨rfl, fin⟩

theorem rdiv_over (w : World) :
    Calls Try.prog 57 #[.int .i64 (-9223372036854775808), .int .i64 (-1)] w fun e w' => e = .returned (.tuple #[.int .i64 0, .int .i64 0, .int .i64 2]) ∧ Drew w w' := by
  have fin : Drew w w := ⟨0, rfl⟩
  go_enter Try.func57, Try.ntmps57
  go_wp2
  go_ret3
  exact ⟨rfl, fin⟩

theorem nat_beq {n : Nat} (h : n ≠ 0) : ((n : Int) != 0) = true := by rw [bne_iff_ne]; omega

end Go.Proofs.Ytmngbhkokglmjaa.Wr
