/- What words and of of the reference of layer 2 come to. -/
import Derived.Test.YtfjckgnclhpmcaaDoorRput
namespace Go.Proofs.YtfjckgnclhpmcaaDoor.Vr
set_option linter.unusedSimpArgs false
set_option linter.unusedVariables false
open Go.RowKit Go.Proofs.YtfjckgnclhpmcaaDoor.Vm Go.Proofs.YtfjckgnclhpmcaaDoor.Vc

set_option maxHeartbeats 400000

theorem words_to (s : Bool) (x h l d0 d1 d2 d3 d4 d5 d6 d7 : Int) (w : World) (D : D8 x d0 d1 d2 d3 d4 d5 d6 d7) (eh : Hid (x / 18446744073709551616 = h)) (el : Hid (x % 18446744073709551616 = l)) :
    Calls Tryd.prog 42 #[.agg #[.bool s, .int .u64 d0, .int .u64 d1, .int .u64 d2, .int .u64 d3, .int .u64 d4, .int .u64 d5, .int .u64 d6, .int .u64 d7]] w fun e w' => e = .returned (.tuple #[.int .u64 h, .int .u64 l]) ∧ Below w.heap.size w w' := by
  have DD := Lib.hid D
  obtain ⟨⟨a0, b0⟩, ⟨a1, b1⟩, ⟨a2, b2⟩, ⟨a3, b3⟩, ⟨a4, b4⟩, ⟨a5, b5⟩, ⟨a6, b6⟩, ⟨a7, b7⟩, e⟩ := D
  have E := Lib.hid e
  clear e
  go_enter Tryd.func42, Tryd.ntmps42
  go_wp2
  refine wp_loop_rounds 5 ?_
  rw [rounds_succ]
  go_wp2
  rw [rounds_succ]
  go_wp2
  rw [rounds_succ]
  go_wp2
  rw [rounds_succ]
  go_wp2
  rw [rounds_succ]
  go_wp2
  go_ret2
  refine ⟨?_, (Below.refl _ _).alloc (Nat.le_refl _) _⟩
  have f := E.out
  have f1 := eh.out
  have f2 := el.out
  have g1 : ((d7 * 65536 + d6) * 65536 + d5) * 65536 + d4 = h := by omega
  have g2 : ((d3 * 65536 + d2) * 65536 + d1) * 65536 + d0 = l := by omega
  rw [g1, g2]
  rfl

theorem of_at (h l d0 d1 d2 d3 d4 d5 d6 d7 : Int) (w : World) (B : Bd h l) (D : D8 (num h l).natAbs d0 d1 d2 d3 d4 d5 d6 d7) :
    Calls Tryd.prog 41 #[.agg #[.int .i64 h, .int .u64 l]] w fun e w' => e = .returned (.agg #[.bool (decide (h < 0)), .int .u64 d0, .int .u64 d1, .int .u64 d2, .int .u64 d3, .int .u64 d4, .int .u64 d5, .int .u64 d6, .int .u64 d7]) ∧
      w' = (((w.alloc (.cells #[.int .i64 h, .int .u64 l] 56)).alloc (.cells #[.bool (decide (h < 0)), .int .u64 d0, .int .u64 d1, .int .u64 d2, .int .u64 d3, .int .u64 d4, .int .u64 d5, .int .u64 d6, .int .u64 d7] 67)).alloc
        (.cells #[.bool (decide (h < 0)), .int .u64 d0, .int .u64 d1, .int .u64 d2, .int .u64 d3, .int .u64 d4, .int .u64 d5, .int .u64 d6, .int .u64 d7] 67)).alloc (.cells #[.bool (decide (h < 0)), .int .u64 d0, .int .u64 d1, .int .u64 d2, .int .u64 d3, .int .u64 d4, .int .u64 d5, .int .u64 d6, .int .u64 d7] 67) := by
  obtain ⟨p1, p2, p3, p4⟩ := B
  by_cases c : 0 ≤ h
  · have ds : decide (h < 0) = false := decide_eq_false (by omega)
    rw [ds]
    have D2 : D8 (num h l) d0 d1 d2 d3 d4 d5 d6 d7 := by
      have e : ((num h l).natAbs : Int) = num h l := by unfold num; omega
      rw [e] at D; exact D
    have cp := fun w => put_at false h l d0 d1 d2 d3 d4 d5 d6 d7 w c (by omega) p3 p4 D2
    clear D D2 ds
    go_enter Tryd.func41, Tryd.ntmps41
    go_wp2_with fail
    refine (cp _).mono ?_
    rintro e w1 ⟨rfl, rfl⟩
    go_wp2
    exact bodyPost_ret (v := .agg #[.bool false, .int .u64 d0, .int .u64 d1, .int .u64 d2, .int .u64 d3, .int .u64 d4, .int .u64 d5, .int .u64 d6, .int .u64 d7]) (by simp [results, Tryd.results41, go_sem]) rfl ⟨rfl, rfl⟩
  · have ds : decide (h < 0) = true := decide_eq_true (by omega)
    have dn : decide (0 ≤ h) = false := decide_eq_false c
    rw [ds]
    by_cases z : l = 0
    · subst z
      have D2 : D8 (num (-(h + 1) + 1) 0) d0 d1 d2 d3 d4 d5 d6 d7 := by
        have e : ((num h 0).natAbs : Int) = num (-(h + 1) + 1) 0 := by unfold num; omega
        rw [e] at D; exact D
      have cp := fun w => put_at true (-(h + 1) + 1) 0 d0 d1 d2 d3 d4 d5 d6 d7 w (by omega) (by omega) (by omega) (by omega) D2
      clear D D2 ds
      go_enter Tryd.func41, Tryd.ntmps41
      go_wp2_with fail
      refine (cp _).mono ?_
      rintro e w1 ⟨rfl, rfl⟩
      go_wp2
      exact bodyPost_ret (v := .agg #[.bool true, .int .u64 d0, .int .u64 d1, .int .u64 d2, .int .u64 d3, .int .u64 d4, .int .u64 d5, .int .u64 d6, .int .u64 d7]) (by simp [results, Tryd.results41, go_sem]) rfl ⟨rfl, rfl⟩
    · have D2 : D8 (num (-(h + 1)) (18446744073709551615 - l + 1)) d0 d1 d2 d3 d4 d5 d6 d7 := by
        have e : ((num h l).natAbs : Int) = num (-(h + 1)) (18446744073709551615 - l + 1) := by unfold num; omega
        rw [e] at D; exact D
      have cp := fun w => put_at true (-(h + 1)) (18446744073709551615 - l + 1) d0 d1 d2 d3 d4 d5 d6 d7 w (by omega) (by omega) (by omega) (by omega) D2
      have z1 : (18446744073709551615 - l == 18446744073709551615) = false := beq_eq_false_iff_ne.2 (by omega)
      have z2 : 1 ≤ l := by omega
      clear D D2 ds z
      go_enter Tryd.func41, Tryd.ntmps41
      go_wp2_with fail
      refine (cp _).mono ?_
      rintro e w1 ⟨rfl, rfl⟩
      go_wp2
      exact bodyPost_ret (v := .agg #[.bool true, .int .u64 d0, .int .u64 d1, .int .u64 d2, .int .u64 d3, .int .u64 d4, .int .u64 d5, .int .u64 d6, .int .u64 d7]) (by simp [results, Tryd.results41, go_sem]) rfl ⟨rfl, rfl⟩

end Go.Proofs.YtfjckgnclhpmcaaDoor.Vr
