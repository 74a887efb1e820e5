/- What plus of the reference of layer 2 comes to, of two signs. -/
import Derived.Test.YtfjckgnclhpmcaaDoorRplus
namespace Go.Proofs.YtfjckgnclhpmcaaDoor.Vr
set_option linter.unusedSimpArgs false
set_option linter.unusedVariables false
open Go.RowKit Go.Proofs.YtfjckgnclhpmcaaDoor.Vm Go.Proofs.YtfjckgnclhpmcaaDoor.Vc
attribute [local go_sem] alloc_drewN setCell_drewN

set_option maxHeartbeats 4000000

theorem plus_ge (s : Bool) (x y x0 x1 x2 x3 x4 x5 x6 x7 y0 y1 y2 y3 y4 y5 y6 y7 : Int) (w : World) (D : D8 x x0 x1 x2 x3 x4 x5 x6 x7) (E : D8 y y0 y1 y2 y3 y4 y5 y6 y7) (h : y ≤ x) :
    Calls Tryd.prog 43 #[.agg #[.bool s, .int .u64 x0, .int .u64 x1, .int .u64 x2, .int .u64 x3, .int .u64 x4, .int .u64 x5, .int .u64 x6, .int .u64 x7], .agg #[.bool (!s), .int .u64 y0, .int .u64 y1, .int .u64 y2, .int .u64 y3, .int .u64 y4, .int .u64 y5, .int .u64 y6, .int .u64 y7]] w (Pluses s (!s) x y w) := by
  obtain ⟨r0, r1, r2, r3, r4, r5, r6, r7, q0, q1, q2, q3, q4, q5, q6, q7, k1, k2, k3, k4, k5, k6, k7, k8, u0, v0, n0, u1, v1, n1, u2, v2, n2, u3, v3, n3, u4, v4, n4, u5, v5, n5, u6, v6, n6, u7, v7, n7, kl1, ku1, kl2, ku2, kl3, ku3, kl4, ku4, kl5, ku5, kl6, ku6, kl7, ku7, kl8, ku8, w0, z0, w1, z1, w2, z2, w3, z3, w4, z4, w5, z5, w6, z6, w7, z7, DR⟩ := sub_ex D E h
  obtain ⟨v, ev⟩ : ∃ v, cv x y = v := ⟨_, rfl⟩
  have d1 : decide (v < 0) = false := decide_eq_false (by rw [← ev]; unfold cv; repeat' split
                                                          all_goals omega)
  have cc := fun w => cmp_at x y v x0 x1 x2 x3 x4 x5 x6 x7 y0 y1 y2 y3 y4 y5 y6 y7 w D E (Lib.hid ev)
  clear ev
  obtain ⟨⟨a0, b0⟩, ⟨a1, b1⟩, ⟨a2, b2⟩, ⟨a3, b3⟩, ⟨a4, b4⟩, ⟨a5, b5⟩, ⟨a6, b6⟩, ⟨a7, b7⟩, _⟩ := D
  obtain ⟨⟨f0, g0⟩, ⟨f1, g1⟩, ⟨f2, g2⟩, ⟨f3, g3⟩, ⟨f4, g4⟩, ⟨f5, g5⟩, ⟨f6, g6⟩, ⟨f7, g7⟩, _⟩ := E
  have fin : sgn s (x - y) = sgn s x + sgn (!s) y := by unfold sgn; cases s <;> simp <;> omega
  replace DR := Lib.hid DR
  replace fin := Lib.hid fin
  clear h
  cases s
  all_goals
    go_enter Tryd.func43, Tryd.ntmps43
    go_wp2_with fail
    refine (cc _).mono ?_
    rintro e w' ⟨rfl, nc, rfl⟩
    go_wp2
    refine wp_loop_rounds 9 ?_
    rw [rounds_succ]
    go_wp2
    go_quiet (fail)
    go_wp2
    rw [rounds_succ]
    go_wp2
    go_quiet (fail)
    go_wp2
    rw [rounds_succ]
    go_wp2
    go_quiet (fail)
    go_wp2
    rw [rounds_succ]
    go_wp2
    go_quiet (fail)
    go_wp2
    rw [rounds_succ]
    go_wp2
    go_quiet (fail)
    go_wp2
    rw [rounds_succ]
    go_wp2
    go_quiet (fail)
    go_wp2
    rw [rounds_succ]
    go_wp2
    go_quiet (fail)
    go_wp2
    rw [rounds_succ]
    go_wp2
    go_quiet (fail)
    go_wp2
    rw [rounds_succ]
    go_wp2
    replace DR := DR.out
    first
      | refine bodyPost_ret (v := .tuple #[.agg #[.bool false, .int .u64 r0, .int .u64 r1, .int .u64 r2, .int .u64 r3, .int .u64 r4, .int .u64 r5, .int .u64 r6, .int .u64 r7], .bool true]) (by simp [results, Tryd.results43, go_sem]) rfl ⟨false, _, r0, r1, r2, r3, r4, r5, r6, r7, true, rfl, DR, .inl ⟨rfl, fin.out⟩, ?_⟩
      | refine bodyPost_ret (v := .tuple #[.agg #[.bool true, .int .u64 r0, .int .u64 r1, .int .u64 r2, .int .u64 r3, .int .u64 r4, .int .u64 r5, .int .u64 r6, .int .u64 r7], .bool true]) (by simp [results, Tryd.results43, go_sem]) rfl ⟨true, _, r0, r1, r2, r3, r4, r5, r6, r7, true, rfl, DR, .inl ⟨rfl, fin.out⟩, ?_⟩
    repeat (first | exact Below.refl _ _ | refine below_drewN ?_ _ | refine Below.setCell ?_ (by simp <;> omega) _ | refine Below.alloc ?_ (by simp <;> omega) _)

theorem plus_lt (s : Bool) (x y x0 x1 x2 x3 x4 x5 x6 x7 y0 y1 y2 y3 y4 y5 y6 y7 : Int) (w : World) (D : D8 x x0 x1 x2 x3 x4 x5 x6 x7) (E : D8 y y0 y1 y2 y3 y4 y5 y6 y7) (h : x < y) :
    Calls Tryd.prog 43 #[.agg #[.bool s, .int .u64 x0, .int .u64 x1, .int .u64 x2, .int .u64 x3, .int .u64 x4, .int .u64 x5, .int .u64 x6, .int .u64 x7], .agg #[.bool (!s), .int .u64 y0, .int .u64 y1, .int .u64 y2, .int .u64 y3, .int .u64 y4, .int .u64 y5, .int .u64 y6, .int .u64 y7]] w (Pluses s (!s) x y w) := by
  have cc := fun w => cmp_at x y (-1) x0 x1 x2 x3 x4 x5 x6 x7 y0 y1 y2 y3 y4 y5 y6 y7 w D E (Lib.hid (by unfold cv; rw [if_pos h]))
  obtain ⟨r0, r1, r2, r3, r4, r5, r6, r7, q0, q1, q2, q3, q4, q5, q6, q7, k1, k2, k3, k4, k5, k6, k7, k8, u0, v0, n0, u1, v1, n1, u2, v2, n2, u3, v3, n3, u4, v4, n4, u5, v5, n5, u6, v6, n6, u7, v7, n7, kl1, ku1, kl2, ku2, kl3, ku3, kl4, ku4, kl5, ku5, kl6, ku6, kl7, ku7, kl8, ku8, w0, z0, w1, z1, w2, z2, w3, z3, w4, z4, w5, z5, w6, z6, w7, z7, DR⟩ := sub_ex E D (Int.le_of_lt h)
  obtain ⟨⟨a0, b0⟩, ⟨a1, b1⟩, ⟨a2, b2⟩, ⟨a3, b3⟩, ⟨a4, b4⟩, ⟨a5, b5⟩, ⟨a6, b6⟩, ⟨a7, b7⟩, _⟩ := D
  obtain ⟨⟨f0, g0⟩, ⟨f1, g1⟩, ⟨f2, g2⟩, ⟨f3, g3⟩, ⟨f4, g4⟩, ⟨f5, g5⟩, ⟨f6, g6⟩, ⟨f7, g7⟩, _⟩ := E
  have fin : sgn (!s) (y - x) = sgn s x + sgn (!s) y := by unfold sgn; cases s <;> simp <;> omega
  replace DR := Lib.hid DR
  replace fin := Lib.hid fin
  clear h
  cases s
  all_goals
    go_enter Tryd.func43, Tryd.ntmps43
    go_wp2_with fail
    refine (cc _).mono ?_
    rintro e w' ⟨rfl, nc, rfl⟩
    go_wp2
    refine wp_loop_rounds 9 ?_
    rw [rounds_succ]
    go_wp2
    go_quiet (fail)
    go_wp2
    rw [rounds_succ]
    go_wp2
    go_quiet (fail)
    go_wp2
    rw [rounds_succ]
    go_wp2
    go_quiet (fail)
    go_wp2
    rw [rounds_succ]
    go_wp2
    go_quiet (fail)
    go_wp2
    rw [rounds_succ]
    go_wp2
    go_quiet (fail)
    go_wp2
    rw [rounds_succ]
    go_wp2
    go_quiet (fail)
    go_wp2
    rw [rounds_succ]
    go_wp2
    go_quiet (fail)
    go_wp2
    rw [rounds_succ]
    go_wp2
    go_quiet (fail)
    go_wp2
    rw [rounds_succ]
    go_wp2
    replace DR := DR.out
    first
      | refine bodyPost_ret (v := .tuple #[.agg #[.bool false, .int .u64 r0, .int .u64 r1, .int .u64 r2, .int .u64 r3, .int .u64 r4, .int .u64 r5, .int .u64 r6, .int .u64 r7], .bool true]) (by simp [results, Tryd.results43, go_sem]) rfl ⟨false, _, r0, r1, r2, r3, r4, r5, r6, r7, true, rfl, DR, .inl ⟨rfl, fin.out⟩, ?_⟩
      | refine bodyPost_ret (v := .tuple #[.agg #[.bool true, .int .u64 r0, .int .u64 r1, .int .u64 r2, .int .u64 r3, .int .u64 r4, .int .u64 r5, .int .u64 r6, .int .u64 r7], .bool true]) (by simp [results, Tryd.results43, go_sem]) rfl ⟨true, _, r0, r1, r2, r3, r4, r5, r6, r7, true, rfl, DR, .inl ⟨rfl, fin.out⟩, ?_⟩
    repeat (first | exact Below.refl _ _ | refine below_drewN ?_ _ | refine Below.setCell ?_ (by simp <;> omega) _ | refine Below.alloc ?_ (by simp <;> omega) _)

theorem plus_tells (s t : Bool) (x y x0 x1 x2 x3 x4 x5 x6 x7 y0 y1 y2 y3 y4 y5 y6 y7 : Int) (w : World) (D : D8 x x0 x1 x2 x3 x4 x5 x6 x7) (E : D8 y y0 y1 y2 y3 y4 y5 y6 y7) :
    Calls Tryd.prog 43 #[.agg #[.bool s, .int .u64 x0, .int .u64 x1, .int .u64 x2, .int .u64 x3, .int .u64 x4, .int .u64 x5, .int .u64 x6, .int .u64 x7], .agg #[.bool t, .int .u64 y0, .int .u64 y1, .int .u64 y2, .int .u64 y3, .int .u64 y4, .int .u64 y5, .int .u64 y6, .int .u64 y7]] w (Pluses s t x y w) := by
  by_cases h : t = s
  · subst h
    exact plus_same t x y x0 x1 x2 x3 x4 x5 x6 x7 y0 y1 y2 y3 y4 y5 y6 y7 w D E
  · have ht : t = !s := by cases s <;> cases t <;> simp_all
    subst ht
    by_cases c : y ≤ x
    · exact plus_ge s x y x0 x1 x2 x3 x4 x5 x6 x7 y0 y1 y2 y3 y4 y5 y6 y7 w D E c
    · exact plus_lt s x y x0 x1 x2 x3 x4 x5 x6 x7 y0 y1 y2 y3 y4 y5 y6 y7 w D E (by omega)

end Go.Proofs.YtfjckgnclhpmcaaDoor.Vr
