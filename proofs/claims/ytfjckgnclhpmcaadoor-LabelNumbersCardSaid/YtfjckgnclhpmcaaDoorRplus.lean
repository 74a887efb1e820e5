/- What plus of the reference of layer 2 comes to. -/
import Derived.Test.YtfjckgnclhpmcaaDoorRcmp
import Derived.Test.YtfjckgnclhpmcaaDoorRmath2
namespace Go.Proofs.YtfjckgnclhpmcaaDoor.Vr
set_option linter.unusedSimpArgs false
set_option linter.unusedVariables false
open Go.RowKit Go.Proofs.YtfjckgnclhpmcaaDoor.Vm Go.Proofs.YtfjckgnclhpmcaaDoor.Vc
attribute [local go_sem] alloc_drewN setCell_drewN

set_option maxHeartbeats 4000000

/-- what plus answers: the sum, and true; or that there are too few digits, and some digits -/
def Pluses (s t : Bool) (x y : Int) (w : World) (e : Ending) (w' : World) : Prop :=
  ∃ (v : Bool) (z r0 r1 r2 r3 r4 r5 r6 r7 : Int) (ok : Bool), e = .returned (.tuple #[.agg #[.bool v, .int .u64 r0, .int .u64 r1, .int .u64 r2, .int .u64 r3, .int .u64 r4, .int .u64 r5, .int .u64 r6, .int .u64 r7], .bool ok]) ∧ D8 z r0 r1 r2 r3 r4 r5 r6 r7 ∧
    ((ok = true ∧ sgn v z = sgn s x + sgn t y) ∨ (ok = false ∧ s = t ∧ 340282366920938463463374607431768211456 ≤ x + y)) ∧ Below w.heap.size w w'

theorem plus_same (s : Bool) (x y x0 x1 x2 x3 x4 x5 x6 x7 y0 y1 y2 y3 y4 y5 y6 y7 : Int) (w : World) (D : D8 x x0 x1 x2 x3 x4 x5 x6 x7) (E : D8 y y0 y1 y2 y3 y4 y5 y6 y7) :
    Calls Tryd.prog 43 #[.agg #[.bool s, .int .u64 x0, .int .u64 x1, .int .u64 x2, .int .u64 x3, .int .u64 x4, .int .u64 x5, .int .u64 x6, .int .u64 x7], .agg #[.bool s, .int .u64 y0, .int .u64 y1, .int .u64 y2, .int .u64 y3, .int .u64 y4, .int .u64 y5, .int .u64 y6, .int .u64 y7]] w (Pluses s s x y w) := by
  obtain ⟨r0, r1, r2, r3, r4, r5, r6, r7, m1, m2, m3, m4, m5, m6, m7, m8, u0, v0, u1, v1, u2, v2, u3, v3, u4, v4, u5, v5, u6, v6, u7, v7, w0, z0, w1, z1, w2, z2, w3, z3, w4, z4, w5, z5, w6, z6, w7, z7, DR⟩ := add_ex D E
  obtain ⟨⟨a0, b0⟩, ⟨a1, b1⟩, ⟨a2, b2⟩, ⟨a3, b3⟩, ⟨a4, b4⟩, ⟨a5, b5⟩, ⟨a6, b6⟩, ⟨a7, b7⟩, _⟩ := D
  obtain ⟨⟨f0, g0⟩, ⟨f1, g1⟩, ⟨f2, g2⟩, ⟨f3, g3⟩, ⟨f4, g4⟩, ⟨f5, g5⟩, ⟨f6, g6⟩, ⟨f7, g7⟩, _⟩ := E
  by_cases c : m8 = 0
  · have d1 : (m8 == 0) = true := beq_iff_eq.2 c
    have fin : sgn s (x + y - m8 * 340282366920938463463374607431768211456) = sgn s x + sgn s y := by subst c; unfold sgn; cases s <;> simp <;> omega
    replace DR := Lib.hid DR
    replace fin := Lib.hid fin
    clear c
    go_enter Tryd.func43, Tryd.ntmps43
    go_wp2
    refine wp_loop_rounds 9 ?_
    rw [rounds_succ]
    go_wp2
    go_quiet (fail)
    go_wp2
    rw [rounds_succ]
    go_wp2
    go_quiet (fail)
    go_wp2
    rw [rounds_succ]
    go_wp2
    go_quiet (fail)
    go_wp2
    rw [rounds_succ]
    go_wp2
    go_quiet (fail)
    go_wp2
    rw [rounds_succ]
    go_wp2
    go_quiet (fail)
    go_wp2
    rw [rounds_succ]
    go_wp2
    go_quiet (fail)
    go_wp2
    rw [rounds_succ]
    go_wp2
    go_quiet (fail)
    go_wp2
    rw [rounds_succ]
    go_wp2
    go_quiet (fail)
    go_wp2
    rw [rounds_succ]
    go_wp2
    replace DR := DR.out
    refine bodyPost_ret (v := .tuple #[.agg #[.bool s, .int .u64 r0, .int .u64 r1, .int .u64 r2, .int .u64 r3, .int .u64 r4, .int .u64 r5, .int .u64 r6, .int .u64 r7], .bool true]) (by simp [results, Tryd.results43, go_sem]) rfl ⟨s, _, r0, r1, r2, r3, r4, r5, r6, r7, true, rfl, DR, .inl ⟨rfl, fin.out⟩, ?_⟩
    repeat (first | exact Below.refl _ _ | refine below_drewN ?_ _ | refine Below.setCell ?_ (by simp <;> omega) _ | refine Below.alloc ?_ (by simp <;> omega) _)
  · have d1 : (m8 == 0) = false := beq_eq_false_iff_ne.2 c
    have fin : 340282366920938463463374607431768211456 ≤ x + y := by have := d8_bd DR; omega
    replace DR := Lib.hid DR
    replace fin := Lib.hid fin
    clear c
    go_enter Tryd.func43, Tryd.ntmps43
    go_wp2
    refine wp_loop_rounds 9 ?_
    rw [rounds_succ]
    go_wp2
    go_quiet (fail)
    go_wp2
    rw [rounds_succ]
    go_wp2
    go_quiet (fail)
    go_wp2
    rw [rounds_succ]
    go_wp2
    go_quiet (fail)
    go_wp2
    rw [rounds_succ]
    go_wp2
    go_quiet (fail)
    go_wp2
    rw [rounds_succ]
    go_wp2
    go_quiet (fail)
    go_wp2
    rw [rounds_succ]
    go_wp2
    go_quiet (fail)
    go_wp2
    rw [rounds_succ]
    go_wp2
    go_quiet (fail)
    go_wp2
    rw [rounds_succ]
    go_wp2
    go_quiet (fail)
    go_wp2
    rw [rounds_succ]
    go_wp2
    replace DR := DR.out
    refine bodyPost_ret (v := .tuple #[.agg #[.bool s, .int .u64 r0, .int .u64 r1, .int .u64 r2, .int .u64 r3, .int .u64 r4, .int .u64 r5, .int .u64 r6, .int .u64 r7], .bool false]) (by simp [results, Tryd.results43, go_sem]) rfl ⟨s, _, r0, r1, r2, r3, r4, r5, r6, r7, false, rfl, DR, .inr ⟨rfl, rfl, fin.out⟩, ?_⟩
    repeat (first | exact Below.refl _ _ | refine below_drewN ?_ _ | refine Below.setCell ?_ (by simp <;> omega) _ | refine Below.alloc ?_ (by simp <;> omega) _)

end Go.Proofs.YtfjckgnclhpmcaaDoor.Vr
