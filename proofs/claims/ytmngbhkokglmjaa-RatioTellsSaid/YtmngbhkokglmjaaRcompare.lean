/- What Cmp of the reference of layer 2 comes to. -/
import Derived.Test.YtmngbhkokglmjaaRneg
namespace Go.Proofs.Ytmngbhkokglmjaa.Vr
open Go.RowKit Go.Proofs.Ytmngbhkokglmjaa.Vm Go.Proofs.Ytmngbhkokglmjaa.Vc Go.Proofs.Ytmngbhkokglmjaa.Vl
attribute [local go_sem] alloc_drewN setCell_drewN

set_option maxHeartbeats 1000000

theorem rCmp_to (h1 l1 h2 l2 v : Int) (w : World) (b1 : Bd h1 l1) (b2 : Bd h2 l2) (ev : Hid (cv (num h1 l1) (num h2 l2) = v)) :
    Calls Try.prog 55 #[.agg #[.int .i64 h1, .int .u64 l1], .agg #[.int .i64 h2, .int .u64 l2]] w fun e w' => e = .returned (.int .i64 v) ∧ Below w.heap.size w w' := by
  obtain ⟨n0, n1, n2⟩ := num_abs h1 l1 b1
  obtain ⟨m0, m1, m2⟩ := num_abs h2 l2 b2
  obtain ⟨x0, x1, x2, x3, x4, x5, x6, x7, D⟩ := d8_ex n0 n1
  obtain ⟨y0, y1, y2, y3, y4, y5, y6, y7, E⟩ := d8_ex m0 m1
  have co1 := fun w => of_at h1 l1 x0 x1 x2 x3 x4 x5 x6 x7 w b1 D
  have co2 := fun w => of_at h2 l2 y0 y1 y2 y3 y4 y5 y6 y7 w b2 E
  have cp1 := fun v w e => cmp_to ((num h1 l1).natAbs : Int) ((num h2 l2).natAbs : Int) v x0 x1 x2 x3 x4 x5 x6 x7 y0 y1 y2 y3 y4 y5 y6 y7 w D E e
  have cp2 := fun v w e => cmp_to ((num h2 l2).natAbs : Int) ((num h1 l1).natAbs : Int) v y0 y1 y2 y3 y4 y5 y6 y7 x0 x1 x2 x3 x4 x5 x6 x7 w E D e
  clear D E n1 m1
  generalize ((num h1 l1).natAbs : Int) = x at *
  generalize ((num h2 l2).natAbs : Int) = y at *
  replace n2 := Lib.hid n2
  replace m2 := Lib.hid m2
  have cs : decide (h1 < 0) = true ∨ decide (h1 < 0) = false := by cases decide (h1 < 0) <;> simp
  have ct : decide (h2 < 0) = true ∨ decide (h2 < 0) = false := by cases decide (h2 < 0) <;> simp
  rcases cs with s | s <;> rcases ct with t | t
  · have N := n2.out
    have M := m2.out
    rw [s] at N
    rw [t] at M
    have EV : cv y x = v := by
      have := ev.out
      rw [← N, ← M] at this
      unfold sgn cv at *
      simp at this ⊢
      rw [← this]
      repeat' split
      all_goals omega
    replace EV := Lib.hid EV
    clear N M n2 m2 ev
    go_enter Try.func55, Try.ntmps55
    go_wp2_with fail
    refine (co1 _).mono ?_
    rintro e w' ⟨rfl, rfl⟩
    go_wp2_with fail
    refine (co2 _).mono ?_
    rintro e w' ⟨rfl, rfl⟩
    go_wp2_with fail
    refine (cp2 v _ EV).mono ?_
    rintro e w1 ⟨rfl, hb1⟩
    go_wp2
    go_ret
    refine ⟨rfl, Below.trans ?_ (hb1.mono (by simp <;> omega))⟩
    repeat (first | exact Below.refl _ _ | refine Below.alloc ?_ (by simp <;> omega) _)
  · have N := n2.out
    have M := m2.out
    rw [s] at N
    rw [t] at M
    have EV : -1 = v := by
      have := ev.out
      unfold cv at this
      have g : num h1 l1 < num h2 l2 := by unfold num; unfold Bd at *; simp at s t; omega
      rw [if_pos g] at this
      exact this
    replace EV := Lib.hid EV
    clear N M n2 m2 ev
    go_enter Try.func55, Try.ntmps55
    go_wp2_with fail
    refine (co1 _).mono ?_
    rintro e w' ⟨rfl, rfl⟩
    go_wp2_with fail
    refine (co2 _).mono ?_
    rintro e w' ⟨rfl, rfl⟩
    go_wp2
    go_ret
    refine ⟨ret_one EV.out, ?_⟩
    repeat (first | exact Below.refl _ _ | refine Below.alloc ?_ (by simp <;> omega) _)
  · have N := n2.out
    have M := m2.out
    rw [s] at N
    rw [t] at M
    have EV : 1 = v := by
      have := ev.out
      unfold cv at this
      have g : num h2 l2 < num h1 l1 := by unfold num; unfold Bd at *; simp at s t; omega
      rw [if_neg (by omega), if_pos g] at this
      exact this
    replace EV := Lib.hid EV
    clear N M n2 m2 ev
    go_enter Try.func55, Try.ntmps55
    go_wp2_with fail
    refine (co1 _).mono ?_
    rintro e w' ⟨rfl, rfl⟩
    go_wp2_with fail
    refine (co2 _).mono ?_
    rintro e w' ⟨rfl, rfl⟩
    go_wp2
    go_ret
    refine ⟨ret_one EV.out, ?_⟩
    repeat (first | exact Below.refl _ _ | refine Below.alloc ?_ (by simp <;> omega) _)
  · have N := n2.out
    have M := m2.out
    rw [s] at N
    rw [t] at M
    have EV : cv x y = v := by
      have := ev.out
      rw [← N, ← M] at this
      unfold sgn cv at *
      simp at this ⊢
      rw [← this]
      repeat' split
      all_goals omega
    replace EV := Lib.hid EV
    clear N M n2 m2 ev
    go_enter Try.func55, Try.ntmps55
    go_wp2_with fail
    refine (co1 _).mono ?_
    rintro e w' ⟨rfl, rfl⟩
    go_wp2_with fail
    refine (co2 _).mono ?_
    rintro e w' ⟨rfl, rfl⟩
    go_wp2_with fail
    refine (cp1 v _ EV).mono ?_
    rintro e w1 ⟨rfl, hb1⟩
    go_wp2
    go_ret
    refine ⟨rfl, Below.trans ?_ (hb1.mono (by simp <;> omega))⟩
    repeat (first | exact Below.refl _ _ | refine Below.alloc ?_ (by simp <;> omega) _)

end Go.Proofs.Ytmngbhkokglmjaa.Vr
