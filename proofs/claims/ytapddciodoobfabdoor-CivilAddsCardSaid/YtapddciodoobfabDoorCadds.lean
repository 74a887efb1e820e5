/- CivilAdds' walk. -/
import Derived.Test.YtapddciodoobfabDoorClive
namespace Go.Proofs.YtapddciodoobfabDoor.Cl
set_option linter.unusedSimpArgs false
set_option linter.unusedVariables false
open Go.RowKit Go.Proofs.YtapddciodoobfabDoor.Bx Go.Proofs.YtapddciodoobfabDoor.Cm Go.Proofs.YtapddciodoobfabDoor.Cp Go.Proofs.YtapddciodoobfabDoor.Cr

set_option maxHeartbeats 1000000

theorem adds_walk (a n m : Int) (w : World) (wa : (Lit.int .i64 a).wf = true) (wn : (Lit.int .i64 n).wf = true) (wm : (Lit.int .i64 m).wf = true) (tb : Tab w) :
    Calls Tryd.prog 4 #[.int .i64 a, .int .i64 n, .int .i64 m] w fun e w' => e = .returned (.bool true) ∧ Below w.heap.size w w' := by
  have fa := bounds_i64 wa
  have fn := bounds_i64 wn
  have fm := bounds_i64 wm
  clear wa wn wm
  have cl := live_ok
  have O : (0 ≤ a ∧ a ≤ 3068036 ∧ 0 ≤ a + n ∧ a + n ≤ 3068036) ∨ ¬ (0 ≤ a ∧ a ≤ 3068036 ∧ 0 ≤ a + n ∧ a + n ≤ 3068036) := by omega
  rcases O with ⟨a0, a1, s0, s1⟩ | no
  · have c1 := fun w => Add_b a n (a + n) 0 w fa fn (.inl ⟨a0, a1, s0, s1, rfl, rfl⟩)
    have c2 := fun w => Add_b (a + n) (-n) a 0 w (by omega) (by omega) (.inl ⟨s0, s1, by omega, by omega, by omega, rfl⟩)
    by_cases h : 0 ≤ a + n + m ∧ a + n + m ≤ 3068036
    · obtain ⟨t0, t1⟩ := h
      have c3 := fun w => Add_b (a + n) m (a + n + m) 0 w (by omega) fm (.inl ⟨s0, s1, t0, t1, rfl, rfl⟩)
      have c4 := fun w => Add_b a (n + m) (a + n + m) 0 w fa (by omega) (.inl ⟨a0, a1, by omega, by omega, by omega, rfl⟩)
      have n0 : -3068036 ≤ n := by omega
      have n1 : n ≤ 3068036 := by omega
      have m0 : -3068036 ≤ m := by omega
      have m1 : m ≤ 3068036 := by omega
      clear fa fn fm
      go_enter Tryd.func4, Tryd.ntmps4
      go_wp2_with fail
      refine (cl _ (by with_reducible first | exact tb.kept B1 | exact (tb.kept B1).alloc _ | exact ((tb.kept B1).alloc _).alloc _ | exact tb | exact tb.alloc _ | exact (tb.alloc _).alloc _ | exact tb.kept (bthen B1 (by first | assumption | exact Below.refl _ _ | exact (Below.refl _ _).drew)))).mono ?_
      rintro e w1 ⟨rfl, hb⟩
      have B1 := bthen (Below.refl _ w) hb
      clear hb
      go_wp2_with fail
      refine (c1 _ (by with_reducible first | exact tb.kept B1 | exact (tb.kept B1).alloc _ | exact ((tb.kept B1).alloc _).alloc _ | exact tb | exact tb.alloc _ | exact (tb.alloc _).alloc _ | exact tb.kept (bthen B1 (by first | assumption | exact Below.refl _ _ | exact (Below.refl _ _).drew)))).mono ?_
      rintro e w2 ⟨rfl, hb⟩
      replace B1 := bthen (B1) hb
      clear hb
      go_wp2_with fail
      refine (c2 _ (by with_reducible first | exact tb.kept B1 | exact (tb.kept B1).alloc _ | exact ((tb.kept B1).alloc _).alloc _ | exact tb | exact tb.alloc _ | exact (tb.alloc _).alloc _ | exact tb.kept (bthen B1 (by first | assumption | exact Below.refl _ _ | exact (Below.refl _ _).drew)))).mono ?_
      rintro e w3 ⟨rfl, hb⟩
      replace B1 := bthen (B1) hb
      clear hb
      go_wp2_with fail
      refine (c3 _ (by with_reducible first | exact tb.kept B1 | exact (tb.kept B1).alloc _ | exact ((tb.kept B1).alloc _).alloc _ | exact tb | exact tb.alloc _ | exact (tb.alloc _).alloc _ | exact tb.kept (bthen B1 (by first | assumption | exact Below.refl _ _ | exact (Below.refl _ _).drew)))).mono ?_
      rintro e w4 ⟨rfl, hb⟩
      replace B1 := bthen (B1) hb
      clear hb
      go_wp2_with fail
      refine (c4 _ (by with_reducible first | exact tb.kept B1 | exact (tb.kept B1).alloc _ | exact ((tb.kept B1).alloc _).alloc _ | exact tb | exact tb.alloc _ | exact (tb.alloc _).alloc _ | exact tb.kept (bthen B1 (by first | assumption | exact Below.refl _ _ | exact (Below.refl _ _).drew)))).mono ?_
      rintro e w5 ⟨rfl, hb⟩
      replace B1 := bthen (B1) hb
      clear hb
      go_wp2
      go_ret
      exact ⟨by simp <;> omega, B1⟩
    · have c3 := fun w => Add_b (a + n) m 0 4 w (by omega) fm (.inr ⟨by omega, rfl, rfl⟩)
      have n0 : -3068036 ≤ n := by omega
      have n1 : n ≤ 3068036 := by omega
      clear fa fn fm h
      go_enter Tryd.func4, Tryd.ntmps4
      go_wp2_with fail
      refine (cl _ (by with_reducible first | exact tb.kept B1 | exact (tb.kept B1).alloc _ | exact ((tb.kept B1).alloc _).alloc _ | exact tb | exact tb.alloc _ | exact (tb.alloc _).alloc _ | exact tb.kept (bthen B1 (by first | assumption | exact Below.refl _ _ | exact (Below.refl _ _).drew)))).mono ?_
      rintro e w1 ⟨rfl, hb⟩
      have B1 := bthen (Below.refl _ w) hb
      clear hb
      go_wp2_with fail
      refine (c1 _ (by with_reducible first | exact tb.kept B1 | exact (tb.kept B1).alloc _ | exact ((tb.kept B1).alloc _).alloc _ | exact tb | exact tb.alloc _ | exact (tb.alloc _).alloc _ | exact tb.kept (bthen B1 (by first | assumption | exact Below.refl _ _ | exact (Below.refl _ _).drew)))).mono ?_
      rintro e w2 ⟨rfl, hb⟩
      replace B1 := bthen (B1) hb
      clear hb
      go_wp2_with fail
      refine (c2 _ (by with_reducible first | exact tb.kept B1 | exact (tb.kept B1).alloc _ | exact ((tb.kept B1).alloc _).alloc _ | exact tb | exact tb.alloc _ | exact (tb.alloc _).alloc _ | exact tb.kept (bthen B1 (by first | assumption | exact Below.refl _ _ | exact (Below.refl _ _).drew)))).mono ?_
      rintro e w3 ⟨rfl, hb⟩
      replace B1 := bthen (B1) hb
      clear hb
      go_wp2_with fail
      refine (c3 _ (by with_reducible first | exact tb.kept B1 | exact (tb.kept B1).alloc _ | exact ((tb.kept B1).alloc _).alloc _ | exact tb | exact tb.alloc _ | exact (tb.alloc _).alloc _ | exact tb.kept (bthen B1 (by first | assumption | exact Below.refl _ _ | exact (Below.refl _ _).drew)))).mono ?_
      rintro e w4 ⟨rfl, hb⟩
      replace B1 := bthen (B1) hb
      clear hb
      go_wp2
      go_ret
      exact ⟨by simp <;> omega, B1⟩
  · have c1 := fun w => Add_b a n 0 4 w fa fn (.inr ⟨no, rfl, rfl⟩)
    clear fa fn fm no
    go_enter Tryd.func4, Tryd.ntmps4
    go_wp2_with fail
    refine (cl _ (by with_reducible first | exact tb.kept B1 | exact (tb.kept B1).alloc _ | exact ((tb.kept B1).alloc _).alloc _ | exact tb | exact tb.alloc _ | exact (tb.alloc _).alloc _ | exact tb.kept (bthen B1 (by first | assumption | exact Below.refl _ _ | exact (Below.refl _ _).drew)))).mono ?_
    rintro e w1 ⟨rfl, hb⟩
    have B1 := bthen (Below.refl _ w) hb
    clear hb
    go_wp2_with fail
    refine (c1 _ (by with_reducible first | exact tb.kept B1 | exact (tb.kept B1).alloc _ | exact ((tb.kept B1).alloc _).alloc _ | exact tb | exact tb.alloc _ | exact (tb.alloc _).alloc _ | exact tb.kept (bthen B1 (by first | assumption | exact Below.refl _ _ | exact (Below.refl _ _).drew)))).mono ?_
    rintro e w2 ⟨rfl, hb⟩
    replace B1 := bthen (B1) hb
    clear hb
    go_wp2
    go_ret
    exact ⟨by simp <;> omega, B1⟩

end Go.Proofs.YtapddciodoobfabDoor.Cl
