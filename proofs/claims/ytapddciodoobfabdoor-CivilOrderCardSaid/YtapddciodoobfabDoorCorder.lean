/- CivilOrder's walk. -/
import Derived.Test.YtapddciodoobfabDoorClive
namespace Go.Proofs.YtapddciodoobfabDoor.Cl
set_option linter.unusedSimpArgs false
set_option linter.unusedVariables false
open Go.RowKit Go.Proofs.YtapddciodoobfabDoor.Bx Go.Proofs.YtapddciodoobfabDoor.Cm Go.Proofs.YtapddciodoobfabDoor.Cp Go.Proofs.YtapddciodoobfabDoor.Cr

set_option maxHeartbeats 1000000

theorem order_walk (y m d a b c : Int) (w : World) (wy : (Lit.int .i64 y).wf = true) (wm : (Lit.int .i64 m).wf = true) (wd : (Lit.int .i64 d).wf = true) (wa : (Lit.int .i64 a).wf = true) (wb : (Lit.int .i64 b).wf = true) (wc : (Lit.int .i64 c).wf = true) (tb : Tab w) :
    Calls Tryd.prog 3 #[.agg #[.int .i64 y, .int .i64 m, .int .i64 d], .agg #[.int .i64 a, .int .i64 b, .int .i64 c]] w fun e w' => e = .returned (.bool true) ∧ Below w.heap.size w w' := by
  have cl := live_ok
  clear wy wm wd wa wb wc
  by_cases ok1 : DateOk y m d
  · by_cases ok2 : DateOk a b c
    · have L := num_less ok1 ok2
      have L2 := num_less ok2 ok1
      obtain ⟨p, hp⟩ : ∃ p, p = num y m d := ⟨_, rfl⟩
      obtain ⟨q, hq⟩ : ∃ q, q = num a b c := ⟨_, rfl⟩
      have c1 := fun w => Day_b y m d p 0 w (.inl ⟨ok1, hp, rfl⟩)
      have c2 := fun w => Day_b a b c q 0 w (.inl ⟨ok2, hq, rfl⟩)
      rw [← hp, ← hq] at L L2
      have O : (y < a ∧ ¬ y = a ∧ p < q ∧ ¬ p = q) ∨ (a < y ∧ ¬ y = a ∧ q < p ∧ ¬ p = q) ∨ (y = a ∧ m < b ∧ ¬ m = b ∧ p < q ∧ ¬ p = q) ∨ (y = a ∧ b < m ∧ ¬ m = b ∧ q < p ∧ ¬ p = q) ∨
          (y = a ∧ m = b ∧ d < c ∧ ¬ d = c ∧ p < q ∧ ¬ p = q) ∨ (y = a ∧ m = b ∧ c < d ∧ ¬ d = c ∧ q < p ∧ ¬ p = q) ∨ (y = a ∧ m = b ∧ d = c ∧ p = q) := by
        rcases Int.lt_trichotomy y a with k | k | k
        · have := L.2 (.inl k); exact .inl ⟨k, by omega, this, by omega⟩
        · rcases Int.lt_trichotomy m b with j | j | j
          · have := L.2 (.inr ⟨k, .inl j⟩); exact .inr (.inr (.inl ⟨k, j, by omega, this, by omega⟩))
          · rcases Int.lt_trichotomy d c with i | i | i
            · have := L.2 (.inr ⟨k, .inr ⟨j, i⟩⟩); exact .inr (.inr (.inr (.inr (.inl ⟨k, j, i, by omega, this, by omega⟩))))
            · exact .inr (.inr (.inr (.inr (.inr (.inr ⟨k, j, i, by rw [hp, hq, k, j, i]⟩)))))
            · have := L2.2 (.inr ⟨k.symm, .inr ⟨j.symm, i⟩⟩); exact .inr (.inr (.inr (.inr (.inr (.inl ⟨k, j, i, by omega, this, by omega⟩)))))
          · have := L2.2 (.inr ⟨k.symm, .inl j⟩); exact .inr (.inr (.inr (.inl ⟨k, j, by omega, this, by omega⟩)))
        · have := L2.2 (.inl k); exact .inr (.inl ⟨k, by omega, this, by omega⟩)
      clear L L2 hp hq ok1 ok2
      rcases O with ⟨k, k1, k2, k3⟩ | ⟨k, k1, k2, k3⟩ | ⟨rfl, k, k1, k2, k3⟩ | ⟨rfl, k, k1, k2, k3⟩ | ⟨rfl, rfl, k, k1, k2, k3⟩ | ⟨rfl, rfl, k, k1, k2, k3⟩ | ⟨rfl, rfl, rfl, rfl⟩
      · go_enter Tryd.func3, Tryd.ntmps3
        go_wp2_with fail
        refine (cl _ (by with_reducible first | exact tb.kept B1 | exact (tb.kept B1).alloc _ | exact ((tb.kept B1).alloc _).alloc _ | exact tb | exact tb.alloc _ | exact (tb.alloc _).alloc _ | exact tb.kept (bthen B1 (by first | assumption | exact Below.refl _ _ | exact (Below.refl _ _).drew)))).mono ?_
        rintro e w1 ⟨rfl, hb⟩
        have P1 := (((Tri.new w (.int .i64 y) (.int .i64 m) (.int .i64 d) 23)).alloc (.cells #[.int .i64 a, .int .i64 b, .int .i64 c] 23)).kept hb
        have P2 := (Tri.new (w.alloc (.cells #[.int .i64 y, .int .i64 m, .int .i64 d] 23)) (.int .i64 a) (.int .i64 b) (.int .i64 c) 23).kept hb
        have B1 := bthen (balloc (balloc (Below.refl _ w) _) _) hb
        try simp only [World.size_alloc] at P1 P2
        clear hb
        obtain ⟨z0, c00, c01, c02, _, _, _⟩ := id P1
        obtain ⟨z1, c10, c11, c12, _, _, _⟩ := id P2
        go_wp2_with fail
        refine (c1 _ (by with_reducible first | exact tb.kept B1 | exact (tb.kept B1).alloc _ | exact ((tb.kept B1).alloc _).alloc _ | exact tb | exact tb.alloc _ | exact (tb.alloc _).alloc _ | exact tb.kept (bthen B1 (by first | assumption | exact Below.refl _ _ | exact (Below.refl _ _).drew)))).mono ?_
        rintro e w2 ⟨rfl, hb⟩
        replace P1 := (P1).kept hb
        replace P2 := (P2).kept hb
        replace B1 := bthen (B1) hb
        clear hb z0 c00 c01 c02 z1 c10 c11 c12
        obtain ⟨z0, c00, c01, c02, _, _, _⟩ := id P1
        obtain ⟨z1, c10, c11, c12, _, _, _⟩ := id P2
        go_wp2_with fail
        refine (c2 _ (by with_reducible first | exact tb.kept B1 | exact (tb.kept B1).alloc _ | exact ((tb.kept B1).alloc _).alloc _ | exact tb | exact tb.alloc _ | exact (tb.alloc _).alloc _ | exact tb.kept (bthen B1 (by first | assumption | exact Below.refl _ _ | exact (Below.refl _ _).drew)))).mono ?_
        rintro e w3 ⟨rfl, hb⟩
        replace P1 := (P1).kept hb
        replace P2 := (P2).kept hb
        replace B1 := bthen (B1) hb
        clear hb z0 c00 c01 c02 z1 c10 c11 c12
        obtain ⟨z0, c00, c01, c02, _, _, _⟩ := id P1
        obtain ⟨z1, c10, c11, c12, _, _, _⟩ := id P2
        go_wp2
        go_ret
        exact ⟨by simp <;> omega, B1⟩
      · go_enter Tryd.func3, Tryd.ntmps3
        go_wp2_with fail
        refine (cl _ (by with_reducible first | exact tb.kept B1 | exact (tb.kept B1).alloc _ | exact ((tb.kept B1).alloc _).alloc _ | exact tb | exact tb.alloc _ | exact (tb.alloc _).alloc _ | exact tb.kept (bthen B1 (by first | assumption | exact Below.refl _ _ | exact (Below.refl _ _).drew)))).mono ?_
        rintro e w1 ⟨rfl, hb⟩
        have P1 := (((Tri.new w (.int .i64 y) (.int .i64 m) (.int .i64 d) 23)).alloc (.cells #[.int .i64 a, .int .i64 b, .int .i64 c] 23)).kept hb
        have P2 := (Tri.new (w.alloc (.cells #[.int .i64 y, .int .i64 m, .int .i64 d] 23)) (.int .i64 a) (.int .i64 b) (.int .i64 c) 23).kept hb
        have B1 := bthen (balloc (balloc (Below.refl _ w) _) _) hb
        try simp only [World.size_alloc] at P1 P2
        clear hb
        obtain ⟨z0, c00, c01, c02, _, _, _⟩ := id P1
        obtain ⟨z1, c10, c11, c12, _, _, _⟩ := id P2
        go_wp2_with fail
        refine (c1 _ (by with_reducible first | exact tb.kept B1 | exact (tb.kept B1).alloc _ | exact ((tb.kept B1).alloc _).alloc _ | exact tb | exact tb.alloc _ | exact (tb.alloc _).alloc _ | exact tb.kept (bthen B1 (by first | assumption | exact Below.refl _ _ | exact (Below.refl _ _).drew)))).mono ?_
        rintro e w2 ⟨rfl, hb⟩
        replace P1 := (P1).kept hb
        replace P2 := (P2).kept hb
        replace B1 := bthen (B1) hb
        clear hb z0 c00 c01 c02 z1 c10 c11 c12
        obtain ⟨z0, c00, c01, c02, _, _, _⟩ := id P1
        obtain ⟨z1, c10, c11, c12, _, _, _⟩ := id P2
        go_wp2_with fail
        refine (c2 _ (by with_reducible first | exact tb.kept B1 | exact (tb.kept B1).alloc _ | exact ((tb.kept B1).alloc _).alloc _ | exact tb | exact tb.alloc _ | exact (tb.alloc _).alloc _ | exact tb.kept (bthen B1 (by first | assumption | exact Below.refl _ _ | exact (Below.refl _ _).drew)))).mono ?_
        rintro e w3 ⟨rfl, hb⟩
        replace P1 := (P1).kept hb
        replace P2 := (P2).kept hb
        replace B1 := bthen (B1) hb
        clear hb z0 c00 c01 c02 z1 c10 c11 c12
        obtain ⟨z0, c00, c01, c02, _, _, _⟩ := id P1
        obtain ⟨z1, c10, c11, c12, _, _, _⟩ := id P2
        go_wp2
        go_ret
        exact ⟨by simp <;> omega, B1⟩
      · go_enter Tryd.func3, Tryd.ntmps3
        go_wp2_with fail
        refine (cl _ (by with_reducible first | exact tb.kept B1 | exact (tb.kept B1).alloc _ | exact ((tb.kept B1).alloc _).alloc _ | exact tb | exact tb.alloc _ | exact (tb.alloc _).alloc _ | exact tb.kept (bthen B1 (by first | assumption | exact Below.refl _ _ | exact (Below.refl _ _).drew)))).mono ?_
        rintro e w1 ⟨rfl, hb⟩
        have P1 := (((Tri.new w (.int .i64 y) (.int .i64 m) (.int .i64 d) 23)).alloc (.cells #[.int .i64 y, .int .i64 b, .int .i64 c] 23)).kept hb
        have P2 := (Tri.new (w.alloc (.cells #[.int .i64 y, .int .i64 m, .int .i64 d] 23)) (.int .i64 y) (.int .i64 b) (.int .i64 c) 23).kept hb
        have B1 := bthen (balloc (balloc (Below.refl _ w) _) _) hb
        try simp only [World.size_alloc] at P1 P2
        clear hb
        obtain ⟨z0, c00, c01, c02, _, _, _⟩ := id P1
        obtain ⟨z1, c10, c11, c12, _, _, _⟩ := id P2
        go_wp2_with fail
        refine (c1 _ (by with_reducible first | exact tb.kept B1 | exact (tb.kept B1).alloc _ | exact ((tb.kept B1).alloc _).alloc _ | exact tb | exact tb.alloc _ | exact (tb.alloc _).alloc _ | exact tb.kept (bthen B1 (by first | assumption | exact Below.refl _ _ | exact (Below.refl _ _).drew)))).mono ?_
        rintro e w2 ⟨rfl, hb⟩
        replace P1 := (P1).kept hb
        replace P2 := (P2).kept hb
        replace B1 := bthen (B1) hb
        clear hb z0 c00 c01 c02 z1 c10 c11 c12
        obtain ⟨z0, c00, c01, c02, _, _, _⟩ := id P1
        obtain ⟨z1, c10, c11, c12, _, _, _⟩ := id P2
        go_wp2_with fail
        refine (c2 _ (by with_reducible first | exact tb.kept B1 | exact (tb.kept B1).alloc _ | exact ((tb.kept B1).alloc _).alloc _ | exact tb | exact tb.alloc _ | exact (tb.alloc _).alloc _ | exact tb.kept (bthen B1 (by first | assumption | exact Below.refl _ _ | exact (Below.refl _ _).drew)))).mono ?_
        rintro e w3 ⟨rfl, hb⟩
        replace P1 := (P1).kept hb
        replace P2 := (P2).kept hb
        replace B1 := bthen (B1) hb
        clear hb z0 c00 c01 c02 z1 c10 c11 c12
        obtain ⟨z0, c00, c01, c02, _, _, _⟩ := id P1
        obtain ⟨z1, c10, c11, c12, _, _, _⟩ := id P2
        go_wp2
        go_ret
        exact ⟨by simp <;> omega, B1⟩
      · go_enter Tryd.func3, Tryd.ntmps3
        go_wp2_with fail
        refine (cl _ (by with_reducible first | exact tb.kept B1 | exact (tb.kept B1).alloc _ | exact ((tb.kept B1).alloc _).alloc _ | exact tb | exact tb.alloc _ | exact (tb.alloc _).alloc _ | exact tb.kept (bthen B1 (by first | assumption | exact Below.refl _ _ | exact (Below.refl _ _).drew)))).mono ?_
        rintro e w1 ⟨rfl, hb⟩
        have P1 := (((Tri.new w (.int .i64 y) (.int .i64 m) (.int .i64 d) 23)).alloc (.cells #[.int .i64 y, .int .i64 b, .int .i64 c] 23)).kept hb
        have P2 := (Tri.new (w.alloc (.cells #[.int .i64 y, .int .i64 m, .int .i64 d] 23)) (.int .i64 y) (.int .i64 b) (.int .i64 c) 23).kept hb
        have B1 := bthen (balloc (balloc (Below.refl _ w) _) _) hb
        try simp only [World.size_alloc] at P1 P2
        clear hb
        obtain ⟨z0, c00, c01, c02, _, _, _⟩ := id P1
        obtain ⟨z1, c10, c11, c12, _, _, _⟩ := id P2
        go_wp2_with fail
        refine (c1 _ (by with_reducible first | exact tb.kept B1 | exact (tb.kept B1).alloc _ | exact ((tb.kept B1).alloc _).alloc _ | exact tb | exact tb.alloc _ | exact (tb.alloc _).alloc _ | exact tb.kept (bthen B1 (by first | assumption | exact Below.refl _ _ | exact (Below.refl _ _).drew)))).mono ?_
        rintro e w2 ⟨rfl, hb⟩
        replace P1 := (P1).kept hb
        replace P2 := (P2).kept hb
        replace B1 := bthen (B1) hb
        clear hb z0 c00 c01 c02 z1 c10 c11 c12
        obtain ⟨z0, c00, c01, c02, _, _, _⟩ := id P1
        obtain ⟨z1, c10, c11, c12, _, _, _⟩ := id P2
        go_wp2_with fail
        refine (c2 _ (by with_reducible first | exact tb.kept B1 | exact (tb.kept B1).alloc _ | exact ((tb.kept B1).alloc _).alloc _ | exact tb | exact tb.alloc _ | exact (tb.alloc _).alloc _ | exact tb.kept (bthen B1 (by first | assumption | exact Below.refl _ _ | exact (Below.refl _ _).drew)))).mono ?_
        rintro e w3 ⟨rfl, hb⟩
        replace P1 := (P1).kept hb
        replace P2 := (P2).kept hb
        replace B1 := bthen (B1) hb
        clear hb z0 c00 c01 c02 z1 c10 c11 c12
        obtain ⟨z0, c00, c01, c02, _, _, _⟩ := id P1
        obtain ⟨z1, c10, c11, c12, _, _, _⟩ := id P2
        go_wp2
        go_ret
        exact ⟨by simp <;> omega, B1⟩
      · go_enter Tryd.func3, Tryd.ntmps3
        go_wp2_with fail
        refine (cl _ (by with_reducible first | exact tb.kept B1 | exact (tb.kept B1).alloc _ | exact ((tb.kept B1).alloc _).alloc _ | exact tb | exact tb.alloc _ | exact (tb.alloc _).alloc _ | exact tb.kept (bthen B1 (by first | assumption | exact Below.refl _ _ | exact (Below.refl _ _).drew)))).mono ?_
        rintro e w1 ⟨rfl, hb⟩
        have P1 := (((Tri.new w (.int .i64 y) (.int .i64 m) (.int .i64 d) 23)).alloc (.cells #[.int .i64 y, .int .i64 m, .int .i64 c] 23)).kept hb
        have P2 := (Tri.new (w.alloc (.cells #[.int .i64 y, .int .i64 m, .int .i64 d] 23)) (.int .i64 y) (.int .i64 m) (.int .i64 c) 23).kept hb
        have B1 := bthen (balloc (balloc (Below.refl _ w) _) _) hb
        try simp only [World.size_alloc] at P1 P2
        clear hb
        obtain ⟨z0, c00, c01, c02, _, _, _⟩ := id P1
        obtain ⟨z1, c10, c11, c12, _, _, _⟩ := id P2
        go_wp2_with fail
        refine (c1 _ (by with_reducible first | exact tb.kept B1 | exact (tb.kept B1).alloc _ | exact ((tb.kept B1).alloc _).alloc _ | exact tb | exact tb.alloc _ | exact (tb.alloc _).alloc _ | exact tb.kept (bthen B1 (by first | assumption | exact Below.refl _ _ | exact (Below.refl _ _).drew)))).mono ?_
        rintro e w2 ⟨rfl, hb⟩
        replace P1 := (P1).kept hb
        replace P2 := (P2).kept hb
        replace B1 := bthen (B1) hb
        clear hb z0 c00 c01 c02 z1 c10 c11 c12
        obtain ⟨z0, c00, c01, c02, _, _, _⟩ := id P1
        obtain ⟨z1, c10, c11, c12, _, _, _⟩ := id P2
        go_wp2_with fail
        refine (c2 _ (by with_reducible first | exact tb.kept B1 | exact (tb.kept B1).alloc _ | exact ((tb.kept B1).alloc _).alloc _ | exact tb | exact tb.alloc _ | exact (tb.alloc _).alloc _ | exact tb.kept (bthen B1 (by first | assumption | exact Below.refl _ _ | exact (Below.refl _ _).drew)))).mono ?_
        rintro e w3 ⟨rfl, hb⟩
        replace P1 := (P1).kept hb
        replace P2 := (P2).kept hb
        replace B1 := bthen (B1) hb
        clear hb z0 c00 c01 c02 z1 c10 c11 c12
        obtain ⟨z0, c00, c01, c02, _, _, _⟩ := id P1
        obtain ⟨z1, c10, c11, c12, _, _, _⟩ := id P2
        go_wp2
        go_ret
        exact ⟨by simp <;> omega, B1⟩
      · go_enter Tryd.func3, Tryd.ntmps3
        go_wp2_with fail
        refine (cl _ (by with_reducible first | exact tb.kept B1 | exact (tb.kept B1).alloc _ | exact ((tb.kept B1).alloc _).alloc _ | exact tb | exact tb.alloc _ | exact (tb.alloc _).alloc _ | exact tb.kept (bthen B1 (by first | assumption | exact Below.refl _ _ | exact (Below.refl _ _).drew)))).mono ?_
        rintro e w1 ⟨rfl, hb⟩
        have P1 := (((Tri.new w (.int .i64 y) (.int .i64 m) (.int .i64 d) 23)).alloc (.cells #[.int .i64 y, .int .i64 m, .int .i64 c] 23)).kept hb
        have P2 := (Tri.new (w.alloc (.cells #[.int .i64 y, .int .i64 m, .int .i64 d] 23)) (.int .i64 y) (.int .i64 m) (.int .i64 c) 23).kept hb
        have B1 := bthen (balloc (balloc (Below.refl _ w) _) _) hb
        try simp only [World.size_alloc] at P1 P2
        clear hb
        obtain ⟨z0, c00, c01, c02, _, _, _⟩ := id P1
        obtain ⟨z1, c10, c11, c12, _, _, _⟩ := id P2
        go_wp2_with fail
        refine (c1 _ (by with_reducible first | exact tb.kept B1 | exact (tb.kept B1).alloc _ | exact ((tb.kept B1).alloc _).alloc _ | exact tb | exact tb.alloc _ | exact (tb.alloc _).alloc _ | exact tb.kept (bthen B1 (by first | assumption | exact Below.refl _ _ | exact (Below.refl _ _).drew)))).mono ?_
        rintro e w2 ⟨rfl, hb⟩
        replace P1 := (P1).kept hb
        replace P2 := (P2).kept hb
        replace B1 := bthen (B1) hb
        clear hb z0 c00 c01 c02 z1 c10 c11 c12
        obtain ⟨z0, c00, c01, c02, _, _, _⟩ := id P1
        obtain ⟨z1, c10, c11, c12, _, _, _⟩ := id P2
        go_wp2_with fail
        refine (c2 _ (by with_reducible first | exact tb.kept B1 | exact (tb.kept B1).alloc _ | exact ((tb.kept B1).alloc _).alloc _ | exact tb | exact tb.alloc _ | exact (tb.alloc _).alloc _ | exact tb.kept (bthen B1 (by first | assumption | exact Below.refl _ _ | exact (Below.refl _ _).drew)))).mono ?_
        rintro e w3 ⟨rfl, hb⟩
        replace P1 := (P1).kept hb
        replace P2 := (P2).kept hb
        replace B1 := bthen (B1) hb
        clear hb z0 c00 c01 c02 z1 c10 c11 c12
        obtain ⟨z0, c00, c01, c02, _, _, _⟩ := id P1
        obtain ⟨z1, c10, c11, c12, _, _, _⟩ := id P2
        go_wp2
        go_ret
        exact ⟨by simp <;> omega, B1⟩
      · go_enter Tryd.func3, Tryd.ntmps3
        go_wp2_with fail
        refine (cl _ (by with_reducible first | exact tb.kept B1 | exact (tb.kept B1).alloc _ | exact ((tb.kept B1).alloc _).alloc _ | exact tb | exact tb.alloc _ | exact (tb.alloc _).alloc _ | exact tb.kept (bthen B1 (by first | assumption | exact Below.refl _ _ | exact (Below.refl _ _).drew)))).mono ?_
        rintro e w1 ⟨rfl, hb⟩
        have P1 := (((Tri.new w (.int .i64 y) (.int .i64 m) (.int .i64 d) 23)).alloc (.cells #[.int .i64 y, .int .i64 m, .int .i64 d] 23)).kept hb
        have P2 := (Tri.new (w.alloc (.cells #[.int .i64 y, .int .i64 m, .int .i64 d] 23)) (.int .i64 y) (.int .i64 m) (.int .i64 d) 23).kept hb
        have B1 := bthen (balloc (balloc (Below.refl _ w) _) _) hb
        try simp only [World.size_alloc] at P1 P2
        clear hb
        obtain ⟨z0, c00, c01, c02, _, _, _⟩ := id P1
        obtain ⟨z1, c10, c11, c12, _, _, _⟩ := id P2
        go_wp2_with fail
        refine (c1 _ (by with_reducible first | exact tb.kept B1 | exact (tb.kept B1).alloc _ | exact ((tb.kept B1).alloc _).alloc _ | exact tb | exact tb.alloc _ | exact (tb.alloc _).alloc _ | exact tb.kept (bthen B1 (by first | assumption | exact Below.refl _ _ | exact (Below.refl _ _).drew)))).mono ?_
        rintro e w2 ⟨rfl, hb⟩
        replace P1 := (P1).kept hb
        replace P2 := (P2).kept hb
        replace B1 := bthen (B1) hb
        clear hb z0 c00 c01 c02 z1 c10 c11 c12
        obtain ⟨z0, c00, c01, c02, _, _, _⟩ := id P1
        obtain ⟨z1, c10, c11, c12, _, _, _⟩ := id P2
        go_wp2_with fail
        refine (c2 _ (by with_reducible first | exact tb.kept B1 | exact (tb.kept B1).alloc _ | exact ((tb.kept B1).alloc _).alloc _ | exact tb | exact tb.alloc _ | exact (tb.alloc _).alloc _ | exact tb.kept (bthen B1 (by first | assumption | exact Below.refl _ _ | exact (Below.refl _ _).drew)))).mono ?_
        rintro e w3 ⟨rfl, hb⟩
        replace P1 := (P1).kept hb
        replace P2 := (P2).kept hb
        replace B1 := bthen (B1) hb
        clear hb z0 c00 c01 c02 z1 c10 c11 c12
        obtain ⟨z0, c00, c01, c02, _, _, _⟩ := id P1
        obtain ⟨z1, c10, c11, c12, _, _, _⟩ := id P2
        go_wp2
        go_ret
        exact ⟨by simp <;> omega, B1⟩
    · obtain ⟨p, pe, rp⟩ := dayres_ex y m d
      have c1 := fun w => Day_b y m d p pe w rp
      have c2 := fun w => Day_b a b c 0 4 w (.inr ⟨ok2, rfl, rfl⟩)
      have e0 : pe = 0 := by
        rcases rp with ⟨_, _, h⟩ | ⟨h, _⟩
        · exact h
        · exact absurd ok1 h
      subst e0
      clear rp ok1 ok2
      go_enter Tryd.func3, Tryd.ntmps3
      go_wp2_with fail
      refine (cl _ (by with_reducible first | exact tb.kept B1 | exact (tb.kept B1).alloc _ | exact ((tb.kept B1).alloc _).alloc _ | exact tb | exact tb.alloc _ | exact (tb.alloc _).alloc _ | exact tb.kept (bthen B1 (by first | assumption | exact Below.refl _ _ | exact (Below.refl _ _).drew)))).mono ?_
      rintro e w1 ⟨rfl, hb⟩
      have P1 := (((Tri.new w (.int .i64 y) (.int .i64 m) (.int .i64 d) 23)).alloc (.cells #[.int .i64 a, .int .i64 b, .int .i64 c] 23)).kept hb
      have P2 := (Tri.new (w.alloc (.cells #[.int .i64 y, .int .i64 m, .int .i64 d] 23)) (.int .i64 a) (.int .i64 b) (.int .i64 c) 23).kept hb
      have B1 := bthen (balloc (balloc (Below.refl _ w) _) _) hb
      try simp only [World.size_alloc] at P1 P2
      clear hb
      obtain ⟨z0, c00, c01, c02, _, _, _⟩ := id P1
      obtain ⟨z1, c10, c11, c12, _, _, _⟩ := id P2
      go_wp2_with fail
      refine (c1 _ (by with_reducible first | exact tb.kept B1 | exact (tb.kept B1).alloc _ | exact ((tb.kept B1).alloc _).alloc _ | exact tb | exact tb.alloc _ | exact (tb.alloc _).alloc _ | exact tb.kept (bthen B1 (by first | assumption | exact Below.refl _ _ | exact (Below.refl _ _).drew)))).mono ?_
      rintro e w2 ⟨rfl, hb⟩
      replace P1 := (P1).kept hb
      replace P2 := (P2).kept hb
      replace B1 := bthen (B1) hb
      clear hb z0 c00 c01 c02 z1 c10 c11 c12
      obtain ⟨z0, c00, c01, c02, _, _, _⟩ := id P1
      obtain ⟨z1, c10, c11, c12, _, _, _⟩ := id P2
      go_wp2_with fail
      refine (c2 _ (by with_reducible first | exact tb.kept B1 | exact (tb.kept B1).alloc _ | exact ((tb.kept B1).alloc _).alloc _ | exact tb | exact tb.alloc _ | exact (tb.alloc _).alloc _ | exact tb.kept (bthen B1 (by first | assumption | exact Below.refl _ _ | exact (Below.refl _ _).drew)))).mono ?_
      rintro e w3 ⟨rfl, hb⟩
      replace P1 := (P1).kept hb
      replace P2 := (P2).kept hb
      replace B1 := bthen (B1) hb
      clear hb z0 c00 c01 c02 z1 c10 c11 c12
      obtain ⟨z0, c00, c01, c02, _, _, _⟩ := id P1
      obtain ⟨z1, c10, c11, c12, _, _, _⟩ := id P2
      go_wp2
      go_ret
      exact ⟨by simp <;> omega, B1⟩
  · obtain ⟨q, qe, rq⟩ := dayres_ex a b c
    have c1 := fun w => Day_b y m d 0 4 w (.inr ⟨ok1, rfl, rfl⟩)
    have c2 := fun w => Day_b a b c q qe w rq
    clear rq ok1
    go_enter Tryd.func3, Tryd.ntmps3
    go_wp2_with fail
    refine (cl _ (by with_reducible first | exact tb.kept B1 | exact (tb.kept B1).alloc _ | exact ((tb.kept B1).alloc _).alloc _ | exact tb | exact tb.alloc _ | exact (tb.alloc _).alloc _ | exact tb.kept (bthen B1 (by first | assumption | exact Below.refl _ _ | exact (Below.refl _ _).drew)))).mono ?_
    rintro e w1 ⟨rfl, hb⟩
    have P1 := (((Tri.new w (.int .i64 y) (.int .i64 m) (.int .i64 d) 23)).alloc (.cells #[.int .i64 a, .int .i64 b, .int .i64 c] 23)).kept hb
    have P2 := (Tri.new (w.alloc (.cells #[.int .i64 y, .int .i64 m, .int .i64 d] 23)) (.int .i64 a) (.int .i64 b) (.int .i64 c) 23).kept hb
    have B1 := bthen (balloc (balloc (Below.refl _ w) _) _) hb
    try simp only [World.size_alloc] at P1 P2
    clear hb
    obtain ⟨z0, c00, c01, c02, _, _, _⟩ := id P1
    obtain ⟨z1, c10, c11, c12, _, _, _⟩ := id P2
    go_wp2_with fail
    refine (c1 _ (by with_reducible first | exact tb.kept B1 | exact (tb.kept B1).alloc _ | exact ((tb.kept B1).alloc _).alloc _ | exact tb | exact tb.alloc _ | exact (tb.alloc _).alloc _ | exact tb.kept (bthen B1 (by first | assumption | exact Below.refl _ _ | exact (Below.refl _ _).drew)))).mono ?_
    rintro e w2 ⟨rfl, hb⟩
    replace P1 := (P1).kept hb
    replace P2 := (P2).kept hb
    replace B1 := bthen (B1) hb
    clear hb z0 c00 c01 c02 z1 c10 c11 c12
    obtain ⟨z0, c00, c01, c02, _, _, _⟩ := id P1
    obtain ⟨z1, c10, c11, c12, _, _, _⟩ := id P2
    go_wp2_with fail
    refine (c2 _ (by with_reducible first | exact tb.kept B1 | exact (tb.kept B1).alloc _ | exact ((tb.kept B1).alloc _).alloc _ | exact tb | exact tb.alloc _ | exact (tb.alloc _).alloc _ | exact tb.kept (bthen B1 (by first | assumption | exact Below.refl _ _ | exact (Below.refl _ _).drew)))).mono ?_
    rintro e w3 ⟨rfl, hb⟩
    replace P1 := (P1).kept hb
    replace P2 := (P2).kept hb
    replace B1 := bthen (B1) hb
    clear hb z0 c00 c01 c02 z1 c10 c11 c12
    obtain ⟨z0, c00, c01, c02, _, _, _⟩ := id P1
    obtain ⟨z1, c10, c11, c12, _, _, _⟩ := id P2
    go_wp2
    go_ret
    exact ⟨by simp <;> omega, B1⟩

end Go.Proofs.YtapddciodoobfabDoor.Cl
