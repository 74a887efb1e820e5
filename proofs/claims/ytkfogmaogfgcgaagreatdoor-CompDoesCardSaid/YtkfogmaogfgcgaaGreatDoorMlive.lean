/- live of layer 19. -/
import Derived.Test.YtkfogmaogfgcgaaGreatDoorJM
import Derived.Test.YtkfogmaogfgcgaaGreatDoorFcal
import Derived.OpenShut
namespace Go.Proofs.YtkfogmaogfgcgaaGreatDoor.Ml
set_option linter.unusedSimpArgs false
set_option linter.unusedVariables false
open Go.RowKit Go.Proofs.YtkfogmaogfgcgaaGreatDoor.Bn Go.Proofs.YtkfogmaogfgcgaaGreatDoor.Bx Go.Proofs.YtkfogmaogfgcgaaGreatDoor.Cp Go.Proofs.YtkfogmaogfgcgaaGreatDoor.Am Go.Proofs.YtkfogmaogfgcgaaGreatDoor.Fp Go.Proofs.YtkfogmaogfgcgaaGreatDoor.Ap Go.Proofs.YtkfogmaogfgcgaaGreatDoor.Cm Go.Proofs.YtkfogmaogfgcgaaGreatDoor.Em Go.Proofs.YtkfogmaogfgcgaaGreatDoor.Ep Go.Proofs.YtkfogmaogfgcgaaGreatDoor.Rk Go.Proofs.YtkfogmaogfgcgaaGreatDoor.Hp Go.Proofs.YtkfogmaogfgcgaaGreatDoor.Ip Go.Proofs.YtkfogmaogfgcgaaGreatDoor.Jp Go.Proofs.YtkfogmaogfgcgaaGreatDoor.Dp Go.Proofs.YtkfogmaogfgcgaaGreatDoor.Mp

set_option maxHeartbeats 4000000

/-- the retailers' calendar, weeks counted from the end -/
def nrf2 : CalZ := ⟨⟨#[120]⟩, 3, 6, 1, 1, 1, 4, 5, 4, 0, 12, 2000, 2030, 2⟩
theorem nrf2_ok : CalOk nrf2 := ⟨.inr (.inl ⟨rfl, rfl, rfl, rfl, rfl, rfl, rfl, rfl, rfl, rfl⟩), by decide, ⟨by decide, by decide, by decide, by decide⟩, ⟨by decide, by decide, by decide⟩⟩
theorem nrf2_23 : yend nrf2 2023 = 154896 := by decide +kernel
theorem nrf2_22 : yend nrf2 2022 = 154525 := by decide +kernel
theorem nrf2_24 : yend nrf2 2024 = 155260 := by decide +kernel
theorem nrf2_n3 : nweeks nrf2 2023 = 53 := by decide +kernel
theorem nrf2_n4 : nweeks nrf2 2024 = 52 := by decide +kernel
theorem nrf2_pol : PolA nrf2 2024 2023 1 2 0 := .inr (.inl ⟨rfl, by rw [nrf2_n3, nrf2_n4]; decide, rfl⟩)
theorem nrf2_week : CWeekA nrf2 2024 2023 1 2 0 := .inl ⟨nrf2_ok, by decide, ⟨by decide, by decide⟩, ⟨by decide, by decide⟩, by decide, by rw [nrf2_n4]; decide, nrf2_pol⟩
theorem nrf2_day : CDayA nrf2 154897 (-1) 154533 0 :=
  ⟨2024, 0, served_of nrf2_ok ⟨by decide, by decide⟩ (by rw [show (2024 : Int) - 1 = 2023 by decide, nrf2_23]; decide) (by rw [nrf2_24]; decide), .inr (.inr (.inl ⟨rfl, ⟨by decide, by decide⟩, by decide, 1, 2,
    by rw [show (2024 : Int) - 1 = 2023 by decide, nrf2_23]; decide, by rw [show (2024 : Int) - 1 = 2023 by decide, nrf2_23]; decide, nrf2_pol, fun _ => by rw [show (2024 : Int) - 1 = 2023 by decide, show (2024 : Int) + -1 - 1 = 2022 by decide, nrf2_23, nrf2_22]; decide, fun h => absurd rfl h⟩))⟩

set_option maxRecDepth 100000 in
theorem mlive_ok (w : World) (tb : FTab w) : Calls Tryz.prog 22 #[] w fun e w' => e = .returned (.bool true) ∧ Below w.heap.size w w' := by
  have q1 : ∀ w, FTab w → Calls Tryz.prog 57 #[.agg #[.string ⟨#[120]⟩, .int .i64 3, .int .i64 6, .int .i64 1, .int .i64 1, .int .i64 1, .int .i64 4, .int .i64 5, .int .i64 4, .int .i64 0, .int .i64 12, .int .i64 2000, .int .i64 2030, .int .i64 2], .int .i64 2024, .int .i64 2023, .int .i64 1] w fun e w' => e = .returned (.tuple #[.int .i64 2, .int .i64 0]) ∧ Below w.heap.size w w' :=
    fun w T => Week_any nrf2 2024 2023 1 2 0 w nrf2_week (by unfold maxLen; decide) T
  have q2 : ∀ w, FTab w → Calls Tryz.prog 58 #[.agg #[.string ⟨#[120]⟩, .int .i64 3, .int .i64 6, .int .i64 1, .int .i64 1, .int .i64 1, .int .i64 4, .int .i64 5, .int .i64 4, .int .i64 0, .int .i64 12, .int .i64 2000, .int .i64 2030, .int .i64 2], .int .i64 2024] w fun e w' => e = .returned (.tuple #[.int .i64 154897, .int .i64 0]) ∧ Below w.heap.size w w' :=
    fun w T => Start_any nrf2 2024 154897 0 w (.inl ⟨nrf2_ok, by decide, by decide, by rw [show (2024 : Int) - 1 = 2023 by decide, nrf2_23]; decide, rfl⟩) (by unfold maxLen; decide) T
  have q3 : ∀ w, FTab w → Calls Tryz.prog 58 #[.agg #[.string ⟨#[120]⟩, .int .i64 3, .int .i64 6, .int .i64 1, .int .i64 1, .int .i64 1, .int .i64 4, .int .i64 5, .int .i64 4, .int .i64 0, .int .i64 12, .int .i64 2000, .int .i64 2030, .int .i64 2], .int .i64 2023] w fun e w' => e = .returned (.tuple #[.int .i64 154526, .int .i64 0]) ∧ Below w.heap.size w w' :=
    fun w T => Start_any nrf2 2023 154526 0 w (.inl ⟨nrf2_ok, by decide, by decide, by rw [show (2023 : Int) - 1 = 2022 by decide, nrf2_22]; decide, rfl⟩) (by unfold maxLen; decide) T
  have q4 : ∀ w, FTab w → Calls Tryz.prog 23 #[.agg #[.string ⟨#[120]⟩, .int .i64 3, .int .i64 6, .int .i64 1, .int .i64 1, .int .i64 1, .int .i64 4, .int .i64 5, .int .i64 4, .int .i64 0, .int .i64 12, .int .i64 2000, .int .i64 2030, .int .i64 2], .int .i64 154897, .int .i64 (-1)] w fun e w' => e = .returned (.tuple #[.int .i64 154533, .int .i64 0]) ∧ Below w.heap.size w w' :=
    fun w T => CDay_any nrf2 154897 (-1) 154533 0 w nrf2_day (by decide) (by unfold maxLen; decide) T
  have C := CalIn.new w nrf2 24
  have B := balloc (Below.refl _ w) (.cells #[.string ⟨#[120]⟩, .int .i64 3, .int .i64 6, .int .i64 1, .int .i64 1, .int .i64 1, .int .i64 4, .int .i64 5, .int .i64 4, .int .i64 0, .int .i64 12, .int .i64 2000, .int .i64 2030, .int .i64 2] 24)
  have T := tb.alloc (.cells #[.string ⟨#[120]⟩, .int .i64 3, .int .i64 6, .int .i64 1, .int .i64 1, .int .i64 1, .int .i64 4, .int .i64 5, .int .i64 4, .int .i64 0, .int .i64 12, .int .i64 2000, .int .i64 2030, .int .i64 2] 24)
  go_enter Tryz.func22, Tryz.ntmps22
  go_upto_region 2 with fail
  replace C : CalIn (w.alloc (.cells #[.string ⟨#[120]⟩, .int .i64 3, .int .i64 6, .int .i64 1, .int .i64 1, .int .i64 1, .int .i64 4, .int .i64 5, .int .i64 4, .int .i64 0, .int .i64 12, .int .i64 2000, .int .i64 2030, .int .i64 2] 24)) w.heap.size nrf2 := C
  generalize w.alloc (.cells #[.string ⟨#[120]⟩, .int .i64 3, .int .i64 6, .int .i64 1, .int .i64 1, .int .i64 1, .int .i64 4, .int .i64 5, .int .i64 4, .int .i64 0, .int .i64 12, .int .i64 2000, .int .i64 2030, .int .i64 2] 24) = W0 at *
  obtain ⟨_, k0, k1, k2, k3, k4, k5, k6, k7, k8, k9, k10, k11, k12, k13⟩ := id C
  simp only [nrf2] at k0 k1 k2 k3 k4 k5 k6 k7 k8 k9 k10 k11 k12 k13
  go_wp2_with fail
  refine (q1 _ T).mono ?_
  rintro e w1 ⟨rfl, hb⟩
  replace C := C.kept hb
  replace B := bthen B hb
  replace T := T.kept hb
  clear hb k0 k1 k2 k3 k4 k5 k6 k7 k8 k9 k10 k11 k12 k13
  obtain ⟨_, k0, k1, k2, k3, k4, k5, k6, k7, k8, k9, k10, k11, k12, k13⟩ := id C
  simp only [nrf2] at k0 k1 k2 k3 k4 k5 k6 k7 k8 k9 k10 k11 k12 k13
  go_wp2_with fail
  refine (q2 _ T).mono ?_
  rintro e w2 ⟨rfl, hb⟩
  replace C := C.kept hb
  replace B := bthen B hb
  replace T := T.kept hb
  clear hb k0 k1 k2 k3 k4 k5 k6 k7 k8 k9 k10 k11 k12 k13
  obtain ⟨_, k0, k1, k2, k3, k4, k5, k6, k7, k8, k9, k10, k11, k12, k13⟩ := id C
  simp only [nrf2] at k0 k1 k2 k3 k4 k5 k6 k7 k8 k9 k10 k11 k12 k13
  go_wp2_with fail
  refine (q3 _ T).mono ?_
  rintro e w3 ⟨rfl, hb⟩
  replace C := C.kept hb
  replace B := bthen B hb
  replace T := T.kept hb
  clear hb k0 k1 k2 k3 k4 k5 k6 k7 k8 k9 k10 k11 k12 k13
  obtain ⟨_, k0, k1, k2, k3, k4, k5, k6, k7, k8, k9, k10, k11, k12, k13⟩ := id C
  simp only [nrf2] at k0 k1 k2 k3 k4 k5 k6 k7 k8 k9 k10 k11 k12 k13
  go_wp2_with fail
  refine (q4 _ T).mono ?_
  rintro e w4 ⟨rfl, hb⟩
  replace C := C.kept hb
  replace B := bthen B hb
  replace T := T.kept hb
  clear hb k0 k1 k2 k3 k4 k5 k6 k7 k8 k9 k10 k11 k12 k13
  obtain ⟨_, k0, k1, k2, k3, k4, k5, k6, k7, k8, k9, k10, k11, k12, k13⟩ := id C
  simp only [nrf2] at k0 k1 k2 k3 k4 k5 k6 k7 k8 k9 k10 k11 k12 k13
  go_wp2
  go_ret
  exact ⟨by simp, B⟩

end Go.Proofs.YtkfogmaogfgcgaaGreatDoor.Ml
