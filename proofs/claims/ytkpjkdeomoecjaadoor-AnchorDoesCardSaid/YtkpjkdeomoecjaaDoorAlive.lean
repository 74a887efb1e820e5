/- live of layer 13. -/
import Derived.Test.YtkpjkdeomoecjaaDoorAcode
import Derived.Test.YtkpjkdeomoecjaaDoorFcal
import Derived.OpenShut
namespace Go.Proofs.YtkpjkdeomoecjaaDoor.Al
set_option linter.unusedSimpArgs false
set_option linter.unusedVariables false
open Go.RowKit Go.Proofs.YtkpjkdeomoecjaaDoor.Bn Go.Proofs.YtkpjkdeomoecjaaDoor.Cp Go.Proofs.YtkpjkdeomoecjaaDoor.Am Go.Proofs.YtkpjkdeomoecjaaDoor.Fp Go.Proofs.YtkpjkdeomoecjaaDoor.Ap Go.Proofs.YtkpjkdeomoecjaaDoor.Cm Go.Proofs.YtkpjkdeomoecjaaDoor.Em Go.Proofs.YtkpjkdeomoecjaaDoor.Ep Go.Proofs.YtkpjkdeomoecjaaDoor.Bx

set_option maxHeartbeats 1000000

/-- the retailers' calendar -/
def nrf0 : CalZ := ⟨⟨#[120]⟩, 3, 6, 1, 1, 1, 4, 5, 4, 0, 12, 2000, 2030, 1⟩
theorem nrf_ok : CalOk nrf0 := ⟨.inr (.inl ⟨rfl, rfl, rfl, rfl, rfl, rfl, rfl, rfl, rfl, rfl⟩), by decide, ⟨by decide, by decide, by decide, by decide⟩, ⟨by decide, by decide, by decide⟩⟩
theorem nrf_end : yend nrf0 2023 = num 2024 2 3 := by decide +kernel
theorem nrf_weeks : (yend nrf0 2023 - yend nrf0 (2023 - 1)) / 7 = 53 := by decide +kernel

set_option maxRecDepth 100000 in
theorem alive_ok (w : World) (tb : FTab w) : Calls Tryd.prog 15 #[] w fun e w' => e = .returned (.bool true) ∧ Below w.heap.size w w' := by
  obtain ⟨N, hN⟩ : ∃ N, N = num 2024 2 3 := ⟨_, rfl⟩
  have c1 : ∀ w, FTab w → Calls Tryd.prog 16 #[.agg #[.string ⟨#[120]⟩, .int .i64 3, .int .i64 6, .int .i64 1, .int .i64 1, .int .i64 1, .int .i64 4, .int .i64 5, .int .i64 4, .int .i64 0, .int .i64 12, .int .i64 2000, .int .i64 2030, .int .i64 1], .int .i64 2023] w fun e w' => e = .returned (.tuple #[.int .i64 N, .int .i64 0]) ∧ Below w.heap.size w w' :=
    fun w T => End_any nrf0 2023 N 0 w (.inl ⟨nrf_ok, by decide, by decide, hN.trans nrf_end.symm, rfl⟩) (by unfold maxLen; decide) T
  have c2 : ∀ w, FTab w → Calls Tryd.prog 22 #[.agg #[.string ⟨#[120]⟩, .int .i64 3, .int .i64 6, .int .i64 1, .int .i64 1, .int .i64 1, .int .i64 4, .int .i64 5, .int .i64 4, .int .i64 0, .int .i64 12, .int .i64 2000, .int .i64 2030, .int .i64 1], .int .i64 2023] w fun e w' => e = .returned (.tuple #[.int .i64 53, .int .i64 0]) ∧ Below w.heap.size w w' :=
    fun w T => Weeks_any nrf0 2023 53 0 w (.inl ⟨nrf_ok, by decide, by decide, by decide, nrf_weeks.symm, rfl⟩) (by unfold maxLen; decide) T
  have c3 := fun w T => Day_any 2024 2 3 N 0 w (.inl ⟨⟨⟨by decide, by decide, by decide, by decide⟩, by decide, by decide⟩, hN, rfl⟩) T
  have C := CalIn.new w nrf0 24
  have B := balloc (Below.refl _ w) (.cells #[.string ⟨#[120]⟩, .int .i64 3, .int .i64 6, .int .i64 1, .int .i64 1, .int .i64 1, .int .i64 4, .int .i64 5, .int .i64 4, .int .i64 0, .int .i64 12, .int .i64 2000, .int .i64 2030, .int .i64 1] 24)
  have T0 := tb.alloc (.cells #[.string ⟨#[120]⟩, .int .i64 3, .int .i64 6, .int .i64 1, .int .i64 1, .int .i64 1, .int .i64 4, .int .i64 5, .int .i64 4, .int .i64 0, .int .i64 12, .int .i64 2000, .int .i64 2030, .int .i64 1] 24)
  clear hN
  go_enter Tryd.func15, Tryd.ntmps15
  go_upto_region 2 with fail
  replace C : CalIn (w.alloc (.cells #[.string ⟨#[120]⟩, .int .i64 3, .int .i64 6, .int .i64 1, .int .i64 1, .int .i64 1, .int .i64 4, .int .i64 5, .int .i64 4, .int .i64 0, .int .i64 12, .int .i64 2000, .int .i64 2030, .int .i64 1] 24)) w.heap.size nrf0 := C
  generalize w.alloc (.cells #[.string ⟨#[120]⟩, .int .i64 3, .int .i64 6, .int .i64 1, .int .i64 1, .int .i64 1, .int .i64 4, .int .i64 5, .int .i64 4, .int .i64 0, .int .i64 12, .int .i64 2000, .int .i64 2030, .int .i64 1] 24) = W0 at *
  obtain ⟨_, k0, k1, k2, k3, k4, k5, k6, k7, k8, k9, k10, k11, k12, k13⟩ := id C
  simp only [nrf0] at k0 k1 k2 k3 k4 k5 k6 k7 k8 k9 k10 k11 k12 k13
  go_wp2_with fail
  refine (c1 _ T0).mono ?_
  rintro e w1 ⟨rfl, hb⟩
  have C1 := C.kept hb
  have B1 := bthen B hb
  have T1 := T0.kept hb
  clear hb C B T0 k0 k1 k2 k3 k4 k5 k6 k7 k8 k9 k10 k11 k12 k13
  obtain ⟨_, k0, k1, k2, k3, k4, k5, k6, k7, k8, k9, k10, k11, k12, k13⟩ := id C1
  simp only [nrf0] at k0 k1 k2 k3 k4 k5 k6 k7 k8 k9 k10 k11 k12 k13
  go_wp2_with fail
  refine (c2 _ T1).mono ?_
  rintro e w2 ⟨rfl, hb⟩
  have B2 := bthen B1 hb
  have T2 := T1.kept hb
  clear hb
  go_wp2_with fail
  refine (c3 _ T2.civ).mono ?_
  rintro e w3 ⟨rfl, hb⟩
  have B3 := bthen B2 hb
  go_wp2
  go_ret
  exact ⟨by simp, B3⟩

end Go.Proofs.YtkpjkdeomoecjaaDoor.Al
