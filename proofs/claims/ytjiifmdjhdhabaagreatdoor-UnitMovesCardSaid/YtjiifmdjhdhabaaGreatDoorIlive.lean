/- live of layer 16, and UnitCover's walk. -/
import Derived.Test.YtjiifmdjhdhabaaGreatDoorIcode9
import Derived.Test.YtjiifmdjhdhabaaGreatDoorFcal
import Derived.OpenShut
namespace Go.Proofs.YtjiifmdjhdhabaaGreatDoor.Il
set_option linter.unusedSimpArgs false
set_option linter.unusedVariables false
open Go.RowKit Go.Proofs.YtjiifmdjhdhabaaGreatDoor.Bn Go.Proofs.YtjiifmdjhdhabaaGreatDoor.Bx Go.Proofs.YtjiifmdjhdhabaaGreatDoor.Cp Go.Proofs.YtjiifmdjhdhabaaGreatDoor.Am Go.Proofs.YtjiifmdjhdhabaaGreatDoor.Fp Go.Proofs.YtjiifmdjhdhabaaGreatDoor.Ap Go.Proofs.YtjiifmdjhdhabaaGreatDoor.Cm Go.Proofs.YtjiifmdjhdhabaaGreatDoor.Em Go.Proofs.YtjiifmdjhdhabaaGreatDoor.Ep Go.Proofs.YtjiifmdjhdhabaaGreatDoor.Rk Go.Proofs.YtjiifmdjhdhabaaGreatDoor.Hp Go.Proofs.YtjiifmdjhdhabaaGreatDoor.Ip

set_option maxHeartbeats 4000000

/-- the retailers' calendar -/
def nrf1 : CalZ := ⟨⟨#[120]⟩, 3, 6, 1, 1, 1, 4, 5, 4, 0, 12, 2000, 2030, 1⟩
theorem nrf1_ok : CalOk nrf1 := ⟨.inr (.inl ⟨rfl, rfl, rfl, rfl, rfl, rfl, rfl, rfl, rfl, rfl⟩), by decide, ⟨by decide, by decide, by decide, by decide⟩, ⟨by decide, by decide, by decide⟩⟩
theorem nrf1_count : CountA nrf1 5 2023 53 0 := .inl ⟨nrf1_ok, ⟨by decide, by decide⟩, ⟨by decide, by decide⟩, by
  rw [(ucount_is nrf1 2023).2.2.2.2, nwk_weeks nrf1_ok.1 (by decide) (by decide) (by decide)]
  decide +kernel, rfl⟩
theorem nrf1_down : DownA nrf1 2 2023 2 4 4 2023 7 12 0 := by
  have p6 : per nrf1 = 12 := by decide
  have m := fun a b h => pend_mono (c := nrf1) (y := 2023) nrf1_ok.1 (by decide) (by decide) (a := a) (b := b) h
  have uc := ucount_is nrf1 2023
  refine .inl ⟨⟨nrf1_ok, ⟨by decide, by decide⟩, ⟨by decide, by decide⟩, by decide, by rw [uc.2.1]; decide⟩, by decide, by decide, ?_, ?_, rfl, rfl, rfl⟩
  · rw [uend_2, p6]
    have a := m 6 7 (by decide) (by decide) (by rw [p6]; decide)
    refine ⟨by decide, by rw [uc.2.2.2.1, p6]; decide, ?_, ?_⟩
    · rw [uend_4]; show pend nrf1 2023 6 < pend nrf1 2023 6 + 1; omega
    · rw [uend_4]; show pend nrf1 2023 6 + 1 ≤ pend nrf1 2023 7; omega
  · rw [uend_2, p6]
    have a := m 11 12 (by decide) (by decide) (by rw [p6]; decide)
    refine ⟨by decide, by rw [uc.2.2.2.1, p6]; decide, ?_, ?_⟩
    · rw [uend_4]; show pend nrf1 2023 11 < pend nrf1 2023 12; omega
    · rw [uend_4]; exact Int.le_refl _

set_option maxRecDepth 100000 in
theorem ilive_ok (w : World) (tb : FTab w) : Calls Tryz.prog 6 #[] w fun e w' => e = .returned (.bool true) ∧ Below w.heap.size w w' := by
  have c1 : ∀ w, FTab w → Calls Tryz.prog 7 #[.agg #[.string ⟨#[120]⟩, .int .i64 3, .int .i64 6, .int .i64 1, .int .i64 1, .int .i64 1, .int .i64 4, .int .i64 5, .int .i64 4, .int .i64 0, .int .i64 12, .int .i64 2000, .int .i64 2030, .int .i64 1], .int .i64 5, .int .i64 2023] w fun e w' => e = .returned (.tuple #[.int .i64 53, .int .i64 0]) ∧ Below w.heap.size w w' :=
    fun w T => Count_any nrf1 5 2023 53 0 w nrf1_count (by unfold maxLen; decide) T
  have c2 : ∀ w, FTab w → Calls Tryz.prog 15 #[.agg #[.string ⟨#[120]⟩, .int .i64 3, .int .i64 6, .int .i64 1, .int .i64 1, .int .i64 1, .int .i64 4, .int .i64 5, .int .i64 4, .int .i64 0, .int .i64 12, .int .i64 2000, .int .i64 2030, .int .i64 1], .agg #[.int .i64 2, .int .i64 2023, .int .i64 2], .int .i64 4] w fun e w' => e = .returned (.tuple #[.agg #[.int .i64 4, .int .i64 2023, .int .i64 7], .agg #[.int .i64 4, .int .i64 2023, .int .i64 12], .int .i64 0]) ∧ Below w.heap.size w w' :=
    fun w T => Down_any nrf1 2 2023 2 4 4 2023 7 12 0 w nrf1_down (by unfold maxLen; decide) T
  have C := CalIn.new w nrf1 24
  have B := balloc (Below.refl _ w) (.cells #[.string ⟨#[120]⟩, .int .i64 3, .int .i64 6, .int .i64 1, .int .i64 1, .int .i64 1, .int .i64 4, .int .i64 5, .int .i64 4, .int .i64 0, .int .i64 12, .int .i64 2000, .int .i64 2030, .int .i64 1] 24)
  have T0 := tb.alloc (.cells #[.string ⟨#[120]⟩, .int .i64 3, .int .i64 6, .int .i64 1, .int .i64 1, .int .i64 1, .int .i64 4, .int .i64 5, .int .i64 4, .int .i64 0, .int .i64 12, .int .i64 2000, .int .i64 2030, .int .i64 1] 24)
  go_enter Tryz.func6, Tryz.ntmps6
  go_upto_region 2 with fail
  replace C : CalIn (w.alloc (.cells #[.string ⟨#[120]⟩, .int .i64 3, .int .i64 6, .int .i64 1, .int .i64 1, .int .i64 1, .int .i64 4, .int .i64 5, .int .i64 4, .int .i64 0, .int .i64 12, .int .i64 2000, .int .i64 2030, .int .i64 1] 24)) w.heap.size nrf1 := C
  generalize w.alloc (.cells #[.string ⟨#[120]⟩, .int .i64 3, .int .i64 6, .int .i64 1, .int .i64 1, .int .i64 1, .int .i64 4, .int .i64 5, .int .i64 4, .int .i64 0, .int .i64 12, .int .i64 2000, .int .i64 2030, .int .i64 1] 24) = W0 at *
  obtain ⟨_, k0, k1, k2, k3, k4, k5, k6, k7, k8, k9, k10, k11, k12, k13⟩ := id C
  simp only [nrf1] at k0 k1 k2 k3 k4 k5 k6 k7 k8 k9 k10 k11 k12 k13
  go_wp2_with fail
  refine (c1 _ T0).mono ?_
  rintro e w1 ⟨rfl, hb⟩
  have C1 := C.kept hb
  have B1 := bthen B hb
  have T1 := T0.kept hb
  clear hb C B T0 k0 k1 k2 k3 k4 k5 k6 k7 k8 k9 k10 k11 k12 k13
  obtain ⟨_, k0, k1, k2, k3, k4, k5, k6, k7, k8, k9, k10, k11, k12, k13⟩ := id C1
  simp only [nrf1] at k0 k1 k2 k3 k4 k5 k6 k7 k8 k9 k10 k11 k12 k13
  go_wp2_with fail
  refine (c2 _ T1).mono ?_
  rintro e w2 ⟨rfl, hb⟩
  have B2 := bthen B1 hb
  clear k0 k1 k2 k3 k4 k5 k6 k7 k8 k9 k10 k11 k12 k13
  go_wp2
  go_ret
  exact ⟨by simp, balloc (balloc B2 _) _⟩

end Go.Proofs.YtjiifmdjhdhabaaGreatDoor.Il
