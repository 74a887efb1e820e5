/- live of layer 14. -/
import Derived.Test.YtkpjkdeomoecjaaDoorJcode2
import Derived.Test.YtkpjkdeomoecjaaDoorTparse
import Derived.Test.YtkpjkdeomoecjaaDoorFcal
import Derived.OpenShut
namespace Go.Proofs.YtkpjkdeomoecjaaDoor.Jl
set_option linter.unusedSimpArgs false
set_option linter.unusedVariables false
open Go.RowKit Go.Proofs.YtkpjkdeomoecjaaDoor.Bn Go.Proofs.YtkpjkdeomoecjaaDoor.Am Go.Proofs.YtkpjkdeomoecjaaDoor.Fp Go.Proofs.YtkpjkdeomoecjaaDoor.Ap Go.Proofs.YtkpjkdeomoecjaaDoor.Cm Go.Proofs.YtkpjkdeomoecjaaDoor.Em Go.Proofs.YtkpjkdeomoecjaaDoor.Ep Go.Proofs.YtkpjkdeomoecjaaDoor.Bx Go.Proofs.YtkpjkdeomoecjaaDoor.Jp

open Go.Proofs.YtkpjkdeomoecjaaDoor.Cp (Tab Day_any Length_any Weekday_any)

set_option maxHeartbeats 1000000

/-- the retailers' calendar -/
def nrf1 : CalZ := ⟨⟨#[120]⟩, 3, 6, 1, 1, 1, 4, 5, 4, 0, 12, 2000, 2030, 1⟩
theorem nrf1_ok : CalOk nrf1 := ⟨.inr (.inl ⟨rfl, rfl, rfl, rfl, rfl, rfl, rfl, rfl, rfl, rfl⟩), by decide, ⟨by decide, by decide, by decide, by decide⟩, ⟨by decide, by decide, by decide⟩⟩
theorem nrf1_of : OfA nrf1 154896 2023 0 := .inl ⟨nrf1_ok, by decide, by decide, by decide, by decide, by decide +kernel, by decide +kernel, rfl⟩
theorem nrf1_next : OfA nrf1 154897 2024 0 := .inl ⟨nrf1_ok, by decide, by decide, by decide, by decide, by decide +kernel, by decide +kernel, rfl⟩
theorem nrf1_day : num 2024 2 3 = 154896 := by decide +kernel

set_option maxRecDepth 100000 in
theorem jlive_ok (w : World) (tb : FTab w) : Calls Tryd.prog 32 #[] w fun e w' => e = .returned (.bool true) ∧ Below w.heap.size w w' := by
  have e1 : Go.Proofs.YtkpjkdeomoecjaaDoor.Tm.dstr 2024 2 3 = ⟨#[50, 48, 50, 52, 45, 48, 50, 45, 48, 51]⟩ := rfl
  have c0 := fun w T => Go.Proofs.YtkpjkdeomoecjaaDoor.Tp.Parse_any ⟨#[50, 48, 50, 52, 45, 48, 50, 45, 48, 51]⟩ 154896 0 w (by unfold maxLen; decide) (.inl ⟨2024, 2, 3, by decide, by decide, by decide, by decide, by decide, by decide, e1.symm, .inl ⟨⟨⟨by decide, by decide, by decide, by decide⟩, by decide, by decide⟩, nrf1_day.symm, rfl⟩⟩) T
  have c1 : ∀ w, FTab w → Calls Tryd.prog 33 #[.agg #[.string ⟨#[120]⟩, .int .i64 3, .int .i64 6, .int .i64 1, .int .i64 1, .int .i64 1, .int .i64 4, .int .i64 5, .int .i64 4, .int .i64 0, .int .i64 12, .int .i64 2000, .int .i64 2030, .int .i64 1], .int .i64 154896] w fun e w' => e = .returned (.tuple #[.int .i64 2023, .int .i64 0]) ∧ Below w.heap.size w w' :=
    fun w T => Of_any nrf1 154896 2023 0 w nrf1_of (by unfold maxLen; decide) T
  have c2 : ∀ w, FTab w → Calls Tryd.prog 39 #[.agg #[.string ⟨#[120]⟩, .int .i64 3, .int .i64 6, .int .i64 1, .int .i64 1, .int .i64 1, .int .i64 4, .int .i64 5, .int .i64 4, .int .i64 0, .int .i64 12, .int .i64 2000, .int .i64 2030, .int .i64 1], .int .i64 154897] w fun e w' => e = .returned (.tuple #[.int .i64 2024, .int .i64 0]) ∧ Below w.heap.size w w' :=
    fun w T => Served_any nrf1 154897 2024 0 w ⟨2024, 0, nrf1_next, .inr (.inl ⟨rfl, by decide, by decide, rfl, rfl⟩)⟩ (by unfold maxLen; decide) T
  have C := CalIn.new w nrf1 24
  have B := balloc (Below.refl _ w) (.cells #[.string ⟨#[120]⟩, .int .i64 3, .int .i64 6, .int .i64 1, .int .i64 1, .int .i64 1, .int .i64 4, .int .i64 5, .int .i64 4, .int .i64 0, .int .i64 12, .int .i64 2000, .int .i64 2030, .int .i64 1] 24)
  have T0 := tb.alloc (.cells #[.string ⟨#[120]⟩, .int .i64 3, .int .i64 6, .int .i64 1, .int .i64 1, .int .i64 1, .int .i64 4, .int .i64 5, .int .i64 4, .int .i64 0, .int .i64 12, .int .i64 2000, .int .i64 2030, .int .i64 1] 24)
  clear e1
  go_enter Tryd.func32, Tryd.ntmps32
  go_upto_region 2 with fail
  replace C : CalIn (w.alloc (.cells #[.string ⟨#[120]⟩, .int .i64 3, .int .i64 6, .int .i64 1, .int .i64 1, .int .i64 1, .int .i64 4, .int .i64 5, .int .i64 4, .int .i64 0, .int .i64 12, .int .i64 2000, .int .i64 2030, .int .i64 1] 24)) w.heap.size nrf1 := C
  generalize w.alloc (.cells #[.string ⟨#[120]⟩, .int .i64 3, .int .i64 6, .int .i64 1, .int .i64 1, .int .i64 1, .int .i64 4, .int .i64 5, .int .i64 4, .int .i64 0, .int .i64 12, .int .i64 2000, .int .i64 2030, .int .i64 1] 24) = W0 at *
  go_wp2_with fail
  refine (c0 _ T0.civ).mono ?_
  rintro e w1 ⟨rfl, hb⟩
  have C1 := C.kept hb
  have B1 := bthen B hb
  have T1 := T0.kept hb
  clear hb C B T0
  obtain ⟨_, k0, k1, k2, k3, k4, k5, k6, k7, k8, k9, k10, k11, k12, k13⟩ := id C1
  simp only [nrf1] at k0 k1 k2 k3 k4 k5 k6 k7 k8 k9 k10 k11 k12 k13
  go_wp2_with fail
  refine (c1 _ T1).mono ?_
  rintro e w2 ⟨rfl, hb⟩
  have C2 := C1.kept hb
  have B2 := bthen B1 hb
  have T2 := T1.kept hb
  clear hb C1 B1 T1 k0 k1 k2 k3 k4 k5 k6 k7 k8 k9 k10 k11 k12 k13
  obtain ⟨_, k0, k1, k2, k3, k4, k5, k6, k7, k8, k9, k10, k11, k12, k13⟩ := id C2
  simp only [nrf1] at k0 k1 k2 k3 k4 k5 k6 k7 k8 k9 k10 k11 k12 k13
  go_wp2_with fail
  refine (c2 _ T2).mono ?_
  rintro e w3 ⟨rfl, hb⟩
  have B3 := bthen B2 hb
  go_wp2
  go_ret
  exact ⟨by simp, B3⟩

end Go.Proofs.YtkpjkdeomoecjaaDoor.Jl
