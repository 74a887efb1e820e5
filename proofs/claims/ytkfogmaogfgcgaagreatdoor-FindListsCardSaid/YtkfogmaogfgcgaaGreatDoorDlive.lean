/- live of layer 17, and FindBack's walk. -/
import Derived.Test.YtkfogmaogfgcgaaGreatDoorDcode
import Derived.Test.YtkfogmaogfgcgaaGreatDoorTparse
import Derived.Test.YtkfogmaogfgcgaaGreatDoorFcal
import Derived.OpenShut
namespace Go.Proofs.YtkfogmaogfgcgaaGreatDoor.Dl
set_option linter.unusedSimpArgs false
set_option linter.unusedVariables false
open Go.RowKit Go.Proofs.YtkfogmaogfgcgaaGreatDoor.Bn Go.Proofs.YtkfogmaogfgcgaaGreatDoor.Bx Go.Proofs.YtkfogmaogfgcgaaGreatDoor.Cp Go.Proofs.YtkfogmaogfgcgaaGreatDoor.Am Go.Proofs.YtkfogmaogfgcgaaGreatDoor.Fp Go.Proofs.YtkfogmaogfgcgaaGreatDoor.Ap Go.Proofs.YtkfogmaogfgcgaaGreatDoor.Cm Go.Proofs.YtkfogmaogfgcgaaGreatDoor.Em Go.Proofs.YtkfogmaogfgcgaaGreatDoor.Ep Go.Proofs.YtkfogmaogfgcgaaGreatDoor.Rk Go.Proofs.YtkfogmaogfgcgaaGreatDoor.Hp Go.Proofs.YtkfogmaogfgcgaaGreatDoor.Ip Go.Proofs.YtkfogmaogfgcgaaGreatDoor.Jp Go.Proofs.YtkfogmaogfgcgaaGreatDoor.Dp

set_option maxHeartbeats 4000000

/-- the retailers' calendar -/
def nrf1 : CalZ := ⟨⟨#[120]⟩, 3, 6, 1, 1, 1, 4, 5, 4, 0, 12, 2000, 2030, 1⟩
theorem nrf1_ok : CalOk nrf1 := ⟨.inr (.inl ⟨rfl, rfl, rfl, rfl, rfl, rfl, rfl, rfl, rfl, rfl⟩), by decide, ⟨by decide, by decide, by decide, by decide⟩, ⟨by decide, by decide, by decide⟩⟩
theorem nrf1_day : num 2024 2 3 = 154896 := by decide +kernel
theorem nrf1_yend : yend nrf1 2023 = 154896 := by decide +kernel
theorem nrf1_last {L n : Int} (l : LevOk L) (e : ucount nrf1 2023 L = n) : DayA nrf1 154896 L L 2023 n 0 := by
  have b := ucount_bd (c := nrf1) (L := L) (y := 2023) nrf1_ok.1 (by decide) (by decide)
  have z := uend_last (c := nrf1) (L := L) (y := 2023) nrf1_ok.1 (by decide) (by decide) l
  have z2 := pend_last (c := nrf1) (y := 2023) nrf1_ok.1 (by decide) (by decide)
  have y1 := nrf1_yend
  have t := uend_step (c := nrf1) (L := L) (y := 2023) (i := n - 1) nrf1_ok.1 (by decide) (by decide) l (by omega) (by omega)
  rw [show n - 1 + 1 = n by omega] at t
  rw [e] at z
  exact daya_of ⟨nrf1_ok, l, ⟨by decide, by decide⟩, by omega, by omega⟩ (by omega) (by omega)
theorem nrf1_3 : DayA nrf1 154896 3 3 2023 4 0 := nrf1_last ⟨by decide, by decide⟩ (ucount_is nrf1 2023).2.2.1
theorem nrf1_4 : DayA nrf1 154896 4 4 2023 12 0 := nrf1_last ⟨by decide, by decide⟩ (by rw [(ucount_is nrf1 2023).2.2.2.1]; decide)
theorem nrf1_5 : DayA nrf1 154896 5 5 2023 53 0 := nrf1_last ⟨by decide, by decide⟩ (by
  rw [(ucount_is nrf1 2023).2.2.2.2, nwk_weeks nrf1_ok.1 (by decide) (by decide) (by decide)]
  decide +kernel)

set_option maxRecDepth 100000 in
theorem dlive_ok (w : World) (tb : FTab w) : Calls Tryz.prog 8 #[] w fun e w' => e = .returned (.bool true) ∧ Below w.heap.size w w' := by
  have e1 : Go.Proofs.YtkfogmaogfgcgaaGreatDoor.Tm.dstr 2024 2 3 = ⟨#[50, 48, 50, 52, 45, 48, 50, 45, 48, 51]⟩ := rfl
  have c0 := fun w T => Go.Proofs.YtkfogmaogfgcgaaGreatDoor.Tp.Parse_any ⟨#[50, 48, 50, 52, 45, 48, 50, 45, 48, 51]⟩ 154896 0 w (by unfold maxLen; decide) (.inl ⟨2024, 2, 3, by decide, by decide, by decide, by decide, by decide, by decide, e1.symm, .inl ⟨⟨⟨by decide, by decide, by decide, by decide⟩, by decide, by decide⟩, nrf1_day.symm, rfl⟩⟩) T
  have cd : ∀ L n : Int, (L = 3 ∧ n = 4) ∨ (L = 4 ∧ n = 12) ∨ (L = 5 ∧ n = 53) → ∀ w, FTab w → Calls Tryz.prog 9 #[.agg #[.string ⟨#[120]⟩, .int .i64 3, .int .i64 6, .int .i64 1, .int .i64 1, .int .i64 1, .int .i64 4, .int .i64 5, .int .i64 4, .int .i64 0, .int .i64 12, .int .i64 2000, .int .i64 2030, .int .i64 1], .int .i64 154896, .int .i64 L] w fun e w' => e = .returned (.tuple #[.agg #[.int .i64 L, .int .i64 2023, .int .i64 n], .int .i64 0]) ∧ Below w.heap.size w w' :=
    fun L n h w T => Day_any nrf1 154896 L L 2023 n 0 w (by rcases h with ⟨rfl, rfl⟩ | ⟨rfl, rfl⟩ | ⟨rfl, rfl⟩; exact nrf1_3; exact nrf1_4; exact nrf1_5) (by unfold maxLen; decide) T
  have c3 := cd 3 4 (.inl ⟨rfl, rfl⟩)
  have c4 := cd 4 12 (.inr (.inl ⟨rfl, rfl⟩))
  have c5 := cd 5 53 (.inr (.inr ⟨rfl, rfl⟩))
  have C := CalIn.new w nrf1 24
  have B := balloc (Below.refl _ w) (.cells #[.string ⟨#[120]⟩, .int .i64 3, .int .i64 6, .int .i64 1, .int .i64 1, .int .i64 1, .int .i64 4, .int .i64 5, .int .i64 4, .int .i64 0, .int .i64 12, .int .i64 2000, .int .i64 2030, .int .i64 1] 24)
  have T := tb.alloc (.cells #[.string ⟨#[120]⟩, .int .i64 3, .int .i64 6, .int .i64 1, .int .i64 1, .int .i64 1, .int .i64 4, .int .i64 5, .int .i64 4, .int .i64 0, .int .i64 12, .int .i64 2000, .int .i64 2030, .int .i64 1] 24)
  clear e1 cd
  go_enter Tryz.func8, Tryz.ntmps8
  go_upto_region 2 with fail
  replace C : CalIn (w.alloc (.cells #[.string ⟨#[120]⟩, .int .i64 3, .int .i64 6, .int .i64 1, .int .i64 1, .int .i64 1, .int .i64 4, .int .i64 5, .int .i64 4, .int .i64 0, .int .i64 12, .int .i64 2000, .int .i64 2030, .int .i64 1] 24)) w.heap.size nrf1 := C
  generalize w.alloc (.cells #[.string ⟨#[120]⟩, .int .i64 3, .int .i64 6, .int .i64 1, .int .i64 1, .int .i64 1, .int .i64 4, .int .i64 5, .int .i64 4, .int .i64 0, .int .i64 12, .int .i64 2000, .int .i64 2030, .int .i64 1] 24) = W0 at *
  go_wp2_with fail
  refine (c0 _ T.civ).mono ?_
  rintro e w1 ⟨rfl, hb⟩
  replace C := C.kept hb
  replace B := bthen B hb
  replace T := T.kept hb
  clear hb c0
  have X := Box.new w1 #[.int .i64 4, .int .i64 12, .int .i64 53] 3
  replace C := C.alloc (.cells #[.int .i64 4, .int .i64 12, .int .i64 53] 3)
  replace T := T.alloc (.cells #[.int .i64 4, .int .i64 12, .int .i64 53] 3)
  replace B := balloc B (.cells #[.int .i64 4, .int .i64 12, .int .i64 53] 3)
  have x0 := X.cell 0 _ rfl
  have x1 := X.cell 1 _ rfl
  have x2 := X.cell 2 _ rfl
  obtain ⟨_, k0, k1, k2, k3, k4, k5, k6, k7, k8, k9, k10, k11, k12, k13⟩ := id C
  simp only [nrf1] at k0 k1 k2 k3 k4 k5 k6 k7 k8 k9 k10 k11 k12 k13
  go_wp2
  refine wp_loop_rounds 4 ?_
  rw [rounds_succ]
  go_wp2_with fail
  refine (c3 _ T).mono ?_
  rintro e w2 ⟨rfl, hb⟩
  replace C := (C.kept hb).alloc (.cells #[.int .i64 3, .int .i64 2023, .int .i64 4] 26)
  replace B := balloc (bthen B hb) (.cells #[.int .i64 3, .int .i64 2023, .int .i64 4] 26)
  replace T := (T.kept hb).alloc (.cells #[.int .i64 3, .int .i64 2023, .int .i64 4] 26)
  replace X := (X.kept hb).alloc (.cells #[.int .i64 3, .int .i64 2023, .int .i64 4] 26)
  clear hb c3 x0 x1 x2 k0 k1 k2 k3 k4 k5 k6 k7 k8 k9 k10 k11 k12 k13
  have x0 := X.cell 0 _ rfl
  have x1 := X.cell 1 _ rfl
  have x2 := X.cell 2 _ rfl
  obtain ⟨_, k0, k1, k2, k3, k4, k5, k6, k7, k8, k9, k10, k11, k12, k13⟩ := id C
  simp only [nrf1] at k0 k1 k2 k3 k4 k5 k6 k7 k8 k9 k10 k11 k12 k13
  go_wp2
  rw [rounds_succ]
  go_wp2_with fail
  refine (c4 _ T).mono ?_
  rintro e w3 ⟨rfl, hb⟩
  replace C := (C.kept hb).alloc (.cells #[.int .i64 4, .int .i64 2023, .int .i64 12] 26)
  replace B := balloc (bthen B hb) (.cells #[.int .i64 4, .int .i64 2023, .int .i64 12] 26)
  replace T := (T.kept hb).alloc (.cells #[.int .i64 4, .int .i64 2023, .int .i64 12] 26)
  replace X := (X.kept hb).alloc (.cells #[.int .i64 4, .int .i64 2023, .int .i64 12] 26)
  clear hb c4 x0 x1 x2 k0 k1 k2 k3 k4 k5 k6 k7 k8 k9 k10 k11 k12 k13
  have x0 := X.cell 0 _ rfl
  have x1 := X.cell 1 _ rfl
  have x2 := X.cell 2 _ rfl
  obtain ⟨_, k0, k1, k2, k3, k4, k5, k6, k7, k8, k9, k10, k11, k12, k13⟩ := id C
  simp only [nrf1] at k0 k1 k2 k3 k4 k5 k6 k7 k8 k9 k10 k11 k12 k13
  go_wp2
  rw [rounds_succ]
  go_wp2_with fail
  refine (c5 _ T).mono ?_
  rintro e w4 ⟨rfl, hb⟩
  replace C := (C.kept hb).alloc (.cells #[.int .i64 5, .int .i64 2023, .int .i64 53] 26)
  replace B := balloc (bthen B hb) (.cells #[.int .i64 5, .int .i64 2023, .int .i64 53] 26)
  replace T := (T.kept hb).alloc (.cells #[.int .i64 5, .int .i64 2023, .int .i64 53] 26)
  replace X := (X.kept hb).alloc (.cells #[.int .i64 5, .int .i64 2023, .int .i64 53] 26)
  clear hb c5 x0 x1 x2 k0 k1 k2 k3 k4 k5 k6 k7 k8 k9 k10 k11 k12 k13
  have x0 := X.cell 0 _ rfl
  have x1 := X.cell 1 _ rfl
  have x2 := X.cell 2 _ rfl
  obtain ⟨_, k0, k1, k2, k3, k4, k5, k6, k7, k8, k9, k10, k11, k12, k13⟩ := id C
  simp only [nrf1] at k0 k1 k2 k3 k4 k5 k6 k7 k8 k9 k10 k11 k12 k13
  go_wp2
  rw [rounds_succ]
  go_wp2
  go_ret
  exact ⟨by simp, B⟩

end Go.Proofs.YtkfogmaogfgcgaaGreatDoor.Dl
