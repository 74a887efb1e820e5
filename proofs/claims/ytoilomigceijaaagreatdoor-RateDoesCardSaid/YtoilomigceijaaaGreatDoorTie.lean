/-
  DERIVED. GIVEN WITH THE SEED: THE PROGRAM's TIES (one call each: nine closed facts by the kernel) AND EACH ROW's TIE, after the 31st guide's Derived/Test/Toyas{Tie, Card}.lean. No idea stands in it: it is a product of the set-up. Laid BY PROGRAM, IN A SANDBOX (cutbox-door.mjs). By AI agents, Wed Nov 11 2026. No macro, syntax, notation, axiom, sorry.
-/
import Derived.Test.YtoilomigceijaaaGreatDoorRows
import Derived.LaidByTextLater
import Derived.SevenTiedAt
import Derived.LaidSub
import Derived.LaidOnce
namespace Go.Proofs.YtoilomigceijaaaGreatDoor
open Go
set_option maxRecDepth 100000
theorem seatTie1 : Tryz.prog.laidByTextLater [("quarterday/civil.beforeMonth", Rows.laid_quarterday_civil_beforeMonth), ("quarterday/field.dayNames", Rows.laid_quarterday_field_dayNames), ("quarterday/field.monthNames", Rows.laid_quarterday_field_monthNames), ("quarterday/field.policyNames", Rows.laid_quarterday_field_policyNames), ("quarterday/field.patterns", Rows.laid_quarterday_field_patterns), ("quarterday/field.cycles", Rows.laid_quarterday_field_cycles)] [.data, .widerDeep, .widerDeep, .widerDeep, .widerDeep, .widerDeep] true :=
  Program.laidByTextLater_by_one 42 8 14 (by kernel_rfl) (by kernel_rfl) (by kernel_rfl) (by kernel_rfl) (by kernel_rfl) (by kernel_rfl) (fun _ _ => by kernel_rfl)
theorem noOwnUnsafe : Tryz.pinned.checked.prog.headLifts.contains "ownunsafe" = false := by kernel_rfl
theorem tie : Tryz.prog.laidByTextLater [("quarterday/civil.beforeMonth", Rows.laid_quarterday_civil_beforeMonth), ("quarterday/field.dayNames", Rows.laid_quarterday_field_dayNames), ("quarterday/field.monthNames", Rows.laid_quarterday_field_monthNames), ("quarterday/field.policyNames", Rows.laid_quarterday_field_policyNames), ("quarterday/field.patterns", Rows.laid_quarterday_field_patterns), ("quarterday/field.cycles", Rows.laid_quarterday_field_cycles)] [.data, .widerDeep, .widerDeep, .widerDeep, .widerDeep, .widerDeep] true :=
  Program.laidByTextLater.sub seatTie1 ["quarterday/civil.beforeMonth", "quarterday/field.dayNames", "quarterday/field.monthNames", "quarterday/field.policyNames", "quarterday/field.patterns", "quarterday/field.cycles"] (by kernel_rfl) (by kernel_rfl)
theorem rateDoes_row_tie : Rows.rateDoesRow.laidByTextAt .later Tryz.pinned [.data, .widerDeep, .widerDeep, .widerDeep, .widerDeep, .widerDeep] true :=
  OpenClaim.laidByTextAt_later rfl rfl tie noOwnUnsafe
theorem rateDoesUpto_row_tie : Rows.rateDoesUptoRow.laidByTextAt .later Tryz.pinned [.data, .widerDeep, .widerDeep, .widerDeep, .widerDeep, .widerDeep] true :=
  OpenClaim.laidByTextAt_later rfl rfl tie noOwnUnsafe
end Go.Proofs.YtoilomigceijaaaGreatDoor
