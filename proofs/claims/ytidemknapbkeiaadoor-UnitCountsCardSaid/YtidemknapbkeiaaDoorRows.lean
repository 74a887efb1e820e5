/-
  NARROWER THAN 'FOR EVERY INPUT', by the rows' own cells (each row's printed sentence says how): ShapeDoes: laid · ShapeQuarters: laid · ShapeWeeks: laid · ShapeEnds: laid · ShapeBroad: laid · ShapeMonths: laid · ShapeAdded: laid · ShapeHalves: laid · UnitCover: laid · UnitInside: laid · UnitWeeks: laid · UnitDown: laid · UnitCounts: laid · UnitUp: laid.
  DERIVED. THE GIVEN ROWS OF THIS SEAT. 14 by the template 'for every input the law returns true; each argument reads behind the call as it read before'; 0 by the template 'total and deterministic' (their statements: YtidemknapbkeiaaDoorTotals.lean).
  GIVEN WITH THE SEED: the statements are not yours to turn. If you find one false, say at which input.
  Laid BY PROGRAM, IN A SANDBOX (cutbox-rows.mjs): the forced cells as the released guide's own fill.sh prints them over the translation d8967e8006d21787… (all of the seat's roots in one cut). By AI agents, Wed Nov 11 2026. No macro, syntax, notation, axiom, sorry.
-/
import Derived.Test.YtidemknapbkeiaaDoorChecked
import GoSem.Claim
import GoSem.ClaimJoined
import GoSem.ClaimMapViews
import Derived.JoinedTies
import Derived.KernelRfl
namespace Go.Proofs.YtidemknapbkeiaaDoor
/- THE CELL 'sum', in the pinned program and in every row, IS THE sha256 OF THE DUMP (.gsa) THAT YtidemknapbkeiaaDoorProg.lean LOADS. Nothing in Lean hashes anything: it is a label: what it is worth is what the hold of that sum in a sandbox is worth. -/
noncomputable def Tryd.pinned : Pinned := { name := "ytidemknapbkeiaadoor", sum := "d8967e8006d21787c51d37a7eb1f1d660fc23cbfeebd47ea4e95be895f1e3e1a", checked := Tryd.checked }
namespace Rows
def none {H : Type} : Left H := { results := [], args := [] }

/- WHAT THE LISTED PACKAGE-LEVEL VARIABLES READ AS WHEN THE CALL BEGINS. Each datum BY PROGRAM (the guide's laid-datum.mjs) off the statement by which the dump's own 'gosem.cut.vars' lays the variable. In a bare row this is a premise. The card (YtidemknapbkeiaaDoorCards.lean) ties it to the program's text. -/
def laid_quarterday_civil_beforeMonth {H : Type} : DataW H := .agg [.lit (.int .i64 0), .lit (.int .i64 31), .lit (.int .i64 59), .lit (.int .i64 90), .lit (.int .i64 120), .lit (.int .i64 151), .lit (.int .i64 181), .lit (.int .i64 212), .lit (.int .i64 243), .lit (.int .i64 273), .lit (.int .i64 304), .lit (.int .i64 334), .lit (.int .i64 365)]
def laid_quarterday_field_dayNames {H : Type} : DataW H := .slice [.lit (.string [109, 111, 110]), .lit (.string [116, 117, 101]), .lit (.string [119, 101, 100]), .lit (.string [116, 104, 117]), .lit (.string [102, 114, 105]), .lit (.string [115, 97, 116]), .lit (.string [115, 117, 110])] []
def laid_quarterday_field_monthNames {H : Type} : DataW H := .slice [.lit (.string [106, 97, 110]), .lit (.string [102, 101, 98]), .lit (.string [109, 97, 114]), .lit (.string [97, 112, 114]), .lit (.string [109, 97, 121]), .lit (.string [106, 117, 110]), .lit (.string [106, 117, 108]), .lit (.string [97, 117, 103]), .lit (.string [115, 101, 112]), .lit (.string [111, 99, 116]), .lit (.string [110, 111, 118]), .lit (.string [100, 101, 99])] []
def laid_quarterday_field_policyNames {H : Type} : DataW H := .slice [.lit (.string [115, 116, 97, 114, 116]), .lit (.string [115, 104, 105, 102, 116]), .lit (.string [100, 114, 111, 112]), .lit (.string [99, 108, 97, 109, 112])] []
def laid_quarterday_field_patterns {H : Type} : DataW H := .slice [.agg [.lit (.int .i64 5), .lit (.int .i64 4), .lit (.int .i64 4)], .agg [.lit (.int .i64 4), .lit (.int .i64 5), .lit (.int .i64 4)], .agg [.lit (.int .i64 4), .lit (.int .i64 4), .lit (.int .i64 5)]] []
def laid_quarterday_field_cycles {H : Type} : DataW H := .slice [.lit (.int .i64 1), .lit (.int .i64 2), .lit (.int .i64 4)] []

/-- 'quarterdaylaw15.ShapeDoes': WHATEVER THE INPUT: true; the input reads as it did. -/
def shapeDoesSpec : ChangeSpec := { name := "shapeDoes", fn := fun _ => fun
  | [d1, d2] => { results := [.lit (.bool true)], args := [d1, d2] }
  | _ => none }
def shapeDoesRow : OpenClaim := { program := "ytidemknapbkeiaadoor", sum := "d8967e8006d21787c51d37a7eb1f1d660fc23cbfeebd47ea4e95be895f1e3e1a", func := "quarterday/quarterdaylaw15.ShapeDoes", spec := "shapeDoes", unfollowed := true, recurses := true, named := ["quarterday/field.dayNames", "quarterday/field.monthNames", "quarterday/field.patterns", "quarterday/field.cycles", "quarterday/field.policyNames", "quarterday/civil.beforeMonth"], apart := false, laid := [("quarterday/civil.beforeMonth", laid_quarterday_civil_beforeMonth), ("quarterday/field.dayNames", laid_quarterday_field_dayNames), ("quarterday/field.monthNames", laid_quarterday_field_monthNames), ("quarterday/field.policyNames", laid_quarterday_field_policyNames), ("quarterday/field.patterns", laid_quarterday_field_patterns), ("quarterday/field.cycles", laid_quarterday_field_cycles)] }
def ShapeDoesSaid : Prop := shapeDoesRow.holds Tryd.pinned (OpenSpec.ofChange shapeDoesSpec)

/-- ITS FALSE NEIGHBOUR: 'it returns false'. Refute it at one input. -/
def shapeDoesWrong : ChangeSpec := { name := "shapeDoes", fn := fun _ => fun
  | [d1, d2] => { results := [.lit (.bool false)], args := [d1, d2] }
  | _ => none }
def ShapeDoesWrongFalsely : Prop := shapeDoesRow.holds Tryd.pinned (OpenSpec.ofChange shapeDoesWrong)

/-- 'quarterdaylaw15.ShapeQuarters': WHATEVER THE INPUT: true; the input reads as it did. -/
def shapeQuartersSpec : ChangeSpec := { name := "shapeQuarters", fn := fun _ => fun
  | [d1, d2] => { results := [.lit (.bool true)], args := [d1, d2] }
  | _ => none }
def shapeQuartersRow : OpenClaim := { program := "ytidemknapbkeiaadoor", sum := "d8967e8006d21787c51d37a7eb1f1d660fc23cbfeebd47ea4e95be895f1e3e1a", func := "quarterday/quarterdaylaw15.ShapeQuarters", spec := "shapeQuarters", unfollowed := true, recurses := true, named := ["quarterday/field.dayNames", "quarterday/field.monthNames", "quarterday/field.patterns", "quarterday/field.cycles", "quarterday/field.policyNames"], apart := false, laid := [("quarterday/field.dayNames", laid_quarterday_field_dayNames), ("quarterday/field.monthNames", laid_quarterday_field_monthNames), ("quarterday/field.policyNames", laid_quarterday_field_policyNames), ("quarterday/field.patterns", laid_quarterday_field_patterns), ("quarterday/field.cycles", laid_quarterday_field_cycles)] }
def ShapeQuartersSaid : Prop := shapeQuartersRow.holds Tryd.pinned (OpenSpec.ofChange shapeQuartersSpec)

/-- ITS FALSE NEIGHBOUR: 'it returns false'. Refute it at one input. -/
def shapeQuartersWrong : ChangeSpec := { name := "shapeQuarters", fn := fun _ => fun
  | [d1, d2] => { results := [.lit (.bool false)], args := [d1, d2] }
  | _ => none }
def ShapeQuartersWrongFalsely : Prop := shapeQuartersRow.holds Tryd.pinned (OpenSpec.ofChange shapeQuartersWrong)

/-- 'quarterdaylaw15.ShapeWeeks': WHATEVER THE INPUT: true; the input reads as it did. -/
def shapeWeeksSpec : ChangeSpec := { name := "shapeWeeks", fn := fun _ => fun
  | [d1, d2] => { results := [.lit (.bool true)], args := [d1, d2] }
  | _ => none }
def shapeWeeksRow : OpenClaim := { program := "ytidemknapbkeiaadoor", sum := "d8967e8006d21787c51d37a7eb1f1d660fc23cbfeebd47ea4e95be895f1e3e1a", func := "quarterday/quarterdaylaw15.ShapeWeeks", spec := "shapeWeeks", unfollowed := true, recurses := true, named := ["quarterday/field.dayNames", "quarterday/field.monthNames", "quarterday/field.patterns", "quarterday/field.cycles", "quarterday/field.policyNames", "quarterday/civil.beforeMonth"], apart := false, laid := [("quarterday/civil.beforeMonth", laid_quarterday_civil_beforeMonth), ("quarterday/field.dayNames", laid_quarterday_field_dayNames), ("quarterday/field.monthNames", laid_quarterday_field_monthNames), ("quarterday/field.policyNames", laid_quarterday_field_policyNames), ("quarterday/field.patterns", laid_quarterday_field_patterns), ("quarterday/field.cycles", laid_quarterday_field_cycles)] }
def ShapeWeeksSaid : Prop := shapeWeeksRow.holds Tryd.pinned (OpenSpec.ofChange shapeWeeksSpec)

/-- ITS FALSE NEIGHBOUR: 'it returns false'. Refute it at one input. -/
def shapeWeeksWrong : ChangeSpec := { name := "shapeWeeks", fn := fun _ => fun
  | [d1, d2] => { results := [.lit (.bool false)], args := [d1, d2] }
  | _ => none }
def ShapeWeeksWrongFalsely : Prop := shapeWeeksRow.holds Tryd.pinned (OpenSpec.ofChange shapeWeeksWrong)

/-- 'quarterdaylaw15.ShapeEnds': WHATEVER THE INPUT: true; the input reads as it did. -/
def shapeEndsSpec : ChangeSpec := { name := "shapeEnds", fn := fun _ => fun
  | [d1, d2] => { results := [.lit (.bool true)], args := [d1, d2] }
  | _ => none }
def shapeEndsRow : OpenClaim := { program := "ytidemknapbkeiaadoor", sum := "d8967e8006d21787c51d37a7eb1f1d660fc23cbfeebd47ea4e95be895f1e3e1a", func := "quarterday/quarterdaylaw15.ShapeEnds", spec := "shapeEnds", unfollowed := true, recurses := true, named := ["quarterday/field.dayNames", "quarterday/field.monthNames", "quarterday/field.patterns", "quarterday/field.cycles", "quarterday/field.policyNames", "quarterday/civil.beforeMonth"], apart := false, laid := [("quarterday/civil.beforeMonth", laid_quarterday_civil_beforeMonth), ("quarterday/field.dayNames", laid_quarterday_field_dayNames), ("quarterday/field.monthNames", laid_quarterday_field_monthNames), ("quarterday/field.policyNames", laid_quarterday_field_policyNames), ("quarterday/field.patterns", laid_quarterday_field_patterns), ("quarterday/field.cycles", laid_quarterday_field_cycles)] }
def ShapeEndsSaid : Prop := shapeEndsRow.holds Tryd.pinned (OpenSpec.ofChange shapeEndsSpec)

/-- ITS FALSE NEIGHBOUR: 'it returns false'. Refute it at one input. -/
def shapeEndsWrong : ChangeSpec := { name := "shapeEnds", fn := fun _ => fun
  | [d1, d2] => { results := [.lit (.bool false)], args := [d1, d2] }
  | _ => none }
def ShapeEndsWrongFalsely : Prop := shapeEndsRow.holds Tryd.pinned (OpenSpec.ofChange shapeEndsWrong)

/-- 'quarterdaylaw15.ShapeBroad': WHATEVER THE INPUT: true; the input reads as it did. -/
def shapeBroadSpec : ChangeSpec := { name := "shapeBroad", fn := fun _ => fun
  | [d1, d2] => { results := [.lit (.bool true)], args := [d1, d2] }
  | _ => none }
def shapeBroadRow : OpenClaim := { program := "ytidemknapbkeiaadoor", sum := "d8967e8006d21787c51d37a7eb1f1d660fc23cbfeebd47ea4e95be895f1e3e1a", func := "quarterday/quarterdaylaw15.ShapeBroad", spec := "shapeBroad", unfollowed := true, recurses := true, named := ["quarterday/field.dayNames", "quarterday/field.monthNames", "quarterday/field.patterns", "quarterday/field.cycles", "quarterday/field.policyNames", "quarterday/civil.beforeMonth"], apart := false, laid := [("quarterday/civil.beforeMonth", laid_quarterday_civil_beforeMonth), ("quarterday/field.dayNames", laid_quarterday_field_dayNames), ("quarterday/field.monthNames", laid_quarterday_field_monthNames), ("quarterday/field.policyNames", laid_quarterday_field_policyNames), ("quarterday/field.patterns", laid_quarterday_field_patterns), ("quarterday/field.cycles", laid_quarterday_field_cycles)] }
def ShapeBroadSaid : Prop := shapeBroadRow.holds Tryd.pinned (OpenSpec.ofChange shapeBroadSpec)

/-- ITS FALSE NEIGHBOUR: 'it returns false'. Refute it at one input. -/
def shapeBroadWrong : ChangeSpec := { name := "shapeBroad", fn := fun _ => fun
  | [d1, d2] => { results := [.lit (.bool false)], args := [d1, d2] }
  | _ => none }
def ShapeBroadWrongFalsely : Prop := shapeBroadRow.holds Tryd.pinned (OpenSpec.ofChange shapeBroadWrong)

/-- 'quarterdaylaw15.ShapeMonths': WHATEVER THE INPUT: true; the input reads as it did. -/
def shapeMonthsSpec : ChangeSpec := { name := "shapeMonths", fn := fun _ => fun
  | [d1, d2] => { results := [.lit (.bool true)], args := [d1, d2] }
  | _ => none }
def shapeMonthsRow : OpenClaim := { program := "ytidemknapbkeiaadoor", sum := "d8967e8006d21787c51d37a7eb1f1d660fc23cbfeebd47ea4e95be895f1e3e1a", func := "quarterday/quarterdaylaw15.ShapeMonths", spec := "shapeMonths", unfollowed := true, recurses := true, named := ["quarterday/field.dayNames", "quarterday/field.monthNames", "quarterday/field.patterns", "quarterday/field.cycles", "quarterday/field.policyNames", "quarterday/civil.beforeMonth"], apart := false, laid := [("quarterday/civil.beforeMonth", laid_quarterday_civil_beforeMonth), ("quarterday/field.dayNames", laid_quarterday_field_dayNames), ("quarterday/field.monthNames", laid_quarterday_field_monthNames), ("quarterday/field.policyNames", laid_quarterday_field_policyNames), ("quarterday/field.patterns", laid_quarterday_field_patterns), ("quarterday/field.cycles", laid_quarterday_field_cycles)] }
def ShapeMonthsSaid : Prop := shapeMonthsRow.holds Tryd.pinned (OpenSpec.ofChange shapeMonthsSpec)

/-- ITS FALSE NEIGHBOUR: 'it returns false'. Refute it at one input. -/
def shapeMonthsWrong : ChangeSpec := { name := "shapeMonths", fn := fun _ => fun
  | [d1, d2] => { results := [.lit (.bool false)], args := [d1, d2] }
  | _ => none }
def ShapeMonthsWrongFalsely : Prop := shapeMonthsRow.holds Tryd.pinned (OpenSpec.ofChange shapeMonthsWrong)

/-- 'quarterdaylaw15.ShapeAdded': WHATEVER THE INPUT: true; the input reads as it did. -/
def shapeAddedSpec : ChangeSpec := { name := "shapeAdded", fn := fun _ => fun
  | [d1, d2] => { results := [.lit (.bool true)], args := [d1, d2] }
  | _ => none }
def shapeAddedRow : OpenClaim := { program := "ytidemknapbkeiaadoor", sum := "d8967e8006d21787c51d37a7eb1f1d660fc23cbfeebd47ea4e95be895f1e3e1a", func := "quarterday/quarterdaylaw15.ShapeAdded", spec := "shapeAdded", unfollowed := true, recurses := true, named := ["quarterday/field.dayNames", "quarterday/field.monthNames", "quarterday/field.patterns", "quarterday/field.cycles", "quarterday/field.policyNames", "quarterday/civil.beforeMonth"], apart := false, laid := [("quarterday/civil.beforeMonth", laid_quarterday_civil_beforeMonth), ("quarterday/field.dayNames", laid_quarterday_field_dayNames), ("quarterday/field.monthNames", laid_quarterday_field_monthNames), ("quarterday/field.policyNames", laid_quarterday_field_policyNames), ("quarterday/field.patterns", laid_quarterday_field_patterns), ("quarterday/field.cycles", laid_quarterday_field_cycles)] }
def ShapeAddedSaid : Prop := shapeAddedRow.holds Tryd.pinned (OpenSpec.ofChange shapeAddedSpec)

/-- ITS FALSE NEIGHBOUR: 'it returns false'. Refute it at one input. -/
def shapeAddedWrong : ChangeSpec := { name := "shapeAdded", fn := fun _ => fun
  | [d1, d2] => { results := [.lit (.bool false)], args := [d1, d2] }
  | _ => none }
def ShapeAddedWrongFalsely : Prop := shapeAddedRow.holds Tryd.pinned (OpenSpec.ofChange shapeAddedWrong)

/-- 'quarterdaylaw15.ShapeHalves': WHATEVER THE INPUT: true; the input reads as it did. -/
def shapeHalvesSpec : ChangeSpec := { name := "shapeHalves", fn := fun _ => fun
  | [d] => { results := [.lit (.bool true)], args := [d] }
  | _ => none }
def shapeHalvesRow : OpenClaim := { program := "ytidemknapbkeiaadoor", sum := "d8967e8006d21787c51d37a7eb1f1d660fc23cbfeebd47ea4e95be895f1e3e1a", func := "quarterday/quarterdaylaw15.ShapeHalves", spec := "shapeHalves", unfollowed := true, recurses := true, named := ["quarterday/field.dayNames", "quarterday/field.monthNames", "quarterday/field.patterns", "quarterday/field.cycles", "quarterday/field.policyNames"], apart := false, laid := [("quarterday/field.dayNames", laid_quarterday_field_dayNames), ("quarterday/field.monthNames", laid_quarterday_field_monthNames), ("quarterday/field.policyNames", laid_quarterday_field_policyNames), ("quarterday/field.patterns", laid_quarterday_field_patterns), ("quarterday/field.cycles", laid_quarterday_field_cycles)] }
def ShapeHalvesSaid : Prop := shapeHalvesRow.holds Tryd.pinned (OpenSpec.ofChange shapeHalvesSpec)

/-- ITS FALSE NEIGHBOUR: 'it returns false'. Refute it at one input. -/
def shapeHalvesWrong : ChangeSpec := { name := "shapeHalves", fn := fun _ => fun
  | [d] => { results := [.lit (.bool false)], args := [d] }
  | _ => none }
def ShapeHalvesWrongFalsely : Prop := shapeHalvesRow.holds Tryd.pinned (OpenSpec.ofChange shapeHalvesWrong)

/-- 'quarterdaylaw16.UnitCover': WHATEVER THE INPUT: true; the input reads as it did. -/
def unitCoverSpec : ChangeSpec := { name := "unitCover", fn := fun _ => fun
  | [d1, d2, d3] => { results := [.lit (.bool true)], args := [d1, d2, d3] }
  | _ => none }
def unitCoverRow : OpenClaim := { program := "ytidemknapbkeiaadoor", sum := "d8967e8006d21787c51d37a7eb1f1d660fc23cbfeebd47ea4e95be895f1e3e1a", func := "quarterday/quarterdaylaw16.UnitCover", spec := "unitCover", unfollowed := true, recurses := true, named := ["quarterday/field.dayNames", "quarterday/field.monthNames", "quarterday/field.patterns", "quarterday/field.cycles", "quarterday/field.policyNames", "quarterday/civil.beforeMonth"], apart := false, laid := [("quarterday/civil.beforeMonth", laid_quarterday_civil_beforeMonth), ("quarterday/field.dayNames", laid_quarterday_field_dayNames), ("quarterday/field.monthNames", laid_quarterday_field_monthNames), ("quarterday/field.policyNames", laid_quarterday_field_policyNames), ("quarterday/field.patterns", laid_quarterday_field_patterns), ("quarterday/field.cycles", laid_quarterday_field_cycles)] }
def UnitCoverSaid : Prop := unitCoverRow.holds Tryd.pinned (OpenSpec.ofChange unitCoverSpec)

/-- ITS FALSE NEIGHBOUR: 'it returns false'. Refute it at one input. -/
def unitCoverWrong : ChangeSpec := { name := "unitCover", fn := fun _ => fun
  | [d1, d2, d3] => { results := [.lit (.bool false)], args := [d1, d2, d3] }
  | _ => none }
def UnitCoverWrongFalsely : Prop := unitCoverRow.holds Tryd.pinned (OpenSpec.ofChange unitCoverWrong)

/-- 'quarterdaylaw16.UnitInside': WHATEVER THE INPUT: true; the input reads as it did. -/
def unitInsideSpec : ChangeSpec := { name := "unitInside", fn := fun _ => fun
  | [d1, d2, d3] => { results := [.lit (.bool true)], args := [d1, d2, d3] }
  | _ => none }
def unitInsideRow : OpenClaim := { program := "ytidemknapbkeiaadoor", sum := "d8967e8006d21787c51d37a7eb1f1d660fc23cbfeebd47ea4e95be895f1e3e1a", func := "quarterday/quarterdaylaw16.UnitInside", spec := "unitInside", unfollowed := true, recurses := true, named := ["quarterday/field.dayNames", "quarterday/field.monthNames", "quarterday/field.patterns", "quarterday/field.cycles", "quarterday/field.policyNames", "quarterday/civil.beforeMonth"], apart := false, laid := [("quarterday/civil.beforeMonth", laid_quarterday_civil_beforeMonth), ("quarterday/field.dayNames", laid_quarterday_field_dayNames), ("quarterday/field.monthNames", laid_quarterday_field_monthNames), ("quarterday/field.policyNames", laid_quarterday_field_policyNames), ("quarterday/field.patterns", laid_quarterday_field_patterns), ("quarterday/field.cycles", laid_quarterday_field_cycles)] }
def UnitInsideSaid : Prop := unitInsideRow.holds Tryd.pinned (OpenSpec.ofChange unitInsideSpec)

/-- ITS FALSE NEIGHBOUR: 'it returns false'. Refute it at one input. -/
def unitInsideWrong : ChangeSpec := { name := "unitInside", fn := fun _ => fun
  | [d1, d2, d3] => { results := [.lit (.bool false)], args := [d1, d2, d3] }
  | _ => none }
def UnitInsideWrongFalsely : Prop := unitInsideRow.holds Tryd.pinned (OpenSpec.ofChange unitInsideWrong)

/-- 'quarterdaylaw16.UnitWeeks': WHATEVER THE INPUT: true; the input reads as it did. -/
def unitWeeksSpec : ChangeSpec := { name := "unitWeeks", fn := fun _ => fun
  | [d1, d2] => { results := [.lit (.bool true)], args := [d1, d2] }
  | _ => none }
def unitWeeksRow : OpenClaim := { program := "ytidemknapbkeiaadoor", sum := "d8967e8006d21787c51d37a7eb1f1d660fc23cbfeebd47ea4e95be895f1e3e1a", func := "quarterday/quarterdaylaw16.UnitWeeks", spec := "unitWeeks", unfollowed := true, recurses := true, named := ["quarterday/field.dayNames", "quarterday/field.monthNames", "quarterday/field.patterns", "quarterday/field.cycles", "quarterday/field.policyNames", "quarterday/civil.beforeMonth"], apart := false, laid := [("quarterday/civil.beforeMonth", laid_quarterday_civil_beforeMonth), ("quarterday/field.dayNames", laid_quarterday_field_dayNames), ("quarterday/field.monthNames", laid_quarterday_field_monthNames), ("quarterday/field.policyNames", laid_quarterday_field_policyNames), ("quarterday/field.patterns", laid_quarterday_field_patterns), ("quarterday/field.cycles", laid_quarterday_field_cycles)] }
def UnitWeeksSaid : Prop := unitWeeksRow.holds Tryd.pinned (OpenSpec.ofChange unitWeeksSpec)

/-- ITS FALSE NEIGHBOUR: 'it returns false'. Refute it at one input. -/
def unitWeeksWrong : ChangeSpec := { name := "unitWeeks", fn := fun _ => fun
  | [d1, d2] => { results := [.lit (.bool false)], args := [d1, d2] }
  | _ => none }
def UnitWeeksWrongFalsely : Prop := unitWeeksRow.holds Tryd.pinned (OpenSpec.ofChange unitWeeksWrong)

/-- 'quarterdaylaw16.UnitDown': WHATEVER THE INPUT: true; the input reads as it did. -/
def unitDownSpec : ChangeSpec := { name := "unitDown", fn := fun _ => fun
  | [d1, d2, d3] => { results := [.lit (.bool true)], args := [d1, d2, d3] }
  | _ => none }
def unitDownRow : OpenClaim := { program := "ytidemknapbkeiaadoor", sum := "d8967e8006d21787c51d37a7eb1f1d660fc23cbfeebd47ea4e95be895f1e3e1a", func := "quarterday/quarterdaylaw16.UnitDown", spec := "unitDown", unfollowed := true, recurses := true, named := ["quarterday/field.dayNames", "quarterday/field.monthNames", "quarterday/field.patterns", "quarterday/field.cycles", "quarterday/field.policyNames", "quarterday/civil.beforeMonth"], apart := false, laid := [("quarterday/civil.beforeMonth", laid_quarterday_civil_beforeMonth), ("quarterday/field.dayNames", laid_quarterday_field_dayNames), ("quarterday/field.monthNames", laid_quarterday_field_monthNames), ("quarterday/field.policyNames", laid_quarterday_field_policyNames), ("quarterday/field.patterns", laid_quarterday_field_patterns), ("quarterday/field.cycles", laid_quarterday_field_cycles)] }
def UnitDownSaid : Prop := unitDownRow.holds Tryd.pinned (OpenSpec.ofChange unitDownSpec)

/-- ITS FALSE NEIGHBOUR: 'it returns false'. Refute it at one input. -/
def unitDownWrong : ChangeSpec := { name := "unitDown", fn := fun _ => fun
  | [d1, d2, d3] => { results := [.lit (.bool false)], args := [d1, d2, d3] }
  | _ => none }
def UnitDownWrongFalsely : Prop := unitDownRow.holds Tryd.pinned (OpenSpec.ofChange unitDownWrong)

/-- 'quarterdaylaw16.UnitCounts': WHATEVER THE INPUT: true; the input reads as it did. -/
def unitCountsSpec : ChangeSpec := { name := "unitCounts", fn := fun _ => fun
  | [d1, d2, d3] => { results := [.lit (.bool true)], args := [d1, d2, d3] }
  | _ => none }
def unitCountsRow : OpenClaim := { program := "ytidemknapbkeiaadoor", sum := "d8967e8006d21787c51d37a7eb1f1d660fc23cbfeebd47ea4e95be895f1e3e1a", func := "quarterday/quarterdaylaw16.UnitCounts", spec := "unitCounts", unfollowed := true, recurses := true, named := ["quarterday/field.dayNames", "quarterday/field.monthNames", "quarterday/field.patterns", "quarterday/field.cycles", "quarterday/field.policyNames", "quarterday/civil.beforeMonth"], apart := false, laid := [("quarterday/civil.beforeMonth", laid_quarterday_civil_beforeMonth), ("quarterday/field.dayNames", laid_quarterday_field_dayNames), ("quarterday/field.monthNames", laid_quarterday_field_monthNames), ("quarterday/field.policyNames", laid_quarterday_field_policyNames), ("quarterday/field.patterns", laid_quarterday_field_patterns), ("quarterday/field.cycles", laid_quarterday_field_cycles)] }
def UnitCountsSaid : Prop := unitCountsRow.holds Tryd.pinned (OpenSpec.ofChange unitCountsSpec)

/-- ITS FALSE NEIGHBOUR: 'it returns false'. Refute it at one input. -/
def unitCountsWrong : ChangeSpec := { name := "unitCounts", fn := fun _ => fun
  | [d1, d2, d3] => { results := [.lit (.bool false)], args := [d1, d2, d3] }
  | _ => none }
def UnitCountsWrongFalsely : Prop := unitCountsRow.holds Tryd.pinned (OpenSpec.ofChange unitCountsWrong)

/-- 'quarterdaylaw16.UnitUp': WHATEVER THE INPUT: true; the input reads as it did. -/
def unitUpSpec : ChangeSpec := { name := "unitUp", fn := fun _ => fun
  | [d1, d2, d3, d4] => { results := [.lit (.bool true)], args := [d1, d2, d3, d4] }
  | _ => none }
def unitUpRow : OpenClaim := { program := "ytidemknapbkeiaadoor", sum := "d8967e8006d21787c51d37a7eb1f1d660fc23cbfeebd47ea4e95be895f1e3e1a", func := "quarterday/quarterdaylaw16.UnitUp", spec := "unitUp", unfollowed := true, recurses := true, named := ["quarterday/field.dayNames", "quarterday/field.monthNames", "quarterday/field.patterns", "quarterday/field.cycles", "quarterday/field.policyNames", "quarterday/civil.beforeMonth"], apart := false, laid := [("quarterday/civil.beforeMonth", laid_quarterday_civil_beforeMonth), ("quarterday/field.dayNames", laid_quarterday_field_dayNames), ("quarterday/field.monthNames", laid_quarterday_field_monthNames), ("quarterday/field.policyNames", laid_quarterday_field_policyNames), ("quarterday/field.patterns", laid_quarterday_field_patterns), ("quarterday/field.cycles", laid_quarterday_field_cycles)] }
def UnitUpSaid : Prop := unitUpRow.holds Tryd.pinned (OpenSpec.ofChange unitUpSpec)

/-- ITS FALSE NEIGHBOUR: 'it returns false'. Refute it at one input. -/
def unitUpWrong : ChangeSpec := { name := "unitUp", fn := fun _ => fun
  | [d1, d2, d3, d4] => { results := [.lit (.bool false)], args := [d1, d2, d3, d4] }
  | _ => none }
def UnitUpWrongFalsely : Prop := unitUpRow.holds Tryd.pinned (OpenSpec.ofChange unitUpWrong)

/- THE SECOND FORM. 'bulk': how many values and letters a reading holds, each counted each time it is reached (what is shared counts as often as it is met; a slice's spare places count too). A statement '..UptoSaid' is the law's where the arguments, and the package variables that the reading takes, are together of bulk at most 1048576: NARROWER than '..Said'. Prove '..Said' where nothing that the law and all that it calls make is longer than what came in: it says more and counts as full. Else prove '..UptoSaid'. A law counts once. -/
mutual
def uptoBulk {H : Type} : DataW H → Nat
  | .lit (.string bytes) => bytes.length + 1
  | .lit _ => 1
  | .nil => 1
  | .ptr d => uptoBulk d + 1
  | .slice elems spare => uptoBulkAll elems + uptoBulkAll spare + 1
  | .agg parts => uptoBulkAll parts + 1
  | .iface _ d => uptoBulk d + 1
  | .map entries => uptoBulkEntries entries + 1
  | .held _ => 1
def uptoBulkAll {H : Type} : List (DataW H) → Nat
  | [] => 0
  | d :: r => uptoBulk d + uptoBulkAll r
def uptoBulkEntries {H : Type} : List (Lit × DataW H) → Nat
  | [] => 0
  | x :: r => uptoBulkEntry x + uptoBulkEntries r
def uptoBulkEntry {H : Type} : Lit × DataW H → Nat
  | (.string bytes, d) => bytes.length + uptoBulk d + 1
  | (_, d) => uptoBulk d + 1
 end
def uptoSmall : (H : Type) → List (DataW H) → Bool := fun _ ds => decide (uptoBulkAll ds ≤ 1048576)
def OpenSpec.upto (s : _root_.Go.ChangeSpec) : _root_.Go.OpenSpec := { _root_.Go.OpenSpec.ofChange s with cond := some uptoSmall }

/-- 'quarterdaylaw15.ShapeDoes', WHERE WHAT IT READS IS OF BULK AT MOST 1048576: true; the input reads as it did. -/
def shapeDoesUptoRow : OpenClaim := { program := "ytidemknapbkeiaadoor", sum := "d8967e8006d21787c51d37a7eb1f1d660fc23cbfeebd47ea4e95be895f1e3e1a", func := "quarterday/quarterdaylaw15.ShapeDoes", spec := "shapeDoes", unfollowed := true, recurses := true, named := ["quarterday/field.dayNames", "quarterday/field.monthNames", "quarterday/field.patterns", "quarterday/field.cycles", "quarterday/field.policyNames", "quarterday/civil.beforeMonth"], apart := false, laid := [("quarterday/civil.beforeMonth", laid_quarterday_civil_beforeMonth), ("quarterday/field.dayNames", laid_quarterday_field_dayNames), ("quarterday/field.monthNames", laid_quarterday_field_monthNames), ("quarterday/field.policyNames", laid_quarterday_field_policyNames), ("quarterday/field.patterns", laid_quarterday_field_patterns), ("quarterday/field.cycles", laid_quarterday_field_cycles)], narrowed := true }
def ShapeDoesUptoSaid : Prop := shapeDoesUptoRow.holds Tryd.pinned (OpenSpec.upto shapeDoesSpec)

/-- 'quarterdaylaw15.ShapeQuarters', WHERE WHAT IT READS IS OF BULK AT MOST 1048576: true; the input reads as it did. -/
def shapeQuartersUptoRow : OpenClaim := { program := "ytidemknapbkeiaadoor", sum := "d8967e8006d21787c51d37a7eb1f1d660fc23cbfeebd47ea4e95be895f1e3e1a", func := "quarterday/quarterdaylaw15.ShapeQuarters", spec := "shapeQuarters", unfollowed := true, recurses := true, named := ["quarterday/field.dayNames", "quarterday/field.monthNames", "quarterday/field.patterns", "quarterday/field.cycles", "quarterday/field.policyNames"], apart := false, laid := [("quarterday/field.dayNames", laid_quarterday_field_dayNames), ("quarterday/field.monthNames", laid_quarterday_field_monthNames), ("quarterday/field.policyNames", laid_quarterday_field_policyNames), ("quarterday/field.patterns", laid_quarterday_field_patterns), ("quarterday/field.cycles", laid_quarterday_field_cycles)], narrowed := true }
def ShapeQuartersUptoSaid : Prop := shapeQuartersUptoRow.holds Tryd.pinned (OpenSpec.upto shapeQuartersSpec)

/-- 'quarterdaylaw15.ShapeWeeks', WHERE WHAT IT READS IS OF BULK AT MOST 1048576: true; the input reads as it did. -/
def shapeWeeksUptoRow : OpenClaim := { program := "ytidemknapbkeiaadoor", sum := "d8967e8006d21787c51d37a7eb1f1d660fc23cbfeebd47ea4e95be895f1e3e1a", func := "quarterday/quarterdaylaw15.ShapeWeeks", spec := "shapeWeeks", unfollowed := true, recurses := true, named := ["quarterday/field.dayNames", "quarterday/field.monthNames", "quarterday/field.patterns", "quarterday/field.cycles", "quarterday/field.policyNames", "quarterday/civil.beforeMonth"], apart := false, laid := [("quarterday/civil.beforeMonth", laid_quarterday_civil_beforeMonth), ("quarterday/field.dayNames", laid_quarterday_field_dayNames), ("quarterday/field.monthNames", laid_quarterday_field_monthNames), ("quarterday/field.policyNames", laid_quarterday_field_policyNames), ("quarterday/field.patterns", laid_quarterday_field_patterns), ("quarterday/field.cycles", laid_quarterday_field_cycles)], narrowed := true }
def ShapeWeeksUptoSaid : Prop := shapeWeeksUptoRow.holds Tryd.pinned (OpenSpec.upto shapeWeeksSpec)

/-- 'quarterdaylaw15.ShapeEnds', WHERE WHAT IT READS IS OF BULK AT MOST 1048576: true; the input reads as it did. -/
def shapeEndsUptoRow : OpenClaim := { program := "ytidemknapbkeiaadoor", sum := "d8967e8006d21787c51d37a7eb1f1d660fc23cbfeebd47ea4e95be895f1e3e1a", func := "quarterday/quarterdaylaw15.ShapeEnds", spec := "shapeEnds", unfollowed := true, recurses := true, named := ["quarterday/field.dayNames", "quarterday/field.monthNames", "quarterday/field.patterns", "quarterday/field.cycles", "quarterday/field.policyNames", "quarterday/civil.beforeMonth"], apart := false, laid := [("quarterday/civil.beforeMonth", laid_quarterday_civil_beforeMonth), ("quarterday/field.dayNames", laid_quarterday_field_dayNames), ("quarterday/field.monthNames", laid_quarterday_field_monthNames), ("quarterday/field.policyNames", laid_quarterday_field_policyNames), ("quarterday/field.patterns", laid_quarterday_field_patterns), ("quarterday/field.cycles", laid_quarterday_field_cycles)], narrowed := true }
def ShapeEndsUptoSaid : Prop := shapeEndsUptoRow.holds Tryd.pinned (OpenSpec.upto shapeEndsSpec)

/-- 'quarterdaylaw15.ShapeBroad', WHERE WHAT IT READS IS OF BULK AT MOST 1048576: true; the input reads as it did. -/
def shapeBroadUptoRow : OpenClaim := { program := "ytidemknapbkeiaadoor", sum := "d8967e8006d21787c51d37a7eb1f1d660fc23cbfeebd47ea4e95be895f1e3e1a", func := "quarterday/quarterdaylaw15.ShapeBroad", spec := "shapeBroad", unfollowed := true, recurses := true, named := ["quarterday/field.dayNames", "quarterday/field.monthNames", "quarterday/field.patterns", "quarterday/field.cycles", "quarterday/field.policyNames", "quarterday/civil.beforeMonth"], apart := false, laid := [("quarterday/civil.beforeMonth", laid_quarterday_civil_beforeMonth), ("quarterday/field.dayNames", laid_quarterday_field_dayNames), ("quarterday/field.monthNames", laid_quarterday_field_monthNames), ("quarterday/field.policyNames", laid_quarterday_field_policyNames), ("quarterday/field.patterns", laid_quarterday_field_patterns), ("quarterday/field.cycles", laid_quarterday_field_cycles)], narrowed := true }
def ShapeBroadUptoSaid : Prop := shapeBroadUptoRow.holds Tryd.pinned (OpenSpec.upto shapeBroadSpec)

/-- 'quarterdaylaw15.ShapeMonths', WHERE WHAT IT READS IS OF BULK AT MOST 1048576: true; the input reads as it did. -/
def shapeMonthsUptoRow : OpenClaim := { program := "ytidemknapbkeiaadoor", sum := "d8967e8006d21787c51d37a7eb1f1d660fc23cbfeebd47ea4e95be895f1e3e1a", func := "quarterday/quarterdaylaw15.ShapeMonths", spec := "shapeMonths", unfollowed := true, recurses := true, named := ["quarterday/field.dayNames", "quarterday/field.monthNames", "quarterday/field.patterns", "quarterday/field.cycles", "quarterday/field.policyNames", "quarterday/civil.beforeMonth"], apart := false, laid := [("quarterday/civil.beforeMonth", laid_quarterday_civil_beforeMonth), ("quarterday/field.dayNames", laid_quarterday_field_dayNames), ("quarterday/field.monthNames", laid_quarterday_field_monthNames), ("quarterday/field.policyNames", laid_quarterday_field_policyNames), ("quarterday/field.patterns", laid_quarterday_field_patterns), ("quarterday/field.cycles", laid_quarterday_field_cycles)], narrowed := true }
def ShapeMonthsUptoSaid : Prop := shapeMonthsUptoRow.holds Tryd.pinned (OpenSpec.upto shapeMonthsSpec)

/-- 'quarterdaylaw15.ShapeAdded', WHERE WHAT IT READS IS OF BULK AT MOST 1048576: true; the input reads as it did. -/
def shapeAddedUptoRow : OpenClaim := { program := "ytidemknapbkeiaadoor", sum := "d8967e8006d21787c51d37a7eb1f1d660fc23cbfeebd47ea4e95be895f1e3e1a", func := "quarterday/quarterdaylaw15.ShapeAdded", spec := "shapeAdded", unfollowed := true, recurses := true, named := ["quarterday/field.dayNames", "quarterday/field.monthNames", "quarterday/field.patterns", "quarterday/field.cycles", "quarterday/field.policyNames", "quarterday/civil.beforeMonth"], apart := false, laid := [("quarterday/civil.beforeMonth", laid_quarterday_civil_beforeMonth), ("quarterday/field.dayNames", laid_quarterday_field_dayNames), ("quarterday/field.monthNames", laid_quarterday_field_monthNames), ("quarterday/field.policyNames", laid_quarterday_field_policyNames), ("quarterday/field.patterns", laid_quarterday_field_patterns), ("quarterday/field.cycles", laid_quarterday_field_cycles)], narrowed := true }
def ShapeAddedUptoSaid : Prop := shapeAddedUptoRow.holds Tryd.pinned (OpenSpec.upto shapeAddedSpec)

/-- 'quarterdaylaw15.ShapeHalves', WHERE WHAT IT READS IS OF BULK AT MOST 1048576: true; the input reads as it did. -/
def shapeHalvesUptoRow : OpenClaim := { program := "ytidemknapbkeiaadoor", sum := "d8967e8006d21787c51d37a7eb1f1d660fc23cbfeebd47ea4e95be895f1e3e1a", func := "quarterday/quarterdaylaw15.ShapeHalves", spec := "shapeHalves", unfollowed := true, recurses := true, named := ["quarterday/field.dayNames", "quarterday/field.monthNames", "quarterday/field.patterns", "quarterday/field.cycles", "quarterday/field.policyNames"], apart := false, laid := [("quarterday/field.dayNames", laid_quarterday_field_dayNames), ("quarterday/field.monthNames", laid_quarterday_field_monthNames), ("quarterday/field.policyNames", laid_quarterday_field_policyNames), ("quarterday/field.patterns", laid_quarterday_field_patterns), ("quarterday/field.cycles", laid_quarterday_field_cycles)], narrowed := true }
def ShapeHalvesUptoSaid : Prop := shapeHalvesUptoRow.holds Tryd.pinned (OpenSpec.upto shapeHalvesSpec)

/-- 'quarterdaylaw16.UnitCover', WHERE WHAT IT READS IS OF BULK AT MOST 1048576: true; the input reads as it did. -/
def unitCoverUptoRow : OpenClaim := { program := "ytidemknapbkeiaadoor", sum := "d8967e8006d21787c51d37a7eb1f1d660fc23cbfeebd47ea4e95be895f1e3e1a", func := "quarterday/quarterdaylaw16.UnitCover", spec := "unitCover", unfollowed := true, recurses := true, named := ["quarterday/field.dayNames", "quarterday/field.monthNames", "quarterday/field.patterns", "quarterday/field.cycles", "quarterday/field.policyNames", "quarterday/civil.beforeMonth"], apart := false, laid := [("quarterday/civil.beforeMonth", laid_quarterday_civil_beforeMonth), ("quarterday/field.dayNames", laid_quarterday_field_dayNames), ("quarterday/field.monthNames", laid_quarterday_field_monthNames), ("quarterday/field.policyNames", laid_quarterday_field_policyNames), ("quarterday/field.patterns", laid_quarterday_field_patterns), ("quarterday/field.cycles", laid_quarterday_field_cycles)], narrowed := true }
def UnitCoverUptoSaid : Prop := unitCoverUptoRow.holds Tryd.pinned (OpenSpec.upto unitCoverSpec)

/-- 'quarterdaylaw16.UnitInside', WHERE WHAT IT READS IS OF BULK AT MOST 1048576: true; the input reads as it did. -/
def unitInsideUptoRow : OpenClaim := { program := "ytidemknapbkeiaadoor", sum := "d8967e8006d21787c51d37a7eb1f1d660fc23cbfeebd47ea4e95be895f1e3e1a", func := "quarterday/quarterdaylaw16.UnitInside", spec := "unitInside", unfollowed := true, recurses := true, named := ["quarterday/field.dayNames", "quarterday/field.monthNames", "quarterday/field.patterns", "quarterday/field.cycles", "quarterday/field.policyNames", "quarterday/civil.beforeMonth"], apart := false, laid := [("quarterday/civil.beforeMonth", laid_quarterday_civil_beforeMonth), ("quarterday/field.dayNames", laid_quarterday_field_dayNames), ("quarterday/field.monthNames", laid_quarterday_field_monthNames), ("quarterday/field.policyNames", laid_quarterday_field_policyNames), ("quarterday/field.patterns", laid_quarterday_field_patterns), ("quarterday/field.cycles", laid_quarterday_field_cycles)], narrowed := true }
def UnitInsideUptoSaid : Prop := unitInsideUptoRow.holds Tryd.pinned (OpenSpec.upto unitInsideSpec)

/-- 'quarterdaylaw16.UnitWeeks', WHERE WHAT IT READS IS OF BULK AT MOST 1048576: true; the input reads as it did. -/
def unitWeeksUptoRow : OpenClaim := { program := "ytidemknapbkeiaadoor", sum := "d8967e8006d21787c51d37a7eb1f1d660fc23cbfeebd47ea4e95be895f1e3e1a", func := "quarterday/quarterdaylaw16.UnitWeeks", spec := "unitWeeks", unfollowed := true, recurses := true, named := ["quarterday/field.dayNames", "quarterday/field.monthNames", "quarterday/field.patterns", "quarterday/field.cycles", "quarterday/field.policyNames", "quarterday/civil.beforeMonth"], apart := false, laid := [("quarterday/civil.beforeMonth", laid_quarterday_civil_beforeMonth), ("quarterday/field.dayNames", laid_quarterday_field_dayNames), ("quarterday/field.monthNames", laid_quarterday_field_monthNames), ("quarterday/field.policyNames", laid_quarterday_field_policyNames), ("quarterday/field.patterns", laid_quarterday_field_patterns), ("quarterday/field.cycles", laid_quarterday_field_cycles)], narrowed := true }
def UnitWeeksUptoSaid : Prop := unitWeeksUptoRow.holds Tryd.pinned (OpenSpec.upto unitWeeksSpec)

/-- 'quarterdaylaw16.UnitDown', WHERE WHAT IT READS IS OF BULK AT MOST 1048576: true; the input reads as it did. -/
def unitDownUptoRow : OpenClaim := { program := "ytidemknapbkeiaadoor", sum := "d8967e8006d21787c51d37a7eb1f1d660fc23cbfeebd47ea4e95be895f1e3e1a", func := "quarterday/quarterdaylaw16.UnitDown", spec := "unitDown", unfollowed := true, recurses := true, named := ["quarterday/field.dayNames", "quarterday/field.monthNames", "quarterday/field.patterns", "quarterday/field.cycles", "quarterday/field.policyNames", "quarterday/civil.beforeMonth"], apart := false, laid := [("quarterday/civil.beforeMonth", laid_quarterday_civil_beforeMonth), ("quarterday/field.dayNames", laid_quarterday_field_dayNames), ("quarterday/field.monthNames", laid_quarterday_field_monthNames), ("quarterday/field.policyNames", laid_quarterday_field_policyNames), ("quarterday/field.patterns", laid_quarterday_field_patterns), ("quarterday/field.cycles", laid_quarterday_field_cycles)], narrowed := true }
def UnitDownUptoSaid : Prop := unitDownUptoRow.holds Tryd.pinned (OpenSpec.upto unitDownSpec)

/-- 'quarterdaylaw16.UnitCounts', WHERE WHAT IT READS IS OF BULK AT MOST 1048576: true; the input reads as it did. -/
def unitCountsUptoRow : OpenClaim := { program := "ytidemknapbkeiaadoor", sum := "d8967e8006d21787c51d37a7eb1f1d660fc23cbfeebd47ea4e95be895f1e3e1a", func := "quarterday/quarterdaylaw16.UnitCounts", spec := "unitCounts", unfollowed := true, recurses := true, named := ["quarterday/field.dayNames", "quarterday/field.monthNames", "quarterday/field.patterns", "quarterday/field.cycles", "quarterday/field.policyNames", "quarterday/civil.beforeMonth"], apart := false, laid := [("quarterday/civil.beforeMonth", laid_quarterday_civil_beforeMonth), ("quarterday/field.dayNames", laid_quarterday_field_dayNames), ("quarterday/field.monthNames", laid_quarterday_field_monthNames), ("quarterday/field.policyNames", laid_quarterday_field_policyNames), ("quarterday/field.patterns", laid_quarterday_field_patterns), ("quarterday/field.cycles", laid_quarterday_field_cycles)], narrowed := true }
def UnitCountsUptoSaid : Prop := unitCountsUptoRow.holds Tryd.pinned (OpenSpec.upto unitCountsSpec)

/-- 'quarterdaylaw16.UnitUp', WHERE WHAT IT READS IS OF BULK AT MOST 1048576: true; the input reads as it did. -/
def unitUpUptoRow : OpenClaim := { program := "ytidemknapbkeiaadoor", sum := "d8967e8006d21787c51d37a7eb1f1d660fc23cbfeebd47ea4e95be895f1e3e1a", func := "quarterday/quarterdaylaw16.UnitUp", spec := "unitUp", unfollowed := true, recurses := true, named := ["quarterday/field.dayNames", "quarterday/field.monthNames", "quarterday/field.patterns", "quarterday/field.cycles", "quarterday/field.policyNames", "quarterday/civil.beforeMonth"], apart := false, laid := [("quarterday/civil.beforeMonth", laid_quarterday_civil_beforeMonth), ("quarterday/field.dayNames", laid_quarterday_field_dayNames), ("quarterday/field.monthNames", laid_quarterday_field_monthNames), ("quarterday/field.policyNames", laid_quarterday_field_policyNames), ("quarterday/field.patterns", laid_quarterday_field_patterns), ("quarterday/field.cycles", laid_quarterday_field_cycles)], narrowed := true }
def UnitUpUptoSaid : Prop := unitUpUptoRow.holds Tryd.pinned (OpenSpec.upto unitUpSpec)

end Rows
end Go.Proofs.YtidemknapbkeiaaDoor
