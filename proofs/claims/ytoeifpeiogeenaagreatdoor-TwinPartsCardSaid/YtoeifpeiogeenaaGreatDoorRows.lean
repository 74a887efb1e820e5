/-
  NARROWER THAN 'FOR EVERY INPUT', by the rows' own cells (each row's printed sentence says how): TwinCounts: laid · TwinMonths: laid · TwinOwn: laid · TwinRuns: laid · TwinParts: laid · TwinDays: laid · RateSum: laid · RateTies: laid · RateDays: laid · RateOne: laid · RateLevels: laid · RateExact: laid.
  DERIVED. THE GIVEN ROWS OF THIS SEAT. 12 by the template 'for every input the law returns true; each argument reads behind the call as it read before'; 0 by the template 'total and deterministic' (their statements: YtoeifpeiogeenaaGreatDoorTotals.lean).
  GIVEN WITH THE SEED: the statements are not yours to turn. If you find one false, say at which input.
  Laid BY PROGRAM, IN A SANDBOX (cutbox-rows.mjs): the forced cells as the released guide's own fill.sh prints them over the translation 3ceae8e23e702fac… (all of the seat's roots in one cut). By AI agents, Wed Nov 11 2026. No macro, syntax, notation, axiom, sorry.
-/
import Derived.Test.YtoeifpeiogeenaaGreatDoorChecked
import GoSem.Claim
import GoSem.ClaimJoined
import GoSem.ClaimMapViews
import Derived.JoinedTies
import Derived.KernelRfl
namespace Go.Proofs.YtoeifpeiogeenaaGreatDoor
/- THE CELL 'sum', in the pinned program and in every row, IS THE sha256 OF THE DUMP (.gsa) THAT YtoeifpeiogeenaaGreatDoorProg.lean LOADS. Nothing in Lean hashes anything: it is a label: what it is worth is what the hold of that sum in a sandbox is worth. -/
noncomputable def Tryz.pinned : Pinned := { name := "ytoeifpeiogeenaagreatdoor", sum := "3ceae8e23e702fac3da31ed60481e42b85c88aa4dcd35b6f0ce41d91335690ba", checked := Tryz.checked }
namespace Rows
def none {H : Type} : Left H := { results := [], args := [] }

/- WHAT THE LISTED PACKAGE-LEVEL VARIABLES READ AS WHEN THE CALL BEGINS. Each datum BY PROGRAM (the guide's laid-datum.mjs) off the statement by which the dump's own 'gosem.cut.vars' lays the variable. In a bare row this is a premise. The card (YtoeifpeiogeenaaGreatDoorCards.lean) ties it to the program's text. -/
def laid_quarterday_civil_beforeMonth {H : Type} : DataW H := .agg [.lit (.int .i64 0), .lit (.int .i64 31), .lit (.int .i64 59), .lit (.int .i64 90), .lit (.int .i64 120), .lit (.int .i64 151), .lit (.int .i64 181), .lit (.int .i64 212), .lit (.int .i64 243), .lit (.int .i64 273), .lit (.int .i64 304), .lit (.int .i64 334), .lit (.int .i64 365)]
def laid_quarterday_field_dayNames {H : Type} : DataW H := .slice [.lit (.string [109, 111, 110]), .lit (.string [116, 117, 101]), .lit (.string [119, 101, 100]), .lit (.string [116, 104, 117]), .lit (.string [102, 114, 105]), .lit (.string [115, 97, 116]), .lit (.string [115, 117, 110])] []
def laid_quarterday_field_monthNames {H : Type} : DataW H := .slice [.lit (.string [106, 97, 110]), .lit (.string [102, 101, 98]), .lit (.string [109, 97, 114]), .lit (.string [97, 112, 114]), .lit (.string [109, 97, 121]), .lit (.string [106, 117, 110]), .lit (.string [106, 117, 108]), .lit (.string [97, 117, 103]), .lit (.string [115, 101, 112]), .lit (.string [111, 99, 116]), .lit (.string [110, 111, 118]), .lit (.string [100, 101, 99])] []
def laid_quarterday_field_policyNames {H : Type} : DataW H := .slice [.lit (.string [115, 116, 97, 114, 116]), .lit (.string [115, 104, 105, 102, 116]), .lit (.string [100, 114, 111, 112]), .lit (.string [99, 108, 97, 109, 112])] []
def laid_quarterday_field_patterns {H : Type} : DataW H := .slice [.agg [.lit (.int .i64 5), .lit (.int .i64 4), .lit (.int .i64 4)], .agg [.lit (.int .i64 4), .lit (.int .i64 5), .lit (.int .i64 4)], .agg [.lit (.int .i64 4), .lit (.int .i64 4), .lit (.int .i64 5)]] []
def laid_quarterday_field_cycles {H : Type} : DataW H := .slice [.lit (.int .i64 1), .lit (.int .i64 2), .lit (.int .i64 4)] []

/-- 'quarterdaylaw20.TwinCounts': WHATEVER THE INPUT: true; the input reads as it did. -/
def twinCountsSpec : ChangeSpec := { name := "twinCounts", fn := fun _ => fun
  | [d1, d2, d3] => { results := [.lit (.bool true)], args := [d1, d2, d3] }
  | _ => none }
def twinCountsRow : OpenClaim := { program := "ytoeifpeiogeenaagreatdoor", sum := "3ceae8e23e702fac3da31ed60481e42b85c88aa4dcd35b6f0ce41d91335690ba", func := "quarterday/quarterdaylaw20.TwinCounts", spec := "twinCounts", unfollowed := true, recurses := true, named := ["quarterday/field.dayNames", "quarterday/field.monthNames", "quarterday/field.patterns", "quarterday/field.cycles", "quarterday/field.policyNames", "quarterday/civil.beforeMonth"], apart := false, laid := [("quarterday/civil.beforeMonth", laid_quarterday_civil_beforeMonth), ("quarterday/field.dayNames", laid_quarterday_field_dayNames), ("quarterday/field.monthNames", laid_quarterday_field_monthNames), ("quarterday/field.policyNames", laid_quarterday_field_policyNames), ("quarterday/field.patterns", laid_quarterday_field_patterns), ("quarterday/field.cycles", laid_quarterday_field_cycles)] }
def TwinCountsSaid : Prop := twinCountsRow.holds Tryz.pinned (OpenSpec.ofChange twinCountsSpec)

/-- ITS FALSE NEIGHBOUR: 'it returns false'. Refute it at one input. -/
def twinCountsWrong : ChangeSpec := { name := "twinCounts", fn := fun _ => fun
  | [d1, d2, d3] => { results := [.lit (.bool false)], args := [d1, d2, d3] }
  | _ => none }
def TwinCountsWrongFalsely : Prop := twinCountsRow.holds Tryz.pinned (OpenSpec.ofChange twinCountsWrong)

/-- 'quarterdaylaw20.TwinMonths': WHATEVER THE INPUT: true; the input reads as it did. -/
def twinMonthsSpec : ChangeSpec := { name := "twinMonths", fn := fun _ => fun
  | [d1, d2, d3] => { results := [.lit (.bool true)], args := [d1, d2, d3] }
  | _ => none }
def twinMonthsRow : OpenClaim := { program := "ytoeifpeiogeenaagreatdoor", sum := "3ceae8e23e702fac3da31ed60481e42b85c88aa4dcd35b6f0ce41d91335690ba", func := "quarterday/quarterdaylaw20.TwinMonths", spec := "twinMonths", unfollowed := true, recurses := true, named := ["quarterday/field.dayNames", "quarterday/field.monthNames", "quarterday/field.patterns", "quarterday/field.cycles", "quarterday/field.policyNames", "quarterday/civil.beforeMonth"], apart := false, laid := [("quarterday/civil.beforeMonth", laid_quarterday_civil_beforeMonth), ("quarterday/field.dayNames", laid_quarterday_field_dayNames), ("quarterday/field.monthNames", laid_quarterday_field_monthNames), ("quarterday/field.policyNames", laid_quarterday_field_policyNames), ("quarterday/field.patterns", laid_quarterday_field_patterns), ("quarterday/field.cycles", laid_quarterday_field_cycles)] }
def TwinMonthsSaid : Prop := twinMonthsRow.holds Tryz.pinned (OpenSpec.ofChange twinMonthsSpec)

/-- ITS FALSE NEIGHBOUR: 'it returns false'. Refute it at one input. -/
def twinMonthsWrong : ChangeSpec := { name := "twinMonths", fn := fun _ => fun
  | [d1, d2, d3] => { results := [.lit (.bool false)], args := [d1, d2, d3] }
  | _ => none }
def TwinMonthsWrongFalsely : Prop := twinMonthsRow.holds Tryz.pinned (OpenSpec.ofChange twinMonthsWrong)

/-- 'quarterdaylaw20.TwinOwn': WHATEVER THE INPUT: true; the input reads as it did. -/
def twinOwnSpec : ChangeSpec := { name := "twinOwn", fn := fun _ => fun
  | [d1, d2, d3] => { results := [.lit (.bool true)], args := [d1, d2, d3] }
  | _ => none }
def twinOwnRow : OpenClaim := { program := "ytoeifpeiogeenaagreatdoor", sum := "3ceae8e23e702fac3da31ed60481e42b85c88aa4dcd35b6f0ce41d91335690ba", func := "quarterday/quarterdaylaw20.TwinOwn", spec := "twinOwn", unfollowed := true, recurses := true, named := ["quarterday/field.dayNames", "quarterday/field.monthNames", "quarterday/field.patterns", "quarterday/field.cycles", "quarterday/field.policyNames", "quarterday/civil.beforeMonth"], apart := false, laid := [("quarterday/civil.beforeMonth", laid_quarterday_civil_beforeMonth), ("quarterday/field.dayNames", laid_quarterday_field_dayNames), ("quarterday/field.monthNames", laid_quarterday_field_monthNames), ("quarterday/field.policyNames", laid_quarterday_field_policyNames), ("quarterday/field.patterns", laid_quarterday_field_patterns), ("quarterday/field.cycles", laid_quarterday_field_cycles)] }
def TwinOwnSaid : Prop := twinOwnRow.holds Tryz.pinned (OpenSpec.ofChange twinOwnSpec)

/-- ITS FALSE NEIGHBOUR: 'it returns false'. Refute it at one input. -/
def twinOwnWrong : ChangeSpec := { name := "twinOwn", fn := fun _ => fun
  | [d1, d2, d3] => { results := [.lit (.bool false)], args := [d1, d2, d3] }
  | _ => none }
def TwinOwnWrongFalsely : Prop := twinOwnRow.holds Tryz.pinned (OpenSpec.ofChange twinOwnWrong)

/-- 'quarterdaylaw20.TwinRuns': WHATEVER THE INPUT: true; the input reads as it did. -/
def twinRunsSpec : ChangeSpec := { name := "twinRuns", fn := fun _ => fun
  | [d1, d2, d3] => { results := [.lit (.bool true)], args := [d1, d2, d3] }
  | _ => none }
def twinRunsRow : OpenClaim := { program := "ytoeifpeiogeenaagreatdoor", sum := "3ceae8e23e702fac3da31ed60481e42b85c88aa4dcd35b6f0ce41d91335690ba", func := "quarterday/quarterdaylaw20.TwinRuns", spec := "twinRuns", unfollowed := true, recurses := true, named := ["quarterday/field.dayNames", "quarterday/field.monthNames", "quarterday/field.patterns", "quarterday/field.cycles", "quarterday/field.policyNames", "quarterday/civil.beforeMonth"], apart := false, laid := [("quarterday/civil.beforeMonth", laid_quarterday_civil_beforeMonth), ("quarterday/field.dayNames", laid_quarterday_field_dayNames), ("quarterday/field.monthNames", laid_quarterday_field_monthNames), ("quarterday/field.policyNames", laid_quarterday_field_policyNames), ("quarterday/field.patterns", laid_quarterday_field_patterns), ("quarterday/field.cycles", laid_quarterday_field_cycles)] }
def TwinRunsSaid : Prop := twinRunsRow.holds Tryz.pinned (OpenSpec.ofChange twinRunsSpec)

/-- ITS FALSE NEIGHBOUR: 'it returns false'. Refute it at one input. -/
def twinRunsWrong : ChangeSpec := { name := "twinRuns", fn := fun _ => fun
  | [d1, d2, d3] => { results := [.lit (.bool false)], args := [d1, d2, d3] }
  | _ => none }
def TwinRunsWrongFalsely : Prop := twinRunsRow.holds Tryz.pinned (OpenSpec.ofChange twinRunsWrong)

/-- 'quarterdaylaw20.TwinParts': WHATEVER THE INPUT: true; the input reads as it did. -/
def twinPartsSpec : ChangeSpec := { name := "twinParts", fn := fun _ => fun
  | [d1, d2, d3, d4] => { results := [.lit (.bool true)], args := [d1, d2, d3, d4] }
  | _ => none }
def twinPartsRow : OpenClaim := { program := "ytoeifpeiogeenaagreatdoor", sum := "3ceae8e23e702fac3da31ed60481e42b85c88aa4dcd35b6f0ce41d91335690ba", func := "quarterday/quarterdaylaw20.TwinParts", spec := "twinParts", unfollowed := true, recurses := true, named := ["quarterday/field.dayNames", "quarterday/field.monthNames", "quarterday/field.patterns", "quarterday/field.cycles", "quarterday/field.policyNames", "quarterday/civil.beforeMonth"], apart := false, laid := [("quarterday/civil.beforeMonth", laid_quarterday_civil_beforeMonth), ("quarterday/field.dayNames", laid_quarterday_field_dayNames), ("quarterday/field.monthNames", laid_quarterday_field_monthNames), ("quarterday/field.policyNames", laid_quarterday_field_policyNames), ("quarterday/field.patterns", laid_quarterday_field_patterns), ("quarterday/field.cycles", laid_quarterday_field_cycles)] }
def TwinPartsSaid : Prop := twinPartsRow.holds Tryz.pinned (OpenSpec.ofChange twinPartsSpec)

/-- ITS FALSE NEIGHBOUR: 'it returns false'. Refute it at one input. -/
def twinPartsWrong : ChangeSpec := { name := "twinParts", fn := fun _ => fun
  | [d1, d2, d3, d4] => { results := [.lit (.bool false)], args := [d1, d2, d3, d4] }
  | _ => none }
def TwinPartsWrongFalsely : Prop := twinPartsRow.holds Tryz.pinned (OpenSpec.ofChange twinPartsWrong)

/-- 'quarterdaylaw20.TwinDays': WHATEVER THE INPUT: true; the input reads as it did. -/
def twinDaysSpec : ChangeSpec := { name := "twinDays", fn := fun _ => fun
  | [d1, d2, d3] => { results := [.lit (.bool true)], args := [d1, d2, d3] }
  | _ => none }
def twinDaysRow : OpenClaim := { program := "ytoeifpeiogeenaagreatdoor", sum := "3ceae8e23e702fac3da31ed60481e42b85c88aa4dcd35b6f0ce41d91335690ba", func := "quarterday/quarterdaylaw20.TwinDays", spec := "twinDays", unfollowed := true, recurses := true, named := ["quarterday/field.dayNames", "quarterday/field.monthNames", "quarterday/field.patterns", "quarterday/field.cycles", "quarterday/field.policyNames", "quarterday/civil.beforeMonth"], apart := false, laid := [("quarterday/civil.beforeMonth", laid_quarterday_civil_beforeMonth), ("quarterday/field.dayNames", laid_quarterday_field_dayNames), ("quarterday/field.monthNames", laid_quarterday_field_monthNames), ("quarterday/field.policyNames", laid_quarterday_field_policyNames), ("quarterday/field.patterns", laid_quarterday_field_patterns), ("quarterday/field.cycles", laid_quarterday_field_cycles)] }
def TwinDaysSaid : Prop := twinDaysRow.holds Tryz.pinned (OpenSpec.ofChange twinDaysSpec)

/-- ITS FALSE NEIGHBOUR: 'it returns false'. Refute it at one input. -/
def twinDaysWrong : ChangeSpec := { name := "twinDays", fn := fun _ => fun
  | [d1, d2, d3] => { results := [.lit (.bool false)], args := [d1, d2, d3] }
  | _ => none }
def TwinDaysWrongFalsely : Prop := twinDaysRow.holds Tryz.pinned (OpenSpec.ofChange twinDaysWrong)

/-- 'quarterdaylaw21.RateSum': WHATEVER THE INPUT: true; the input reads as it did. -/
def rateSumSpec : ChangeSpec := { name := "rateSum", fn := fun _ => fun
  | [d1, d2, d3, d4] => { results := [.lit (.bool true)], args := [d1, d2, d3, d4] }
  | _ => none }
def rateSumRow : OpenClaim := { program := "ytoeifpeiogeenaagreatdoor", sum := "3ceae8e23e702fac3da31ed60481e42b85c88aa4dcd35b6f0ce41d91335690ba", func := "quarterday/quarterdaylaw21.RateSum", spec := "rateSum", unfollowed := true, recurses := true, named := ["quarterday/field.dayNames", "quarterday/field.monthNames", "quarterday/field.patterns", "quarterday/field.cycles", "quarterday/field.policyNames", "quarterday/civil.beforeMonth"], apart := false, laid := [("quarterday/civil.beforeMonth", laid_quarterday_civil_beforeMonth), ("quarterday/field.dayNames", laid_quarterday_field_dayNames), ("quarterday/field.monthNames", laid_quarterday_field_monthNames), ("quarterday/field.policyNames", laid_quarterday_field_policyNames), ("quarterday/field.patterns", laid_quarterday_field_patterns), ("quarterday/field.cycles", laid_quarterday_field_cycles)] }
def RateSumSaid : Prop := rateSumRow.holds Tryz.pinned (OpenSpec.ofChange rateSumSpec)

/-- ITS FALSE NEIGHBOUR: 'it returns false'. Refute it at one input. -/
def rateSumWrong : ChangeSpec := { name := "rateSum", fn := fun _ => fun
  | [d1, d2, d3, d4] => { results := [.lit (.bool false)], args := [d1, d2, d3, d4] }
  | _ => none }
def RateSumWrongFalsely : Prop := rateSumRow.holds Tryz.pinned (OpenSpec.ofChange rateSumWrong)

/-- 'quarterdaylaw21.RateTies': WHATEVER THE INPUT: true; the input reads as it did. -/
def rateTiesSpec : ChangeSpec := { name := "rateTies", fn := fun _ => fun
  | [d1, d2, d3, d4] => { results := [.lit (.bool true)], args := [d1, d2, d3, d4] }
  | _ => none }
def rateTiesRow : OpenClaim := { program := "ytoeifpeiogeenaagreatdoor", sum := "3ceae8e23e702fac3da31ed60481e42b85c88aa4dcd35b6f0ce41d91335690ba", func := "quarterday/quarterdaylaw21.RateTies", spec := "rateTies", unfollowed := true, recurses := true, named := ["quarterday/field.dayNames", "quarterday/field.monthNames", "quarterday/field.patterns", "quarterday/field.cycles", "quarterday/field.policyNames", "quarterday/civil.beforeMonth"], apart := false, laid := [("quarterday/civil.beforeMonth", laid_quarterday_civil_beforeMonth), ("quarterday/field.dayNames", laid_quarterday_field_dayNames), ("quarterday/field.monthNames", laid_quarterday_field_monthNames), ("quarterday/field.policyNames", laid_quarterday_field_policyNames), ("quarterday/field.patterns", laid_quarterday_field_patterns), ("quarterday/field.cycles", laid_quarterday_field_cycles)] }
def RateTiesSaid : Prop := rateTiesRow.holds Tryz.pinned (OpenSpec.ofChange rateTiesSpec)

/-- ITS FALSE NEIGHBOUR: 'it returns false'. Refute it at one input. -/
def rateTiesWrong : ChangeSpec := { name := "rateTies", fn := fun _ => fun
  | [d1, d2, d3, d4] => { results := [.lit (.bool false)], args := [d1, d2, d3, d4] }
  | _ => none }
def RateTiesWrongFalsely : Prop := rateTiesRow.holds Tryz.pinned (OpenSpec.ofChange rateTiesWrong)

/-- 'quarterdaylaw21.RateDays': WHATEVER THE INPUT: true; the input reads as it did. -/
def rateDaysSpec : ChangeSpec := { name := "rateDays", fn := fun _ => fun
  | [d1, d2, d3] => { results := [.lit (.bool true)], args := [d1, d2, d3] }
  | _ => none }
def rateDaysRow : OpenClaim := { program := "ytoeifpeiogeenaagreatdoor", sum := "3ceae8e23e702fac3da31ed60481e42b85c88aa4dcd35b6f0ce41d91335690ba", func := "quarterday/quarterdaylaw21.RateDays", spec := "rateDays", unfollowed := true, recurses := true, named := ["quarterday/field.dayNames", "quarterday/field.monthNames", "quarterday/field.patterns", "quarterday/field.cycles", "quarterday/field.policyNames", "quarterday/civil.beforeMonth"], apart := false, laid := [("quarterday/civil.beforeMonth", laid_quarterday_civil_beforeMonth), ("quarterday/field.dayNames", laid_quarterday_field_dayNames), ("quarterday/field.monthNames", laid_quarterday_field_monthNames), ("quarterday/field.policyNames", laid_quarterday_field_policyNames), ("quarterday/field.patterns", laid_quarterday_field_patterns), ("quarterday/field.cycles", laid_quarterday_field_cycles)] }
def RateDaysSaid : Prop := rateDaysRow.holds Tryz.pinned (OpenSpec.ofChange rateDaysSpec)

/-- ITS FALSE NEIGHBOUR: 'it returns false'. Refute it at one input. -/
def rateDaysWrong : ChangeSpec := { name := "rateDays", fn := fun _ => fun
  | [d1, d2, d3] => { results := [.lit (.bool false)], args := [d1, d2, d3] }
  | _ => none }
def RateDaysWrongFalsely : Prop := rateDaysRow.holds Tryz.pinned (OpenSpec.ofChange rateDaysWrong)

/-- 'quarterdaylaw21.RateOne': WHATEVER THE INPUT: true; the input reads as it did. -/
def rateOneSpec : ChangeSpec := { name := "rateOne", fn := fun _ => fun
  | [d1, d2, d3, d4, d5] => { results := [.lit (.bool true)], args := [d1, d2, d3, d4, d5] }
  | _ => none }
def rateOneRow : OpenClaim := { program := "ytoeifpeiogeenaagreatdoor", sum := "3ceae8e23e702fac3da31ed60481e42b85c88aa4dcd35b6f0ce41d91335690ba", func := "quarterday/quarterdaylaw21.RateOne", spec := "rateOne", unfollowed := true, recurses := true, named := ["quarterday/field.dayNames", "quarterday/field.monthNames", "quarterday/field.patterns", "quarterday/field.cycles", "quarterday/field.policyNames", "quarterday/civil.beforeMonth"], apart := false, laid := [("quarterday/civil.beforeMonth", laid_quarterday_civil_beforeMonth), ("quarterday/field.dayNames", laid_quarterday_field_dayNames), ("quarterday/field.monthNames", laid_quarterday_field_monthNames), ("quarterday/field.policyNames", laid_quarterday_field_policyNames), ("quarterday/field.patterns", laid_quarterday_field_patterns), ("quarterday/field.cycles", laid_quarterday_field_cycles)] }
def RateOneSaid : Prop := rateOneRow.holds Tryz.pinned (OpenSpec.ofChange rateOneSpec)

/-- ITS FALSE NEIGHBOUR: 'it returns false'. Refute it at one input. -/
def rateOneWrong : ChangeSpec := { name := "rateOne", fn := fun _ => fun
  | [d1, d2, d3, d4, d5] => { results := [.lit (.bool false)], args := [d1, d2, d3, d4, d5] }
  | _ => none }
def RateOneWrongFalsely : Prop := rateOneRow.holds Tryz.pinned (OpenSpec.ofChange rateOneWrong)

/-- 'quarterdaylaw21.RateLevels': WHATEVER THE INPUT: true; the input reads as it did. -/
def rateLevelsSpec : ChangeSpec := { name := "rateLevels", fn := fun _ => fun
  | [d1, d2, d3, d4] => { results := [.lit (.bool true)], args := [d1, d2, d3, d4] }
  | _ => none }
def rateLevelsRow : OpenClaim := { program := "ytoeifpeiogeenaagreatdoor", sum := "3ceae8e23e702fac3da31ed60481e42b85c88aa4dcd35b6f0ce41d91335690ba", func := "quarterday/quarterdaylaw21.RateLevels", spec := "rateLevels", unfollowed := true, recurses := true, named := ["quarterday/field.dayNames", "quarterday/field.monthNames", "quarterday/field.patterns", "quarterday/field.cycles", "quarterday/field.policyNames", "quarterday/civil.beforeMonth"], apart := false, laid := [("quarterday/civil.beforeMonth", laid_quarterday_civil_beforeMonth), ("quarterday/field.dayNames", laid_quarterday_field_dayNames), ("quarterday/field.monthNames", laid_quarterday_field_monthNames), ("quarterday/field.policyNames", laid_quarterday_field_policyNames), ("quarterday/field.patterns", laid_quarterday_field_patterns), ("quarterday/field.cycles", laid_quarterday_field_cycles)] }
def RateLevelsSaid : Prop := rateLevelsRow.holds Tryz.pinned (OpenSpec.ofChange rateLevelsSpec)

/-- ITS FALSE NEIGHBOUR: 'it returns false'. Refute it at one input. -/
def rateLevelsWrong : ChangeSpec := { name := "rateLevels", fn := fun _ => fun
  | [d1, d2, d3, d4] => { results := [.lit (.bool false)], args := [d1, d2, d3, d4] }
  | _ => none }
def RateLevelsWrongFalsely : Prop := rateLevelsRow.holds Tryz.pinned (OpenSpec.ofChange rateLevelsWrong)

/-- 'quarterdaylaw21.RateExact': WHATEVER THE INPUT: true; the input reads as it did. -/
def rateExactSpec : ChangeSpec := { name := "rateExact", fn := fun _ => fun
  | [d1, d2, d3, d4] => { results := [.lit (.bool true)], args := [d1, d2, d3, d4] }
  | _ => none }
def rateExactRow : OpenClaim := { program := "ytoeifpeiogeenaagreatdoor", sum := "3ceae8e23e702fac3da31ed60481e42b85c88aa4dcd35b6f0ce41d91335690ba", func := "quarterday/quarterdaylaw21.RateExact", spec := "rateExact", unfollowed := true, recurses := true, named := ["quarterday/field.dayNames", "quarterday/field.monthNames", "quarterday/field.patterns", "quarterday/field.cycles", "quarterday/field.policyNames", "quarterday/civil.beforeMonth"], apart := false, laid := [("quarterday/civil.beforeMonth", laid_quarterday_civil_beforeMonth), ("quarterday/field.dayNames", laid_quarterday_field_dayNames), ("quarterday/field.monthNames", laid_quarterday_field_monthNames), ("quarterday/field.policyNames", laid_quarterday_field_policyNames), ("quarterday/field.patterns", laid_quarterday_field_patterns), ("quarterday/field.cycles", laid_quarterday_field_cycles)] }
def RateExactSaid : Prop := rateExactRow.holds Tryz.pinned (OpenSpec.ofChange rateExactSpec)

/-- ITS FALSE NEIGHBOUR: 'it returns false'. Refute it at one input. -/
def rateExactWrong : ChangeSpec := { name := "rateExact", fn := fun _ => fun
  | [d1, d2, d3, d4] => { results := [.lit (.bool false)], args := [d1, d2, d3, d4] }
  | _ => none }
def RateExactWrongFalsely : Prop := rateExactRow.holds Tryz.pinned (OpenSpec.ofChange rateExactWrong)

/- THE SECOND FORM. 'bulk': how many values and letters a reading holds, each counted each time it is reached (what is shared counts as often as it is met; a slice's spare places count too). A statement '..UptoSaid' is the law's where the arguments, and the package variables that the reading takes, are together of bulk at most 1048576: NARROWER than '..Said'. Prove '..Said' where nothing that the law and all that it calls make is longer than what came in: it says more and counts as full. Else prove '..UptoSaid'. A law counts once. -/
mutual
def uptoBulk {H : Type} : DataW H → Nat
  | .lit (.string bytes) => bytes.length + 1
  | .lit _ => 1
  | .nil => 1
  | .ptr d => uptoBulk d + 1
  | .slice elems spare => uptoBulkAll elems + uptoBulkAll spare + 1
  | .agg parts => uptoBulkAll parts + 1
  | .iface _ d => uptoBulk d + 1
  | .map entries => uptoBulkEntries entries + 1
  | .held _ => 1
def uptoBulkAll {H : Type} : List (DataW H) → Nat
  | [] => 0
  | d :: r => uptoBulk d + uptoBulkAll r
def uptoBulkEntries {H : Type} : List (Lit × DataW H) → Nat
  | [] => 0
  | x :: r => uptoBulkEntry x + uptoBulkEntries r
def uptoBulkEntry {H : Type} : Lit × DataW H → Nat
  | (.string bytes, d) => bytes.length + uptoBulk d + 1
  | (_, d) => uptoBulk d + 1
 end
def uptoSmall : (H : Type) → List (DataW H) → Bool := fun _ ds => decide (uptoBulkAll ds ≤ 1048576)
def OpenSpec.upto (s : _root_.Go.ChangeSpec) : _root_.Go.OpenSpec := { _root_.Go.OpenSpec.ofChange s with cond := some uptoSmall }

/-- 'quarterdaylaw20.TwinCounts', WHERE WHAT IT READS IS OF BULK AT MOST 1048576: true; the input reads as it did. -/
def twinCountsUptoRow : OpenClaim := { program := "ytoeifpeiogeenaagreatdoor", sum := "3ceae8e23e702fac3da31ed60481e42b85c88aa4dcd35b6f0ce41d91335690ba", func := "quarterday/quarterdaylaw20.TwinCounts", spec := "twinCounts", unfollowed := true, recurses := true, named := ["quarterday/field.dayNames", "quarterday/field.monthNames", "quarterday/field.patterns", "quarterday/field.cycles", "quarterday/field.policyNames", "quarterday/civil.beforeMonth"], apart := false, laid := [("quarterday/civil.beforeMonth", laid_quarterday_civil_beforeMonth), ("quarterday/field.dayNames", laid_quarterday_field_dayNames), ("quarterday/field.monthNames", laid_quarterday_field_monthNames), ("quarterday/field.policyNames", laid_quarterday_field_policyNames), ("quarterday/field.patterns", laid_quarterday_field_patterns), ("quarterday/field.cycles", laid_quarterday_field_cycles)], narrowed := true }
def TwinCountsUptoSaid : Prop := twinCountsUptoRow.holds Tryz.pinned (OpenSpec.upto twinCountsSpec)

/-- 'quarterdaylaw20.TwinMonths', WHERE WHAT IT READS IS OF BULK AT MOST 1048576: true; the input reads as it did. -/
def twinMonthsUptoRow : OpenClaim := { program := "ytoeifpeiogeenaagreatdoor", sum := "3ceae8e23e702fac3da31ed60481e42b85c88aa4dcd35b6f0ce41d91335690ba", func := "quarterday/quarterdaylaw20.TwinMonths", spec := "twinMonths", unfollowed := true, recurses := true, named := ["quarterday/field.dayNames", "quarterday/field.monthNames", "quarterday/field.patterns", "quarterday/field.cycles", "quarterday/field.policyNames", "quarterday/civil.beforeMonth"], apart := false, laid := [("quarterday/civil.beforeMonth", laid_quarterday_civil_beforeMonth), ("quarterday/field.dayNames", laid_quarterday_field_dayNames), ("quarterday/field.monthNames", laid_quarterday_field_monthNames), ("quarterday/field.policyNames", laid_quarterday_field_policyNames), ("quarterday/field.patterns", laid_quarterday_field_patterns), ("quarterday/field.cycles", laid_quarterday_field_cycles)], narrowed := true }
def TwinMonthsUptoSaid : Prop := twinMonthsUptoRow.holds Tryz.pinned (OpenSpec.upto twinMonthsSpec)

/-- 'quarterdaylaw20.TwinOwn', WHERE WHAT IT READS IS OF BULK AT MOST 1048576: true; the input reads as it did. -/
def twinOwnUptoRow : OpenClaim := { program := "ytoeifpeiogeenaagreatdoor", sum := "3ceae8e23e702fac3da31ed60481e42b85c88aa4dcd35b6f0ce41d91335690ba", func := "quarterday/quarterdaylaw20.TwinOwn", spec := "twinOwn", unfollowed := true, recurses := true, named := ["quarterday/field.dayNames", "quarterday/field.monthNames", "quarterday/field.patterns", "quarterday/field.cycles", "quarterday/field.policyNames", "quarterday/civil.beforeMonth"], apart := false, laid := [("quarterday/civil.beforeMonth", laid_quarterday_civil_beforeMonth), ("quarterday/field.dayNames", laid_quarterday_field_dayNames), ("quarterday/field.monthNames", laid_quarterday_field_monthNames), ("quarterday/field.policyNames", laid_quarterday_field_policyNames), ("quarterday/field.patterns", laid_quarterday_field_patterns), ("quarterday/field.cycles", laid_quarterday_field_cycles)], narrowed := true }
def TwinOwnUptoSaid : Prop := twinOwnUptoRow.holds Tryz.pinned (OpenSpec.upto twinOwnSpec)

/-- 'quarterdaylaw20.TwinRuns', WHERE WHAT IT READS IS OF BULK AT MOST 1048576: true; the input reads as it did. -/
def twinRunsUptoRow : OpenClaim := { program := "ytoeifpeiogeenaagreatdoor", sum := "3ceae8e23e702fac3da31ed60481e42b85c88aa4dcd35b6f0ce41d91335690ba", func := "quarterday/quarterdaylaw20.TwinRuns", spec := "twinRuns", unfollowed := true, recurses := true, named := ["quarterday/field.dayNames", "quarterday/field.monthNames", "quarterday/field.patterns", "quarterday/field.cycles", "quarterday/field.policyNames", "quarterday/civil.beforeMonth"], apart := false, laid := [("quarterday/civil.beforeMonth", laid_quarterday_civil_beforeMonth), ("quarterday/field.dayNames", laid_quarterday_field_dayNames), ("quarterday/field.monthNames", laid_quarterday_field_monthNames), ("quarterday/field.policyNames", laid_quarterday_field_policyNames), ("quarterday/field.patterns", laid_quarterday_field_patterns), ("quarterday/field.cycles", laid_quarterday_field_cycles)], narrowed := true }
def TwinRunsUptoSaid : Prop := twinRunsUptoRow.holds Tryz.pinned (OpenSpec.upto twinRunsSpec)

/-- 'quarterdaylaw20.TwinParts', WHERE WHAT IT READS IS OF BULK AT MOST 1048576: true; the input reads as it did. -/
def twinPartsUptoRow : OpenClaim := { program := "ytoeifpeiogeenaagreatdoor", sum := "3ceae8e23e702fac3da31ed60481e42b85c88aa4dcd35b6f0ce41d91335690ba", func := "quarterday/quarterdaylaw20.TwinParts", spec := "twinParts", unfollowed := true, recurses := true, named := ["quarterday/field.dayNames", "quarterday/field.monthNames", "quarterday/field.patterns", "quarterday/field.cycles", "quarterday/field.policyNames", "quarterday/civil.beforeMonth"], apart := false, laid := [("quarterday/civil.beforeMonth", laid_quarterday_civil_beforeMonth), ("quarterday/field.dayNames", laid_quarterday_field_dayNames), ("quarterday/field.monthNames", laid_quarterday_field_monthNames), ("quarterday/field.policyNames", laid_quarterday_field_policyNames), ("quarterday/field.patterns", laid_quarterday_field_patterns), ("quarterday/field.cycles", laid_quarterday_field_cycles)], narrowed := true }
def TwinPartsUptoSaid : Prop := twinPartsUptoRow.holds Tryz.pinned (OpenSpec.upto twinPartsSpec)

/-- 'quarterdaylaw20.TwinDays', WHERE WHAT IT READS IS OF BULK AT MOST 1048576: true; the input reads as it did. -/
def twinDaysUptoRow : OpenClaim := { program := "ytoeifpeiogeenaagreatdoor", sum := "3ceae8e23e702fac3da31ed60481e42b85c88aa4dcd35b6f0ce41d91335690ba", func := "quarterday/quarterdaylaw20.TwinDays", spec := "twinDays", unfollowed := true, recurses := true, named := ["quarterday/field.dayNames", "quarterday/field.monthNames", "quarterday/field.patterns", "quarterday/field.cycles", "quarterday/field.policyNames", "quarterday/civil.beforeMonth"], apart := false, laid := [("quarterday/civil.beforeMonth", laid_quarterday_civil_beforeMonth), ("quarterday/field.dayNames", laid_quarterday_field_dayNames), ("quarterday/field.monthNames", laid_quarterday_field_monthNames), ("quarterday/field.policyNames", laid_quarterday_field_policyNames), ("quarterday/field.patterns", laid_quarterday_field_patterns), ("quarterday/field.cycles", laid_quarterday_field_cycles)], narrowed := true }
def TwinDaysUptoSaid : Prop := twinDaysUptoRow.holds Tryz.pinned (OpenSpec.upto twinDaysSpec)

/-- 'quarterdaylaw21.RateSum', WHERE WHAT IT READS IS OF BULK AT MOST 1048576: true; the input reads as it did. -/
def rateSumUptoRow : OpenClaim := { program := "ytoeifpeiogeenaagreatdoor", sum := "3ceae8e23e702fac3da31ed60481e42b85c88aa4dcd35b6f0ce41d91335690ba", func := "quarterday/quarterdaylaw21.RateSum", spec := "rateSum", unfollowed := true, recurses := true, named := ["quarterday/field.dayNames", "quarterday/field.monthNames", "quarterday/field.patterns", "quarterday/field.cycles", "quarterday/field.policyNames", "quarterday/civil.beforeMonth"], apart := false, laid := [("quarterday/civil.beforeMonth", laid_quarterday_civil_beforeMonth), ("quarterday/field.dayNames", laid_quarterday_field_dayNames), ("quarterday/field.monthNames", laid_quarterday_field_monthNames), ("quarterday/field.policyNames", laid_quarterday_field_policyNames), ("quarterday/field.patterns", laid_quarterday_field_patterns), ("quarterday/field.cycles", laid_quarterday_field_cycles)], narrowed := true }
def RateSumUptoSaid : Prop := rateSumUptoRow.holds Tryz.pinned (OpenSpec.upto rateSumSpec)

/-- 'quarterdaylaw21.RateTies', WHERE WHAT IT READS IS OF BULK AT MOST 1048576: true; the input reads as it did. -/
def rateTiesUptoRow : OpenClaim := { program := "ytoeifpeiogeenaagreatdoor", sum := "3ceae8e23e702fac3da31ed60481e42b85c88aa4dcd35b6f0ce41d91335690ba", func := "quarterday/quarterdaylaw21.RateTies", spec := "rateTies", unfollowed := true, recurses := true, named := ["quarterday/field.dayNames", "quarterday/field.monthNames", "quarterday/field.patterns", "quarterday/field.cycles", "quarterday/field.policyNames", "quarterday/civil.beforeMonth"], apart := false, laid := [("quarterday/civil.beforeMonth", laid_quarterday_civil_beforeMonth), ("quarterday/field.dayNames", laid_quarterday_field_dayNames), ("quarterday/field.monthNames", laid_quarterday_field_monthNames), ("quarterday/field.policyNames", laid_quarterday_field_policyNames), ("quarterday/field.patterns", laid_quarterday_field_patterns), ("quarterday/field.cycles", laid_quarterday_field_cycles)], narrowed := true }
def RateTiesUptoSaid : Prop := rateTiesUptoRow.holds Tryz.pinned (OpenSpec.upto rateTiesSpec)

/-- 'quarterdaylaw21.RateDays', WHERE WHAT IT READS IS OF BULK AT MOST 1048576: true; the input reads as it did. -/
def rateDaysUptoRow : OpenClaim := { program := "ytoeifpeiogeenaagreatdoor", sum := "3ceae8e23e702fac3da31ed60481e42b85c88aa4dcd35b6f0ce41d91335690ba", func := "quarterday/quarterdaylaw21.RateDays", spec := "rateDays", unfollowed := true, recurses := true, named := ["quarterday/field.dayNames", "quarterday/field.monthNames", "quarterday/field.patterns", "quarterday/field.cycles", "quarterday/field.policyNames", "quarterday/civil.beforeMonth"], apart := false, laid := [("quarterday/civil.beforeMonth", laid_quarterday_civil_beforeMonth), ("quarterday/field.dayNames", laid_quarterday_field_dayNames), ("quarterday/field.monthNames", laid_quarterday_field_monthNames), ("quarterday/field.policyNames", laid_quarterday_field_policyNames), ("quarterday/field.patterns", laid_quarterday_field_patterns), ("quarterday/field.cycles", laid_quarterday_field_cycles)], narrowed := true }
def RateDaysUptoSaid : Prop := rateDaysUptoRow.holds Tryz.pinned (OpenSpec.upto rateDaysSpec)

/-- 'quarterdaylaw21.RateOne', WHERE WHAT IT READS IS OF BULK AT MOST 1048576: true; the input reads as it did. -/
def rateOneUptoRow : OpenClaim := { program := "ytoeifpeiogeenaagreatdoor", sum := "3ceae8e23e702fac3da31ed60481e42b85c88aa4dcd35b6f0ce41d91335690ba", func := "quarterday/quarterdaylaw21.RateOne", spec := "rateOne", unfollowed := true, recurses := true, named := ["quarterday/field.dayNames", "quarterday/field.monthNames", "quarterday/field.patterns", "quarterday/field.cycles", "quarterday/field.policyNames", "quarterday/civil.beforeMonth"], apart := false, laid := [("quarterday/civil.beforeMonth", laid_quarterday_civil_beforeMonth), ("quarterday/field.dayNames", laid_quarterday_field_dayNames), ("quarterday/field.monthNames", laid_quarterday_field_monthNames), ("quarterday/field.policyNames", laid_quarterday_field_policyNames), ("quarterday/field.patterns", laid_quarterday_field_patterns), ("quarterday/field.cycles", laid_quarterday_field_cycles)], narrowed := true }
def RateOneUptoSaid : Prop := rateOneUptoRow.holds Tryz.pinned (OpenSpec.upto rateOneSpec)

/-- 'quarterdaylaw21.RateLevels', WHERE WHAT IT READS IS OF BULK AT MOST 1048576: true; the input reads as it did. -/
def rateLevelsUptoRow : OpenClaim := { program := "ytoeifpeiogeenaagreatdoor", sum := "3ceae8e23e702fac3da31ed60481e42b85c88aa4dcd35b6f0ce41d91335690ba", func := "quarterday/quarterdaylaw21.RateLevels", spec := "rateLevels", unfollowed := true, recurses := true, named := ["quarterday/field.dayNames", "quarterday/field.monthNames", "quarterday/field.patterns", "quarterday/field.cycles", "quarterday/field.policyNames", "quarterday/civil.beforeMonth"], apart := false, laid := [("quarterday/civil.beforeMonth", laid_quarterday_civil_beforeMonth), ("quarterday/field.dayNames", laid_quarterday_field_dayNames), ("quarterday/field.monthNames", laid_quarterday_field_monthNames), ("quarterday/field.policyNames", laid_quarterday_field_policyNames), ("quarterday/field.patterns", laid_quarterday_field_patterns), ("quarterday/field.cycles", laid_quarterday_field_cycles)], narrowed := true }
def RateLevelsUptoSaid : Prop := rateLevelsUptoRow.holds Tryz.pinned (OpenSpec.upto rateLevelsSpec)

/-- 'quarterdaylaw21.RateExact', WHERE WHAT IT READS IS OF BULK AT MOST 1048576: true; the input reads as it did. -/
def rateExactUptoRow : OpenClaim := { program := "ytoeifpeiogeenaagreatdoor", sum := "3ceae8e23e702fac3da31ed60481e42b85c88aa4dcd35b6f0ce41d91335690ba", func := "quarterday/quarterdaylaw21.RateExact", spec := "rateExact", unfollowed := true, recurses := true, named := ["quarterday/field.dayNames", "quarterday/field.monthNames", "quarterday/field.patterns", "quarterday/field.cycles", "quarterday/field.policyNames", "quarterday/civil.beforeMonth"], apart := false, laid := [("quarterday/civil.beforeMonth", laid_quarterday_civil_beforeMonth), ("quarterday/field.dayNames", laid_quarterday_field_dayNames), ("quarterday/field.monthNames", laid_quarterday_field_monthNames), ("quarterday/field.policyNames", laid_quarterday_field_policyNames), ("quarterday/field.patterns", laid_quarterday_field_patterns), ("quarterday/field.cycles", laid_quarterday_field_cycles)], narrowed := true }
def RateExactUptoSaid : Prop := rateExactUptoRow.holds Tryz.pinned (OpenSpec.upto rateExactSpec)

end Rows
end Go.Proofs.YtoeifpeiogeenaaGreatDoor
