/-
  NARROWER THAN 'FOR EVERY INPUT', by the rows' own cells (each row's printed sentence says how): FindBack: laid · FindNext: laid · FindLevels: laid · FindAll: laid · FindMeets: laid · CompSame: laid · CompMonths: laid · CompKeeps: laid · CompRises: laid · CompBack: laid · CompEnds: laid.
  DERIVED. THE GIVEN ROWS OF THIS SEAT. 11 by the template 'for every input the law returns true; each argument reads behind the call as it read before'; 0 by the template 'total and deterministic' (their statements: YtmagdlcikcgelaaDoorTotals.lean).
  GIVEN WITH THE SEED: the statements are not yours to turn. If you find one false, say at which input.
  Laid BY PROGRAM, IN A SANDBOX (cutbox-rows.mjs): the forced cells as the released guide's own fill.sh prints them over the translation 4f0b377ca26dfc9b… (all of the seat's roots in one cut). By AI agents, Wed Nov 11 2026. No macro, syntax, notation, axiom, sorry.
-/
import Derived.Test.YtmagdlcikcgelaaDoorChecked
import GoSem.Claim
import GoSem.ClaimJoined
import GoSem.ClaimMapViews
import Derived.JoinedTies
import Derived.KernelRfl
namespace Go.Proofs.YtmagdlcikcgelaaDoor
/- THE CELL 'sum', in the pinned program and in every row, IS THE sha256 OF THE DUMP (.gsa) THAT YtmagdlcikcgelaaDoorProg.lean LOADS. Nothing in Lean hashes anything: it is a label: what it is worth is what the hold of that sum in a sandbox is worth. -/
noncomputable def Tryd.pinned : Pinned := { name := "ytmagdlcikcgelaadoor", sum := "4f0b377ca26dfc9b1443b842107f8e98ed43c818731aacb3cb5b092570bd5637", checked := Tryd.checked }
namespace Rows
def none {H : Type} : Left H := { results := [], args := [] }

/- WHAT THE LISTED PACKAGE-LEVEL VARIABLES READ AS WHEN THE CALL BEGINS. Each datum BY PROGRAM (the guide's laid-datum.mjs) off the statement by which the dump's own 'gosem.cut.vars' lays the variable. In a bare row this is a premise. The card (YtmagdlcikcgelaaDoorCards.lean) ties it to the program's text. -/
def laid_quarterday_civil_beforeMonth {H : Type} : DataW H := .agg [.lit (.int .i64 0), .lit (.int .i64 31), .lit (.int .i64 59), .lit (.int .i64 90), .lit (.int .i64 120), .lit (.int .i64 151), .lit (.int .i64 181), .lit (.int .i64 212), .lit (.int .i64 243), .lit (.int .i64 273), .lit (.int .i64 304), .lit (.int .i64 334), .lit (.int .i64 365)]
def laid_quarterday_field_dayNames {H : Type} : DataW H := .slice [.lit (.string [109, 111, 110]), .lit (.string [116, 117, 101]), .lit (.string [119, 101, 100]), .lit (.string [116, 104, 117]), .lit (.string [102, 114, 105]), .lit (.string [115, 97, 116]), .lit (.string [115, 117, 110])] []
def laid_quarterday_field_monthNames {H : Type} : DataW H := .slice [.lit (.string [106, 97, 110]), .lit (.string [102, 101, 98]), .lit (.string [109, 97, 114]), .lit (.string [97, 112, 114]), .lit (.string [109, 97, 121]), .lit (.string [106, 117, 110]), .lit (.string [106, 117, 108]), .lit (.string [97, 117, 103]), .lit (.string [115, 101, 112]), .lit (.string [111, 99, 116]), .lit (.string [110, 111, 118]), .lit (.string [100, 101, 99])] []
def laid_quarterday_field_policyNames {H : Type} : DataW H := .slice [.lit (.string [115, 116, 97, 114, 116]), .lit (.string [115, 104, 105, 102, 116]), .lit (.string [100, 114, 111, 112]), .lit (.string [99, 108, 97, 109, 112])] []
def laid_quarterday_field_patterns {H : Type} : DataW H := .slice [.agg [.lit (.int .i64 5), .lit (.int .i64 4), .lit (.int .i64 4)], .agg [.lit (.int .i64 4), .lit (.int .i64 5), .lit (.int .i64 4)], .agg [.lit (.int .i64 4), .lit (.int .i64 4), .lit (.int .i64 5)]] []
def laid_quarterday_field_cycles {H : Type} : DataW H := .slice [.lit (.int .i64 1), .lit (.int .i64 2), .lit (.int .i64 4)] []

/-- 'quarterdaylaw17.FindBack': WHATEVER THE INPUT: true; the input reads as it did. -/
def findBackSpec : ChangeSpec := { name := "findBack", fn := fun _ => fun
  | [d1, d2, d3, d4, d5] => { results := [.lit (.bool true)], args := [d1, d2, d3, d4, d5] }
  | _ => none }
def findBackRow : OpenClaim := { program := "ytmagdlcikcgelaadoor", sum := "4f0b377ca26dfc9b1443b842107f8e98ed43c818731aacb3cb5b092570bd5637", func := "quarterday/quarterdaylaw17.FindBack", spec := "findBack", unfollowed := true, recurses := true, named := ["quarterday/civil.beforeMonth", "quarterday/field.dayNames", "quarterday/field.monthNames", "quarterday/field.patterns", "quarterday/field.cycles", "quarterday/field.policyNames"], apart := false, laid := [("quarterday/civil.beforeMonth", laid_quarterday_civil_beforeMonth), ("quarterday/field.dayNames", laid_quarterday_field_dayNames), ("quarterday/field.monthNames", laid_quarterday_field_monthNames), ("quarterday/field.policyNames", laid_quarterday_field_policyNames), ("quarterday/field.patterns", laid_quarterday_field_patterns), ("quarterday/field.cycles", laid_quarterday_field_cycles)] }
def FindBackSaid : Prop := findBackRow.holds Tryd.pinned (OpenSpec.ofChange findBackSpec)

/-- ITS FALSE NEIGHBOUR: 'it returns false'. Refute it at one input. -/
def findBackWrong : ChangeSpec := { name := "findBack", fn := fun _ => fun
  | [d1, d2, d3, d4, d5] => { results := [.lit (.bool false)], args := [d1, d2, d3, d4, d5] }
  | _ => none }
def FindBackWrongFalsely : Prop := findBackRow.holds Tryd.pinned (OpenSpec.ofChange findBackWrong)

/-- 'quarterdaylaw17.FindNext': WHATEVER THE INPUT: true; the input reads as it did. -/
def findNextSpec : ChangeSpec := { name := "findNext", fn := fun _ => fun
  | [d1, d2] => { results := [.lit (.bool true)], args := [d1, d2] }
  | _ => none }
def findNextRow : OpenClaim := { program := "ytmagdlcikcgelaadoor", sum := "4f0b377ca26dfc9b1443b842107f8e98ed43c818731aacb3cb5b092570bd5637", func := "quarterday/quarterdaylaw17.FindNext", spec := "findNext", unfollowed := true, recurses := true, named := ["quarterday/civil.beforeMonth", "quarterday/field.dayNames", "quarterday/field.monthNames", "quarterday/field.patterns", "quarterday/field.cycles", "quarterday/field.policyNames"], apart := false, laid := [("quarterday/civil.beforeMonth", laid_quarterday_civil_beforeMonth), ("quarterday/field.dayNames", laid_quarterday_field_dayNames), ("quarterday/field.monthNames", laid_quarterday_field_monthNames), ("quarterday/field.policyNames", laid_quarterday_field_policyNames), ("quarterday/field.patterns", laid_quarterday_field_patterns), ("quarterday/field.cycles", laid_quarterday_field_cycles)] }
def FindNextSaid : Prop := findNextRow.holds Tryd.pinned (OpenSpec.ofChange findNextSpec)

/-- ITS FALSE NEIGHBOUR: 'it returns false'. Refute it at one input. -/
def findNextWrong : ChangeSpec := { name := "findNext", fn := fun _ => fun
  | [d1, d2] => { results := [.lit (.bool false)], args := [d1, d2] }
  | _ => none }
def FindNextWrongFalsely : Prop := findNextRow.holds Tryd.pinned (OpenSpec.ofChange findNextWrong)

/-- 'quarterdaylaw17.FindLevels': WHATEVER THE INPUT: true; the input reads as it did. -/
def findLevelsSpec : ChangeSpec := { name := "findLevels", fn := fun _ => fun
  | [d1, d2, d3, d4] => { results := [.lit (.bool true)], args := [d1, d2, d3, d4] }
  | _ => none }
def findLevelsRow : OpenClaim := { program := "ytmagdlcikcgelaadoor", sum := "4f0b377ca26dfc9b1443b842107f8e98ed43c818731aacb3cb5b092570bd5637", func := "quarterday/quarterdaylaw17.FindLevels", spec := "findLevels", unfollowed := true, recurses := true, named := ["quarterday/civil.beforeMonth", "quarterday/field.dayNames", "quarterday/field.monthNames", "quarterday/field.patterns", "quarterday/field.cycles", "quarterday/field.policyNames"], apart := false, laid := [("quarterday/civil.beforeMonth", laid_quarterday_civil_beforeMonth), ("quarterday/field.dayNames", laid_quarterday_field_dayNames), ("quarterday/field.monthNames", laid_quarterday_field_monthNames), ("quarterday/field.policyNames", laid_quarterday_field_policyNames), ("quarterday/field.patterns", laid_quarterday_field_patterns), ("quarterday/field.cycles", laid_quarterday_field_cycles)] }
def FindLevelsSaid : Prop := findLevelsRow.holds Tryd.pinned (OpenSpec.ofChange findLevelsSpec)

/-- ITS FALSE NEIGHBOUR: 'it returns false'. Refute it at one input. -/
def findLevelsWrong : ChangeSpec := { name := "findLevels", fn := fun _ => fun
  | [d1, d2, d3, d4] => { results := [.lit (.bool false)], args := [d1, d2, d3, d4] }
  | _ => none }
def FindLevelsWrongFalsely : Prop := findLevelsRow.holds Tryd.pinned (OpenSpec.ofChange findLevelsWrong)

/-- 'quarterdaylaw17.FindAll': WHATEVER THE INPUT: true; the input reads as it did. -/
def findAllSpec : ChangeSpec := { name := "findAll", fn := fun _ => fun
  | [d1, d2, d3, d4] => { results := [.lit (.bool true)], args := [d1, d2, d3, d4] }
  | _ => none }
def findAllRow : OpenClaim := { program := "ytmagdlcikcgelaadoor", sum := "4f0b377ca26dfc9b1443b842107f8e98ed43c818731aacb3cb5b092570bd5637", func := "quarterday/quarterdaylaw17.FindAll", spec := "findAll", unfollowed := true, recurses := true, named := ["quarterday/civil.beforeMonth", "quarterday/field.dayNames", "quarterday/field.monthNames", "quarterday/field.patterns", "quarterday/field.cycles", "quarterday/field.policyNames"], apart := false, laid := [("quarterday/civil.beforeMonth", laid_quarterday_civil_beforeMonth), ("quarterday/field.dayNames", laid_quarterday_field_dayNames), ("quarterday/field.monthNames", laid_quarterday_field_monthNames), ("quarterday/field.policyNames", laid_quarterday_field_policyNames), ("quarterday/field.patterns", laid_quarterday_field_patterns), ("quarterday/field.cycles", laid_quarterday_field_cycles)] }
def FindAllSaid : Prop := findAllRow.holds Tryd.pinned (OpenSpec.ofChange findAllSpec)

/-- ITS FALSE NEIGHBOUR: 'it returns false'. Refute it at one input. -/
def findAllWrong : ChangeSpec := { name := "findAll", fn := fun _ => fun
  | [d1, d2, d3, d4] => { results := [.lit (.bool false)], args := [d1, d2, d3, d4] }
  | _ => none }
def FindAllWrongFalsely : Prop := findAllRow.holds Tryd.pinned (OpenSpec.ofChange findAllWrong)

/-- 'quarterdaylaw17.FindMeets': WHATEVER THE INPUT: true; the input reads as it did. -/
def findMeetsSpec : ChangeSpec := { name := "findMeets", fn := fun _ => fun
  | [d1, d2, d3] => { results := [.lit (.bool true)], args := [d1, d2, d3] }
  | _ => none }
def findMeetsRow : OpenClaim := { program := "ytmagdlcikcgelaadoor", sum := "4f0b377ca26dfc9b1443b842107f8e98ed43c818731aacb3cb5b092570bd5637", func := "quarterday/quarterdaylaw17.FindMeets", spec := "findMeets", unfollowed := true, recurses := true, named := ["quarterday/civil.beforeMonth", "quarterday/field.dayNames", "quarterday/field.monthNames", "quarterday/field.patterns", "quarterday/field.cycles", "quarterday/field.policyNames"], apart := false, laid := [("quarterday/civil.beforeMonth", laid_quarterday_civil_beforeMonth), ("quarterday/field.dayNames", laid_quarterday_field_dayNames), ("quarterday/field.monthNames", laid_quarterday_field_monthNames), ("quarterday/field.policyNames", laid_quarterday_field_policyNames), ("quarterday/field.patterns", laid_quarterday_field_patterns), ("quarterday/field.cycles", laid_quarterday_field_cycles)] }
def FindMeetsSaid : Prop := findMeetsRow.holds Tryd.pinned (OpenSpec.ofChange findMeetsSpec)

/-- ITS FALSE NEIGHBOUR: 'it returns false'. Refute it at one input. -/
def findMeetsWrong : ChangeSpec := { name := "findMeets", fn := fun _ => fun
  | [d1, d2, d3] => { results := [.lit (.bool false)], args := [d1, d2, d3] }
  | _ => none }
def FindMeetsWrongFalsely : Prop := findMeetsRow.holds Tryd.pinned (OpenSpec.ofChange findMeetsWrong)

/-- 'quarterdaylaw19.CompSame': WHATEVER THE INPUT: true; the input reads as it did. -/
def compSameSpec : ChangeSpec := { name := "compSame", fn := fun _ => fun
  | [d1, d2] => { results := [.lit (.bool true)], args := [d1, d2] }
  | _ => none }
def compSameRow : OpenClaim := { program := "ytmagdlcikcgelaadoor", sum := "4f0b377ca26dfc9b1443b842107f8e98ed43c818731aacb3cb5b092570bd5637", func := "quarterday/quarterdaylaw19.CompSame", spec := "compSame", unfollowed := true, recurses := true, named := ["quarterday/field.dayNames", "quarterday/field.monthNames", "quarterday/field.patterns", "quarterday/field.cycles", "quarterday/field.policyNames", "quarterday/civil.beforeMonth"], apart := false, laid := [("quarterday/civil.beforeMonth", laid_quarterday_civil_beforeMonth), ("quarterday/field.dayNames", laid_quarterday_field_dayNames), ("quarterday/field.monthNames", laid_quarterday_field_monthNames), ("quarterday/field.policyNames", laid_quarterday_field_policyNames), ("quarterday/field.patterns", laid_quarterday_field_patterns), ("quarterday/field.cycles", laid_quarterday_field_cycles)] }
def CompSameSaid : Prop := compSameRow.holds Tryd.pinned (OpenSpec.ofChange compSameSpec)

/-- ITS FALSE NEIGHBOUR: 'it returns false'. Refute it at one input. -/
def compSameWrong : ChangeSpec := { name := "compSame", fn := fun _ => fun
  | [d1, d2] => { results := [.lit (.bool false)], args := [d1, d2] }
  | _ => none }
def CompSameWrongFalsely : Prop := compSameRow.holds Tryd.pinned (OpenSpec.ofChange compSameWrong)

/-- 'quarterdaylaw19.CompMonths': WHATEVER THE INPUT: true; the input reads as it did. -/
def compMonthsSpec : ChangeSpec := { name := "compMonths", fn := fun _ => fun
  | [d1, d2, d3] => { results := [.lit (.bool true)], args := [d1, d2, d3] }
  | _ => none }
def compMonthsRow : OpenClaim := { program := "ytmagdlcikcgelaadoor", sum := "4f0b377ca26dfc9b1443b842107f8e98ed43c818731aacb3cb5b092570bd5637", func := "quarterday/quarterdaylaw19.CompMonths", spec := "compMonths", unfollowed := true, recurses := true, named := ["quarterday/field.dayNames", "quarterday/field.monthNames", "quarterday/field.patterns", "quarterday/field.cycles", "quarterday/field.policyNames", "quarterday/civil.beforeMonth"], apart := false, laid := [("quarterday/civil.beforeMonth", laid_quarterday_civil_beforeMonth), ("quarterday/field.dayNames", laid_quarterday_field_dayNames), ("quarterday/field.monthNames", laid_quarterday_field_monthNames), ("quarterday/field.policyNames", laid_quarterday_field_policyNames), ("quarterday/field.patterns", laid_quarterday_field_patterns), ("quarterday/field.cycles", laid_quarterday_field_cycles)] }
def CompMonthsSaid : Prop := compMonthsRow.holds Tryd.pinned (OpenSpec.ofChange compMonthsSpec)

/-- ITS FALSE NEIGHBOUR: 'it returns false'. Refute it at one input. -/
def compMonthsWrong : ChangeSpec := { name := "compMonths", fn := fun _ => fun
  | [d1, d2, d3] => { results := [.lit (.bool false)], args := [d1, d2, d3] }
  | _ => none }
def CompMonthsWrongFalsely : Prop := compMonthsRow.holds Tryd.pinned (OpenSpec.ofChange compMonthsWrong)

/-- 'quarterdaylaw19.CompKeeps': WHATEVER THE INPUT: true; the input reads as it did. -/
def compKeepsSpec : ChangeSpec := { name := "compKeeps", fn := fun _ => fun
  | [d1, d2, d3] => { results := [.lit (.bool true)], args := [d1, d2, d3] }
  | _ => none }
def compKeepsRow : OpenClaim := { program := "ytmagdlcikcgelaadoor", sum := "4f0b377ca26dfc9b1443b842107f8e98ed43c818731aacb3cb5b092570bd5637", func := "quarterday/quarterdaylaw19.CompKeeps", spec := "compKeeps", unfollowed := true, recurses := true, named := ["quarterday/field.dayNames", "quarterday/field.monthNames", "quarterday/field.patterns", "quarterday/field.cycles", "quarterday/field.policyNames", "quarterday/civil.beforeMonth"], apart := false, laid := [("quarterday/civil.beforeMonth", laid_quarterday_civil_beforeMonth), ("quarterday/field.dayNames", laid_quarterday_field_dayNames), ("quarterday/field.monthNames", laid_quarterday_field_monthNames), ("quarterday/field.policyNames", laid_quarterday_field_policyNames), ("quarterday/field.patterns", laid_quarterday_field_patterns), ("quarterday/field.cycles", laid_quarterday_field_cycles)] }
def CompKeepsSaid : Prop := compKeepsRow.holds Tryd.pinned (OpenSpec.ofChange compKeepsSpec)

/-- ITS FALSE NEIGHBOUR: 'it returns false'. Refute it at one input. -/
def compKeepsWrong : ChangeSpec := { name := "compKeeps", fn := fun _ => fun
  | [d1, d2, d3] => { results := [.lit (.bool false)], args := [d1, d2, d3] }
  | _ => none }
def CompKeepsWrongFalsely : Prop := compKeepsRow.holds Tryd.pinned (OpenSpec.ofChange compKeepsWrong)

/-- 'quarterdaylaw19.CompRises': WHATEVER THE INPUT: true; the input reads as it did. -/
def compRisesSpec : ChangeSpec := { name := "compRises", fn := fun _ => fun
  | [d1, d2, d3, d4] => { results := [.lit (.bool true)], args := [d1, d2, d3, d4] }
  | _ => none }
def compRisesRow : OpenClaim := { program := "ytmagdlcikcgelaadoor", sum := "4f0b377ca26dfc9b1443b842107f8e98ed43c818731aacb3cb5b092570bd5637", func := "quarterday/quarterdaylaw19.CompRises", spec := "compRises", unfollowed := true, recurses := true, named := ["quarterday/field.dayNames", "quarterday/field.monthNames", "quarterday/field.patterns", "quarterday/field.cycles", "quarterday/field.policyNames", "quarterday/civil.beforeMonth"], apart := false, laid := [("quarterday/civil.beforeMonth", laid_quarterday_civil_beforeMonth), ("quarterday/field.dayNames", laid_quarterday_field_dayNames), ("quarterday/field.monthNames", laid_quarterday_field_monthNames), ("quarterday/field.policyNames", laid_quarterday_field_policyNames), ("quarterday/field.patterns", laid_quarterday_field_patterns), ("quarterday/field.cycles", laid_quarterday_field_cycles)] }
def CompRisesSaid : Prop := compRisesRow.holds Tryd.pinned (OpenSpec.ofChange compRisesSpec)

/-- ITS FALSE NEIGHBOUR: 'it returns false'. Refute it at one input. -/
def compRisesWrong : ChangeSpec := { name := "compRises", fn := fun _ => fun
  | [d1, d2, d3, d4] => { results := [.lit (.bool false)], args := [d1, d2, d3, d4] }
  | _ => none }
def CompRisesWrongFalsely : Prop := compRisesRow.holds Tryd.pinned (OpenSpec.ofChange compRisesWrong)

/-- 'quarterdaylaw19.CompBack': WHATEVER THE INPUT: true; the input reads as it did. -/
def compBackSpec : ChangeSpec := { name := "compBack", fn := fun _ => fun
  | [d1, d2, d3] => { results := [.lit (.bool true)], args := [d1, d2, d3] }
  | _ => none }
def compBackRow : OpenClaim := { program := "ytmagdlcikcgelaadoor", sum := "4f0b377ca26dfc9b1443b842107f8e98ed43c818731aacb3cb5b092570bd5637", func := "quarterday/quarterdaylaw19.CompBack", spec := "compBack", unfollowed := true, recurses := true, named := ["quarterday/field.dayNames", "quarterday/field.monthNames", "quarterday/field.patterns", "quarterday/field.cycles", "quarterday/field.policyNames", "quarterday/civil.beforeMonth"], apart := false, laid := [("quarterday/civil.beforeMonth", laid_quarterday_civil_beforeMonth), ("quarterday/field.dayNames", laid_quarterday_field_dayNames), ("quarterday/field.monthNames", laid_quarterday_field_monthNames), ("quarterday/field.policyNames", laid_quarterday_field_policyNames), ("quarterday/field.patterns", laid_quarterday_field_patterns), ("quarterday/field.cycles", laid_quarterday_field_cycles)] }
def CompBackSaid : Prop := compBackRow.holds Tryd.pinned (OpenSpec.ofChange compBackSpec)

/-- ITS FALSE NEIGHBOUR: 'it returns false'. Refute it at one input. -/
def compBackWrong : ChangeSpec := { name := "compBack", fn := fun _ => fun
  | [d1, d2, d3] => { results := [.lit (.bool false)], args := [d1, d2, d3] }
  | _ => none }
def CompBackWrongFalsely : Prop := compBackRow.holds Tryd.pinned (OpenSpec.ofChange compBackWrong)

/-- 'quarterdaylaw19.CompEnds': WHATEVER THE INPUT: true; the input reads as it did. -/
def compEndsSpec : ChangeSpec := { name := "compEnds", fn := fun _ => fun
  | [d1, d2, d3, d4] => { results := [.lit (.bool true)], args := [d1, d2, d3, d4] }
  | _ => none }
def compEndsRow : OpenClaim := { program := "ytmagdlcikcgelaadoor", sum := "4f0b377ca26dfc9b1443b842107f8e98ed43c818731aacb3cb5b092570bd5637", func := "quarterday/quarterdaylaw19.CompEnds", spec := "compEnds", unfollowed := true, recurses := true, named := ["quarterday/field.dayNames", "quarterday/field.monthNames", "quarterday/field.patterns", "quarterday/field.cycles", "quarterday/field.policyNames", "quarterday/civil.beforeMonth"], apart := false, laid := [("quarterday/civil.beforeMonth", laid_quarterday_civil_beforeMonth), ("quarterday/field.dayNames", laid_quarterday_field_dayNames), ("quarterday/field.monthNames", laid_quarterday_field_monthNames), ("quarterday/field.policyNames", laid_quarterday_field_policyNames), ("quarterday/field.patterns", laid_quarterday_field_patterns), ("quarterday/field.cycles", laid_quarterday_field_cycles)] }
def CompEndsSaid : Prop := compEndsRow.holds Tryd.pinned (OpenSpec.ofChange compEndsSpec)

/-- ITS FALSE NEIGHBOUR: 'it returns false'. Refute it at one input. -/
def compEndsWrong : ChangeSpec := { name := "compEnds", fn := fun _ => fun
  | [d1, d2, d3, d4] => { results := [.lit (.bool false)], args := [d1, d2, d3, d4] }
  | _ => none }
def CompEndsWrongFalsely : Prop := compEndsRow.holds Tryd.pinned (OpenSpec.ofChange compEndsWrong)

/- THE SECOND FORM. 'bulk': how many values and letters a reading holds, each counted each time it is reached (what is shared counts as often as it is met; a slice's spare places count too). A statement '..UptoSaid' is the law's where the arguments, and the package variables that the reading takes, are together of bulk at most 1048576: NARROWER than '..Said'. Prove '..Said' where nothing that the law and all that it calls make is longer than what came in: it says more and counts as full. Else prove '..UptoSaid'. A law counts once. -/
mutual
def uptoBulk {H : Type} : DataW H → Nat
  | .lit (.string bytes) => bytes.length + 1
  | .lit _ => 1
  | .nil => 1
  | .ptr d => uptoBulk d + 1
  | .slice elems spare => uptoBulkAll elems + uptoBulkAll spare + 1
  | .agg parts => uptoBulkAll parts + 1
  | .iface _ d => uptoBulk d + 1
  | .map entries => uptoBulkEntries entries + 1
  | .held _ => 1
def uptoBulkAll {H : Type} : List (DataW H) → Nat
  | [] => 0
  | d :: r => uptoBulk d + uptoBulkAll r
def uptoBulkEntries {H : Type} : List (Lit × DataW H) → Nat
  | [] => 0
  | x :: r => uptoBulkEntry x + uptoBulkEntries r
def uptoBulkEntry {H : Type} : Lit × DataW H → Nat
  | (.string bytes, d) => bytes.length + uptoBulk d + 1
  | (_, d) => uptoBulk d + 1
 end
def uptoSmall : (H : Type) → List (DataW H) → Bool := fun _ ds => decide (uptoBulkAll ds ≤ 1048576)
def OpenSpec.upto (s : _root_.Go.ChangeSpec) : _root_.Go.OpenSpec := { _root_.Go.OpenSpec.ofChange s with cond := some uptoSmall }

/-- 'quarterdaylaw17.FindBack', WHERE WHAT IT READS IS OF BULK AT MOST 1048576: true; the input reads as it did. -/
def findBackUptoRow : OpenClaim := { program := "ytmagdlcikcgelaadoor", sum := "4f0b377ca26dfc9b1443b842107f8e98ed43c818731aacb3cb5b092570bd5637", func := "quarterday/quarterdaylaw17.FindBack", spec := "findBack", unfollowed := true, recurses := true, named := ["quarterday/civil.beforeMonth", "quarterday/field.dayNames", "quarterday/field.monthNames", "quarterday/field.patterns", "quarterday/field.cycles", "quarterday/field.policyNames"], apart := false, laid := [("quarterday/civil.beforeMonth", laid_quarterday_civil_beforeMonth), ("quarterday/field.dayNames", laid_quarterday_field_dayNames), ("quarterday/field.monthNames", laid_quarterday_field_monthNames), ("quarterday/field.policyNames", laid_quarterday_field_policyNames), ("quarterday/field.patterns", laid_quarterday_field_patterns), ("quarterday/field.cycles", laid_quarterday_field_cycles)], narrowed := true }
def FindBackUptoSaid : Prop := findBackUptoRow.holds Tryd.pinned (OpenSpec.upto findBackSpec)

/-- 'quarterdaylaw17.FindNext', WHERE WHAT IT READS IS OF BULK AT MOST 1048576: true; the input reads as it did. -/
def findNextUptoRow : OpenClaim := { program := "ytmagdlcikcgelaadoor", sum := "4f0b377ca26dfc9b1443b842107f8e98ed43c818731aacb3cb5b092570bd5637", func := "quarterday/quarterdaylaw17.FindNext", spec := "findNext", unfollowed := true, recurses := true, named := ["quarterday/civil.beforeMonth", "quarterday/field.dayNames", "quarterday/field.monthNames", "quarterday/field.patterns", "quarterday/field.cycles", "quarterday/field.policyNames"], apart := false, laid := [("quarterday/civil.beforeMonth", laid_quarterday_civil_beforeMonth), ("quarterday/field.dayNames", laid_quarterday_field_dayNames), ("quarterday/field.monthNames", laid_quarterday_field_monthNames), ("quarterday/field.policyNames", laid_quarterday_field_policyNames), ("quarterday/field.patterns", laid_quarterday_field_patterns), ("quarterday/field.cycles", laid_quarterday_field_cycles)], narrowed := true }
def FindNextUptoSaid : Prop := findNextUptoRow.holds Tryd.pinned (OpenSpec.upto findNextSpec)

/-- 'quarterdaylaw17.FindLevels', WHERE WHAT IT READS IS OF BULK AT MOST 1048576: true; the input reads as it did. -/
def findLevelsUptoRow : OpenClaim := { program := "ytmagdlcikcgelaadoor", sum := "4f0b377ca26dfc9b1443b842107f8e98ed43c818731aacb3cb5b092570bd5637", func := "quarterday/quarterdaylaw17.FindLevels", spec := "findLevels", unfollowed := true, recurses := true, named := ["quarterday/civil.beforeMonth", "quarterday/field.dayNames", "quarterday/field.monthNames", "quarterday/field.patterns", "quarterday/field.cycles", "quarterday/field.policyNames"], apart := false, laid := [("quarterday/civil.beforeMonth", laid_quarterday_civil_beforeMonth), ("quarterday/field.dayNames", laid_quarterday_field_dayNames), ("quarterday/field.monthNames", laid_quarterday_field_monthNames), ("quarterday/field.policyNames", laid_quarterday_field_policyNames), ("quarterday/field.patterns", laid_quarterday_field_patterns), ("quarterday/field.cycles", laid_quarterday_field_cycles)], narrowed := true }
def FindLevelsUptoSaid : Prop := findLevelsUptoRow.holds Tryd.pinned (OpenSpec.upto findLevelsSpec)

/-- 'quarterdaylaw17.FindAll', WHERE WHAT IT READS IS OF BULK AT MOST 1048576: true; the input reads as it did. -/
def findAllUptoRow : OpenClaim := { program := "ytmagdlcikcgelaadoor", sum := "4f0b377ca26dfc9b1443b842107f8e98ed43c818731aacb3cb5b092570bd5637", func := "quarterday/quarterdaylaw17.FindAll", spec := "findAll", unfollowed := true, recurses := true, named := ["quarterday/civil.beforeMonth", "quarterday/field.dayNames", "quarterday/field.monthNames", "quarterday/field.patterns", "quarterday/field.cycles", "quarterday/field.policyNames"], apart := false, laid := [("quarterday/civil.beforeMonth", laid_quarterday_civil_beforeMonth), ("quarterday/field.dayNames", laid_quarterday_field_dayNames), ("quarterday/field.monthNames", laid_quarterday_field_monthNames), ("quarterday/field.policyNames", laid_quarterday_field_policyNames), ("quarterday/field.patterns", laid_quarterday_field_patterns), ("quarterday/field.cycles", laid_quarterday_field_cycles)], narrowed := true }
def FindAllUptoSaid : Prop := findAllUptoRow.holds Tryd.pinned (OpenSpec.upto findAllSpec)

/-- 'quarterdaylaw17.FindMeets', WHERE WHAT IT READS IS OF BULK AT MOST 1048576: true; the input reads as it did. -/
def findMeetsUptoRow : OpenClaim := { program := "ytmagdlcikcgelaadoor", sum := "4f0b377ca26dfc9b1443b842107f8e98ed43c818731aacb3cb5b092570bd5637", func := "quarterday/quarterdaylaw17.FindMeets", spec := "findMeets", unfollowed := true, recurses := true, named := ["quarterday/civil.beforeMonth", "quarterday/field.dayNames", "quarterday/field.monthNames", "quarterday/field.patterns", "quarterday/field.cycles", "quarterday/field.policyNames"], apart := false, laid := [("quarterday/civil.beforeMonth", laid_quarterday_civil_beforeMonth), ("quarterday/field.dayNames", laid_quarterday_field_dayNames), ("quarterday/field.monthNames", laid_quarterday_field_monthNames), ("quarterday/field.policyNames", laid_quarterday_field_policyNames), ("quarterday/field.patterns", laid_quarterday_field_patterns), ("quarterday/field.cycles", laid_quarterday_field_cycles)], narrowed := true }
def FindMeetsUptoSaid : Prop := findMeetsUptoRow.holds Tryd.pinned (OpenSpec.upto findMeetsSpec)

/-- 'quarterdaylaw19.CompSame', WHERE WHAT IT READS IS OF BULK AT MOST 1048576: true; the input reads as it did. -/
def compSameUptoRow : OpenClaim := { program := "ytmagdlcikcgelaadoor", sum := "4f0b377ca26dfc9b1443b842107f8e98ed43c818731aacb3cb5b092570bd5637", func := "quarterday/quarterdaylaw19.CompSame", spec := "compSame", unfollowed := true, recurses := true, named := ["quarterday/field.dayNames", "quarterday/field.monthNames", "quarterday/field.patterns", "quarterday/field.cycles", "quarterday/field.policyNames", "quarterday/civil.beforeMonth"], apart := false, laid := [("quarterday/civil.beforeMonth", laid_quarterday_civil_beforeMonth), ("quarterday/field.dayNames", laid_quarterday_field_dayNames), ("quarterday/field.monthNames", laid_quarterday_field_monthNames), ("quarterday/field.policyNames", laid_quarterday_field_policyNames), ("quarterday/field.patterns", laid_quarterday_field_patterns), ("quarterday/field.cycles", laid_quarterday_field_cycles)], narrowed := true }
def CompSameUptoSaid : Prop := compSameUptoRow.holds Tryd.pinned (OpenSpec.upto compSameSpec)

/-- 'quarterdaylaw19.CompMonths', WHERE WHAT IT READS IS OF BULK AT MOST 1048576: true; the input reads as it did. -/
def compMonthsUptoRow : OpenClaim := { program := "ytmagdlcikcgelaadoor", sum := "4f0b377ca26dfc9b1443b842107f8e98ed43c818731aacb3cb5b092570bd5637", func := "quarterday/quarterdaylaw19.CompMonths", spec := "compMonths", unfollowed := true, recurses := true, named := ["quarterday/field.dayNames", "quarterday/field.monthNames", "quarterday/field.patterns", "quarterday/field.cycles", "quarterday/field.policyNames", "quarterday/civil.beforeMonth"], apart := false, laid := [("quarterday/civil.beforeMonth", laid_quarterday_civil_beforeMonth), ("quarterday/field.dayNames", laid_quarterday_field_dayNames), ("quarterday/field.monthNames", laid_quarterday_field_monthNames), ("quarterday/field.policyNames", laid_quarterday_field_policyNames), ("quarterday/field.patterns", laid_quarterday_field_patterns), ("quarterday/field.cycles", laid_quarterday_field_cycles)], narrowed := true }
def CompMonthsUptoSaid : Prop := compMonthsUptoRow.holds Tryd.pinned (OpenSpec.upto compMonthsSpec)

/-- 'quarterdaylaw19.CompKeeps', WHERE WHAT IT READS IS OF BULK AT MOST 1048576: true; the input reads as it did. -/
def compKeepsUptoRow : OpenClaim := { program := "ytmagdlcikcgelaadoor", sum := "4f0b377ca26dfc9b1443b842107f8e98ed43c818731aacb3cb5b092570bd5637", func := "quarterday/quarterdaylaw19.CompKeeps", spec := "compKeeps", unfollowed := true, recurses := true, named := ["quarterday/field.dayNames", "quarterday/field.monthNames", "quarterday/field.patterns", "quarterday/field.cycles", "quarterday/field.policyNames", "quarterday/civil.beforeMonth"], apart := false, laid := [("quarterday/civil.beforeMonth", laid_quarterday_civil_beforeMonth), ("quarterday/field.dayNames", laid_quarterday_field_dayNames), ("quarterday/field.monthNames", laid_quarterday_field_monthNames), ("quarterday/field.policyNames", laid_quarterday_field_policyNames), ("quarterday/field.patterns", laid_quarterday_field_patterns), ("quarterday/field.cycles", laid_quarterday_field_cycles)], narrowed := true }
def CompKeepsUptoSaid : Prop := compKeepsUptoRow.holds Tryd.pinned (OpenSpec.upto compKeepsSpec)

/-- 'quarterdaylaw19.CompRises', WHERE WHAT IT READS IS OF BULK AT MOST 1048576: true; the input reads as it did. -/
def compRisesUptoRow : OpenClaim := { program := "ytmagdlcikcgelaadoor", sum := "4f0b377ca26dfc9b1443b842107f8e98ed43c818731aacb3cb5b092570bd5637", func := "quarterday/quarterdaylaw19.CompRises", spec := "compRises", unfollowed := true, recurses := true, named := ["quarterday/field.dayNames", "quarterday/field.monthNames", "quarterday/field.patterns", "quarterday/field.cycles", "quarterday/field.policyNames", "quarterday/civil.beforeMonth"], apart := false, laid := [("quarterday/civil.beforeMonth", laid_quarterday_civil_beforeMonth), ("quarterday/field.dayNames", laid_quarterday_field_dayNames), ("quarterday/field.monthNames", laid_quarterday_field_monthNames), ("quarterday/field.policyNames", laid_quarterday_field_policyNames), ("quarterday/field.patterns", laid_quarterday_field_patterns), ("quarterday/field.cycles", laid_quarterday_field_cycles)], narrowed := true }
def CompRisesUptoSaid : Prop := compRisesUptoRow.holds Tryd.pinned (OpenSpec.upto compRisesSpec)

/-- 'quarterdaylaw19.CompBack', WHERE WHAT IT READS IS OF BULK AT MOST 1048576: true; the input reads as it did. -/
def compBackUptoRow : OpenClaim := { program := "ytmagdlcikcgelaadoor", sum := "4f0b377ca26dfc9b1443b842107f8e98ed43c818731aacb3cb5b092570bd5637", func := "quarterday/quarterdaylaw19.CompBack", spec := "compBack", unfollowed := true, recurses := true, named := ["quarterday/field.dayNames", "quarterday/field.monthNames", "quarterday/field.patterns", "quarterday/field.cycles", "quarterday/field.policyNames", "quarterday/civil.beforeMonth"], apart := false, laid := [("quarterday/civil.beforeMonth", laid_quarterday_civil_beforeMonth), ("quarterday/field.dayNames", laid_quarterday_field_dayNames), ("quarterday/field.monthNames", laid_quarterday_field_monthNames), ("quarterday/field.policyNames", laid_quarterday_field_policyNames), ("quarterday/field.patterns", laid_quarterday_field_patterns), ("quarterday/field.cycles", laid_quarterday_field_cycles)], narrowed := true }
def CompBackUptoSaid : Prop := compBackUptoRow.holds Tryd.pinned (OpenSpec.upto compBackSpec)

/-- 'quarterdaylaw19.CompEnds', WHERE WHAT IT READS IS OF BULK AT MOST 1048576: true; the input reads as it did. -/
def compEndsUptoRow : OpenClaim := { program := "ytmagdlcikcgelaadoor", sum := "4f0b377ca26dfc9b1443b842107f8e98ed43c818731aacb3cb5b092570bd5637", func := "quarterday/quarterdaylaw19.CompEnds", spec := "compEnds", unfollowed := true, recurses := true, named := ["quarterday/field.dayNames", "quarterday/field.monthNames", "quarterday/field.patterns", "quarterday/field.cycles", "quarterday/field.policyNames", "quarterday/civil.beforeMonth"], apart := false, laid := [("quarterday/civil.beforeMonth", laid_quarterday_civil_beforeMonth), ("quarterday/field.dayNames", laid_quarterday_field_dayNames), ("quarterday/field.monthNames", laid_quarterday_field_monthNames), ("quarterday/field.policyNames", laid_quarterday_field_policyNames), ("quarterday/field.patterns", laid_quarterday_field_patterns), ("quarterday/field.cycles", laid_quarterday_field_cycles)], narrowed := true }
def CompEndsUptoSaid : Prop := compEndsUptoRow.holds Tryd.pinned (OpenSpec.upto compEndsSpec)

end Rows
end Go.Proofs.YtmagdlcikcgelaaDoor
