/-
  NARROWER THAN 'FOR EVERY INPUT', by the rows' own cells (each row's printed sentence says how): AnchorDoes: laid · AnchorNext: laid · AnchorWeeks: laid · AnchorWords: laid · AnchorIso: laid · AnchorMonths: laid · YearDoes: laid · YearIn: laid · YearNext: laid · YearEdges: laid · YearServed: laid · YearSpans: laid.
  DERIVED. THE GIVEN ROWS OF THIS SEAT. 12 by the template 'for every input the law returns true; each argument reads behind the call as it read before'; 0 by the template 'total and deterministic' (their statements: YtkpjkdeomoecjaaDoorTotals.lean).
  GIVEN WITH THE SEED: the statements are not yours to turn. If you find one false, say at which input.
  Laid BY PROGRAM, IN A SANDBOX (cutbox-rows.mjs): the forced cells as the released guide's own fill.sh prints them over the translation 643c04902372e1e0… (all of the seat's roots in one cut). By AI agents, Wed Nov 11 2026. No macro, syntax, notation, axiom, sorry.
-/
import Derived.Test.YtkpjkdeomoecjaaDoorChecked
import GoSem.Claim
import GoSem.ClaimJoined
import GoSem.ClaimMapViews
import Derived.JoinedTies
import Derived.KernelRfl
namespace Go.Proofs.YtkpjkdeomoecjaaDoor
/- THE CELL 'sum', in the pinned program and in every row, IS THE sha256 OF THE DUMP (.gsa) THAT YtkpjkdeomoecjaaDoorProg.lean LOADS. Nothing in Lean hashes anything: it is a label: what it is worth is what the hold of that sum in a sandbox is worth. -/
noncomputable def Tryd.pinned : Pinned := { name := "ytkpjkdeomoecjaadoor", sum := "643c04902372e1e0829c8c2df3f47108bdee1514c2647c822a267fa2ea0278b9", checked := Tryd.checked }
namespace Rows
def none {H : Type} : Left H := { results := [], args := [] }

/- WHAT THE LISTED PACKAGE-LEVEL VARIABLES READ AS WHEN THE CALL BEGINS. Each datum BY PROGRAM (the guide's laid-datum.mjs) off the statement by which the dump's own 'gosem.cut.vars' lays the variable. In a bare row this is a premise. The card (YtkpjkdeomoecjaaDoorCards.lean) ties it to the program's text. -/
def laid_quarterday_civil_beforeMonth {H : Type} : DataW H := .agg [.lit (.int .i64 0), .lit (.int .i64 31), .lit (.int .i64 59), .lit (.int .i64 90), .lit (.int .i64 120), .lit (.int .i64 151), .lit (.int .i64 181), .lit (.int .i64 212), .lit (.int .i64 243), .lit (.int .i64 273), .lit (.int .i64 304), .lit (.int .i64 334), .lit (.int .i64 365)]
def laid_quarterday_field_dayNames {H : Type} : DataW H := .slice [.lit (.string [109, 111, 110]), .lit (.string [116, 117, 101]), .lit (.string [119, 101, 100]), .lit (.string [116, 104, 117]), .lit (.string [102, 114, 105]), .lit (.string [115, 97, 116]), .lit (.string [115, 117, 110])] []
def laid_quarterday_field_monthNames {H : Type} : DataW H := .slice [.lit (.string [106, 97, 110]), .lit (.string [102, 101, 98]), .lit (.string [109, 97, 114]), .lit (.string [97, 112, 114]), .lit (.string [109, 97, 121]), .lit (.string [106, 117, 110]), .lit (.string [106, 117, 108]), .lit (.string [97, 117, 103]), .lit (.string [115, 101, 112]), .lit (.string [111, 99, 116]), .lit (.string [110, 111, 118]), .lit (.string [100, 101, 99])] []
def laid_quarterday_field_policyNames {H : Type} : DataW H := .slice [.lit (.string [115, 116, 97, 114, 116]), .lit (.string [115, 104, 105, 102, 116]), .lit (.string [100, 114, 111, 112]), .lit (.string [99, 108, 97, 109, 112])] []
def laid_quarterday_field_patterns {H : Type} : DataW H := .slice [.agg [.lit (.int .i64 5), .lit (.int .i64 4), .lit (.int .i64 4)], .agg [.lit (.int .i64 4), .lit (.int .i64 5), .lit (.int .i64 4)], .agg [.lit (.int .i64 4), .lit (.int .i64 4), .lit (.int .i64 5)]] []
def laid_quarterday_field_cycles {H : Type} : DataW H := .slice [.lit (.int .i64 1), .lit (.int .i64 2), .lit (.int .i64 4)] []

/-- 'quarterdaylaw13.AnchorDoes': WHATEVER THE INPUT: true; the input reads as it did. -/
def anchorDoesSpec : ChangeSpec := { name := "anchorDoes", fn := fun _ => fun
  | [d1, d2] => { results := [.lit (.bool true)], args := [d1, d2] }
  | _ => none }
def anchorDoesRow : OpenClaim := { program := "ytkpjkdeomoecjaadoor", sum := "643c04902372e1e0829c8c2df3f47108bdee1514c2647c822a267fa2ea0278b9", func := "quarterday/quarterdaylaw13.AnchorDoes", spec := "anchorDoes", unfollowed := true, recurses := true, named := ["quarterday/field.dayNames", "quarterday/field.monthNames", "quarterday/field.patterns", "quarterday/field.cycles", "quarterday/field.policyNames", "quarterday/civil.beforeMonth"], apart := false, laid := [("quarterday/civil.beforeMonth", laid_quarterday_civil_beforeMonth), ("quarterday/field.dayNames", laid_quarterday_field_dayNames), ("quarterday/field.monthNames", laid_quarterday_field_monthNames), ("quarterday/field.policyNames", laid_quarterday_field_policyNames), ("quarterday/field.patterns", laid_quarterday_field_patterns), ("quarterday/field.cycles", laid_quarterday_field_cycles)] }
def AnchorDoesSaid : Prop := anchorDoesRow.holds Tryd.pinned (OpenSpec.ofChange anchorDoesSpec)

/-- ITS FALSE NEIGHBOUR: 'it returns false'. Refute it at one input. -/
def anchorDoesWrong : ChangeSpec := { name := "anchorDoes", fn := fun _ => fun
  | [d1, d2] => { results := [.lit (.bool false)], args := [d1, d2] }
  | _ => none }
def AnchorDoesWrongFalsely : Prop := anchorDoesRow.holds Tryd.pinned (OpenSpec.ofChange anchorDoesWrong)

/-- 'quarterdaylaw13.AnchorNext': WHATEVER THE INPUT: true; the input reads as it did. -/
def anchorNextSpec : ChangeSpec := { name := "anchorNext", fn := fun _ => fun
  | [d1, d2] => { results := [.lit (.bool true)], args := [d1, d2] }
  | _ => none }
def anchorNextRow : OpenClaim := { program := "ytkpjkdeomoecjaadoor", sum := "643c04902372e1e0829c8c2df3f47108bdee1514c2647c822a267fa2ea0278b9", func := "quarterday/quarterdaylaw13.AnchorNext", spec := "anchorNext", unfollowed := true, recurses := true, named := ["quarterday/field.dayNames", "quarterday/field.monthNames", "quarterday/field.patterns", "quarterday/field.cycles", "quarterday/field.policyNames", "quarterday/civil.beforeMonth"], apart := false, laid := [("quarterday/civil.beforeMonth", laid_quarterday_civil_beforeMonth), ("quarterday/field.dayNames", laid_quarterday_field_dayNames), ("quarterday/field.monthNames", laid_quarterday_field_monthNames), ("quarterday/field.policyNames", laid_quarterday_field_policyNames), ("quarterday/field.patterns", laid_quarterday_field_patterns), ("quarterday/field.cycles", laid_quarterday_field_cycles)] }
def AnchorNextSaid : Prop := anchorNextRow.holds Tryd.pinned (OpenSpec.ofChange anchorNextSpec)

/-- ITS FALSE NEIGHBOUR: 'it returns false'. Refute it at one input. -/
def anchorNextWrong : ChangeSpec := { name := "anchorNext", fn := fun _ => fun
  | [d1, d2] => { results := [.lit (.bool false)], args := [d1, d2] }
  | _ => none }
def AnchorNextWrongFalsely : Prop := anchorNextRow.holds Tryd.pinned (OpenSpec.ofChange anchorNextWrong)

/-- 'quarterdaylaw13.AnchorWeeks': WHATEVER THE INPUT: true; the input reads as it did. -/
def anchorWeeksSpec : ChangeSpec := { name := "anchorWeeks", fn := fun _ => fun
  | [d1, d2] => { results := [.lit (.bool true)], args := [d1, d2] }
  | _ => none }
def anchorWeeksRow : OpenClaim := { program := "ytkpjkdeomoecjaadoor", sum := "643c04902372e1e0829c8c2df3f47108bdee1514c2647c822a267fa2ea0278b9", func := "quarterday/quarterdaylaw13.AnchorWeeks", spec := "anchorWeeks", unfollowed := true, recurses := true, named := ["quarterday/field.dayNames", "quarterday/field.monthNames", "quarterday/field.patterns", "quarterday/field.cycles", "quarterday/field.policyNames", "quarterday/civil.beforeMonth"], apart := false, laid := [("quarterday/civil.beforeMonth", laid_quarterday_civil_beforeMonth), ("quarterday/field.dayNames", laid_quarterday_field_dayNames), ("quarterday/field.monthNames", laid_quarterday_field_monthNames), ("quarterday/field.policyNames", laid_quarterday_field_policyNames), ("quarterday/field.patterns", laid_quarterday_field_patterns), ("quarterday/field.cycles", laid_quarterday_field_cycles)] }
def AnchorWeeksSaid : Prop := anchorWeeksRow.holds Tryd.pinned (OpenSpec.ofChange anchorWeeksSpec)

/-- ITS FALSE NEIGHBOUR: 'it returns false'. Refute it at one input. -/
def anchorWeeksWrong : ChangeSpec := { name := "anchorWeeks", fn := fun _ => fun
  | [d1, d2] => { results := [.lit (.bool false)], args := [d1, d2] }
  | _ => none }
def AnchorWeeksWrongFalsely : Prop := anchorWeeksRow.holds Tryd.pinned (OpenSpec.ofChange anchorWeeksWrong)

/-- 'quarterdaylaw13.AnchorWords': WHATEVER THE INPUT: true; the input reads as it did. -/
def anchorWordsSpec : ChangeSpec := { name := "anchorWords", fn := fun _ => fun
  | [d1, d2] => { results := [.lit (.bool true)], args := [d1, d2] }
  | _ => none }
def anchorWordsRow : OpenClaim := { program := "ytkpjkdeomoecjaadoor", sum := "643c04902372e1e0829c8c2df3f47108bdee1514c2647c822a267fa2ea0278b9", func := "quarterday/quarterdaylaw13.AnchorWords", spec := "anchorWords", unfollowed := true, recurses := true, named := ["quarterday/field.dayNames", "quarterday/field.monthNames", "quarterday/field.patterns", "quarterday/field.cycles", "quarterday/field.policyNames", "quarterday/civil.beforeMonth"], apart := false, laid := [("quarterday/civil.beforeMonth", laid_quarterday_civil_beforeMonth), ("quarterday/field.dayNames", laid_quarterday_field_dayNames), ("quarterday/field.monthNames", laid_quarterday_field_monthNames), ("quarterday/field.policyNames", laid_quarterday_field_policyNames), ("quarterday/field.patterns", laid_quarterday_field_patterns), ("quarterday/field.cycles", laid_quarterday_field_cycles)] }
def AnchorWordsSaid : Prop := anchorWordsRow.holds Tryd.pinned (OpenSpec.ofChange anchorWordsSpec)

/-- ITS FALSE NEIGHBOUR: 'it returns false'. Refute it at one input. -/
def anchorWordsWrong : ChangeSpec := { name := "anchorWords", fn := fun _ => fun
  | [d1, d2] => { results := [.lit (.bool false)], args := [d1, d2] }
  | _ => none }
def AnchorWordsWrongFalsely : Prop := anchorWordsRow.holds Tryd.pinned (OpenSpec.ofChange anchorWordsWrong)

/-- 'quarterdaylaw13.AnchorIso': WHATEVER THE INPUT: true; the input reads as it did. -/
def anchorIsoSpec : ChangeSpec := { name := "anchorIso", fn := fun _ => fun
  | [d1, d2] => { results := [.lit (.bool true)], args := [d1, d2] }
  | _ => none }
def anchorIsoRow : OpenClaim := { program := "ytkpjkdeomoecjaadoor", sum := "643c04902372e1e0829c8c2df3f47108bdee1514c2647c822a267fa2ea0278b9", func := "quarterday/quarterdaylaw13.AnchorIso", spec := "anchorIso", unfollowed := true, recurses := true, named := ["quarterday/field.dayNames", "quarterday/field.monthNames", "quarterday/field.patterns", "quarterday/field.cycles", "quarterday/field.policyNames", "quarterday/civil.beforeMonth"], apart := false, laid := [("quarterday/civil.beforeMonth", laid_quarterday_civil_beforeMonth), ("quarterday/field.dayNames", laid_quarterday_field_dayNames), ("quarterday/field.monthNames", laid_quarterday_field_monthNames), ("quarterday/field.policyNames", laid_quarterday_field_policyNames), ("quarterday/field.patterns", laid_quarterday_field_patterns), ("quarterday/field.cycles", laid_quarterday_field_cycles)] }
def AnchorIsoSaid : Prop := anchorIsoRow.holds Tryd.pinned (OpenSpec.ofChange anchorIsoSpec)

/-- ITS FALSE NEIGHBOUR: 'it returns false'. Refute it at one input. -/
def anchorIsoWrong : ChangeSpec := { name := "anchorIso", fn := fun _ => fun
  | [d1, d2] => { results := [.lit (.bool false)], args := [d1, d2] }
  | _ => none }
def AnchorIsoWrongFalsely : Prop := anchorIsoRow.holds Tryd.pinned (OpenSpec.ofChange anchorIsoWrong)

/-- 'quarterdaylaw13.AnchorMonths': WHATEVER THE INPUT: true; the input reads as it did. -/
def anchorMonthsSpec : ChangeSpec := { name := "anchorMonths", fn := fun _ => fun
  | [d1, d2] => { results := [.lit (.bool true)], args := [d1, d2] }
  | _ => none }
def anchorMonthsRow : OpenClaim := { program := "ytkpjkdeomoecjaadoor", sum := "643c04902372e1e0829c8c2df3f47108bdee1514c2647c822a267fa2ea0278b9", func := "quarterday/quarterdaylaw13.AnchorMonths", spec := "anchorMonths", unfollowed := true, recurses := true, named := ["quarterday/field.dayNames", "quarterday/field.monthNames", "quarterday/field.patterns", "quarterday/field.cycles", "quarterday/field.policyNames", "quarterday/civil.beforeMonth"], apart := false, laid := [("quarterday/civil.beforeMonth", laid_quarterday_civil_beforeMonth), ("quarterday/field.dayNames", laid_quarterday_field_dayNames), ("quarterday/field.monthNames", laid_quarterday_field_monthNames), ("quarterday/field.policyNames", laid_quarterday_field_policyNames), ("quarterday/field.patterns", laid_quarterday_field_patterns), ("quarterday/field.cycles", laid_quarterday_field_cycles)] }
def AnchorMonthsSaid : Prop := anchorMonthsRow.holds Tryd.pinned (OpenSpec.ofChange anchorMonthsSpec)

/-- ITS FALSE NEIGHBOUR: 'it returns false'. Refute it at one input. -/
def anchorMonthsWrong : ChangeSpec := { name := "anchorMonths", fn := fun _ => fun
  | [d1, d2] => { results := [.lit (.bool false)], args := [d1, d2] }
  | _ => none }
def AnchorMonthsWrongFalsely : Prop := anchorMonthsRow.holds Tryd.pinned (OpenSpec.ofChange anchorMonthsWrong)

/-- 'quarterdaylaw14.YearDoes': WHATEVER THE INPUT: true; the input reads as it did. -/
def yearDoesSpec : ChangeSpec := { name := "yearDoes", fn := fun _ => fun
  | [d1, d2] => { results := [.lit (.bool true)], args := [d1, d2] }
  | _ => none }
def yearDoesRow : OpenClaim := { program := "ytkpjkdeomoecjaadoor", sum := "643c04902372e1e0829c8c2df3f47108bdee1514c2647c822a267fa2ea0278b9", func := "quarterday/quarterdaylaw14.YearDoes", spec := "yearDoes", unfollowed := true, recurses := true, named := ["quarterday/civil.beforeMonth", "quarterday/field.dayNames", "quarterday/field.monthNames", "quarterday/field.patterns", "quarterday/field.cycles", "quarterday/field.policyNames"], apart := false, laid := [("quarterday/civil.beforeMonth", laid_quarterday_civil_beforeMonth), ("quarterday/field.dayNames", laid_quarterday_field_dayNames), ("quarterday/field.monthNames", laid_quarterday_field_monthNames), ("quarterday/field.policyNames", laid_quarterday_field_policyNames), ("quarterday/field.patterns", laid_quarterday_field_patterns), ("quarterday/field.cycles", laid_quarterday_field_cycles)] }
def YearDoesSaid : Prop := yearDoesRow.holds Tryd.pinned (OpenSpec.ofChange yearDoesSpec)

/-- ITS FALSE NEIGHBOUR: 'it returns false'. Refute it at one input. -/
def yearDoesWrong : ChangeSpec := { name := "yearDoes", fn := fun _ => fun
  | [d1, d2] => { results := [.lit (.bool false)], args := [d1, d2] }
  | _ => none }
def YearDoesWrongFalsely : Prop := yearDoesRow.holds Tryd.pinned (OpenSpec.ofChange yearDoesWrong)

/-- 'quarterdaylaw14.YearIn': WHATEVER THE INPUT: true; the input reads as it did. -/
def yearInSpec : ChangeSpec := { name := "yearIn", fn := fun _ => fun
  | [d1, d2, d3] => { results := [.lit (.bool true)], args := [d1, d2, d3] }
  | _ => none }
def yearInRow : OpenClaim := { program := "ytkpjkdeomoecjaadoor", sum := "643c04902372e1e0829c8c2df3f47108bdee1514c2647c822a267fa2ea0278b9", func := "quarterday/quarterdaylaw14.YearIn", spec := "yearIn", unfollowed := true, recurses := true, named := ["quarterday/civil.beforeMonth", "quarterday/field.dayNames", "quarterday/field.monthNames", "quarterday/field.patterns", "quarterday/field.cycles", "quarterday/field.policyNames"], apart := false, laid := [("quarterday/civil.beforeMonth", laid_quarterday_civil_beforeMonth), ("quarterday/field.dayNames", laid_quarterday_field_dayNames), ("quarterday/field.monthNames", laid_quarterday_field_monthNames), ("quarterday/field.policyNames", laid_quarterday_field_policyNames), ("quarterday/field.patterns", laid_quarterday_field_patterns), ("quarterday/field.cycles", laid_quarterday_field_cycles)] }
def YearInSaid : Prop := yearInRow.holds Tryd.pinned (OpenSpec.ofChange yearInSpec)

/-- ITS FALSE NEIGHBOUR: 'it returns false'. Refute it at one input. -/
def yearInWrong : ChangeSpec := { name := "yearIn", fn := fun _ => fun
  | [d1, d2, d3] => { results := [.lit (.bool false)], args := [d1, d2, d3] }
  | _ => none }
def YearInWrongFalsely : Prop := yearInRow.holds Tryd.pinned (OpenSpec.ofChange yearInWrong)

/-- 'quarterdaylaw14.YearNext': WHATEVER THE INPUT: true; the input reads as it did. -/
def yearNextSpec : ChangeSpec := { name := "yearNext", fn := fun _ => fun
  | [d1, d2] => { results := [.lit (.bool true)], args := [d1, d2] }
  | _ => none }
def yearNextRow : OpenClaim := { program := "ytkpjkdeomoecjaadoor", sum := "643c04902372e1e0829c8c2df3f47108bdee1514c2647c822a267fa2ea0278b9", func := "quarterday/quarterdaylaw14.YearNext", spec := "yearNext", unfollowed := true, recurses := true, named := ["quarterday/civil.beforeMonth", "quarterday/field.dayNames", "quarterday/field.monthNames", "quarterday/field.patterns", "quarterday/field.cycles", "quarterday/field.policyNames"], apart := false, laid := [("quarterday/civil.beforeMonth", laid_quarterday_civil_beforeMonth), ("quarterday/field.dayNames", laid_quarterday_field_dayNames), ("quarterday/field.monthNames", laid_quarterday_field_monthNames), ("quarterday/field.policyNames", laid_quarterday_field_policyNames), ("quarterday/field.patterns", laid_quarterday_field_patterns), ("quarterday/field.cycles", laid_quarterday_field_cycles)] }
def YearNextSaid : Prop := yearNextRow.holds Tryd.pinned (OpenSpec.ofChange yearNextSpec)

/-- ITS FALSE NEIGHBOUR: 'it returns false'. Refute it at one input. -/
def yearNextWrong : ChangeSpec := { name := "yearNext", fn := fun _ => fun
  | [d1, d2] => { results := [.lit (.bool false)], args := [d1, d2] }
  | _ => none }
def YearNextWrongFalsely : Prop := yearNextRow.holds Tryd.pinned (OpenSpec.ofChange yearNextWrong)

/-- 'quarterdaylaw14.YearEdges': WHATEVER THE INPUT: true; the input reads as it did. -/
def yearEdgesSpec : ChangeSpec := { name := "yearEdges", fn := fun _ => fun
  | [d1, d2] => { results := [.lit (.bool true)], args := [d1, d2] }
  | _ => none }
def yearEdgesRow : OpenClaim := { program := "ytkpjkdeomoecjaadoor", sum := "643c04902372e1e0829c8c2df3f47108bdee1514c2647c822a267fa2ea0278b9", func := "quarterday/quarterdaylaw14.YearEdges", spec := "yearEdges", unfollowed := true, recurses := true, named := ["quarterday/civil.beforeMonth", "quarterday/field.dayNames", "quarterday/field.monthNames", "quarterday/field.patterns", "quarterday/field.cycles", "quarterday/field.policyNames"], apart := false, laid := [("quarterday/civil.beforeMonth", laid_quarterday_civil_beforeMonth), ("quarterday/field.dayNames", laid_quarterday_field_dayNames), ("quarterday/field.monthNames", laid_quarterday_field_monthNames), ("quarterday/field.policyNames", laid_quarterday_field_policyNames), ("quarterday/field.patterns", laid_quarterday_field_patterns), ("quarterday/field.cycles", laid_quarterday_field_cycles)] }
def YearEdgesSaid : Prop := yearEdgesRow.holds Tryd.pinned (OpenSpec.ofChange yearEdgesSpec)

/-- ITS FALSE NEIGHBOUR: 'it returns false'. Refute it at one input. -/
def yearEdgesWrong : ChangeSpec := { name := "yearEdges", fn := fun _ => fun
  | [d1, d2] => { results := [.lit (.bool false)], args := [d1, d2] }
  | _ => none }
def YearEdgesWrongFalsely : Prop := yearEdgesRow.holds Tryd.pinned (OpenSpec.ofChange yearEdgesWrong)

/-- 'quarterdaylaw14.YearServed': WHATEVER THE INPUT: true; the input reads as it did. -/
def yearServedSpec : ChangeSpec := { name := "yearServed", fn := fun _ => fun
  | [d1, d2] => { results := [.lit (.bool true)], args := [d1, d2] }
  | _ => none }
def yearServedRow : OpenClaim := { program := "ytkpjkdeomoecjaadoor", sum := "643c04902372e1e0829c8c2df3f47108bdee1514c2647c822a267fa2ea0278b9", func := "quarterday/quarterdaylaw14.YearServed", spec := "yearServed", unfollowed := true, recurses := true, named := ["quarterday/civil.beforeMonth", "quarterday/field.dayNames", "quarterday/field.monthNames", "quarterday/field.patterns", "quarterday/field.cycles", "quarterday/field.policyNames"], apart := false, laid := [("quarterday/civil.beforeMonth", laid_quarterday_civil_beforeMonth), ("quarterday/field.dayNames", laid_quarterday_field_dayNames), ("quarterday/field.monthNames", laid_quarterday_field_monthNames), ("quarterday/field.policyNames", laid_quarterday_field_policyNames), ("quarterday/field.patterns", laid_quarterday_field_patterns), ("quarterday/field.cycles", laid_quarterday_field_cycles)] }
def YearServedSaid : Prop := yearServedRow.holds Tryd.pinned (OpenSpec.ofChange yearServedSpec)

/-- ITS FALSE NEIGHBOUR: 'it returns false'. Refute it at one input. -/
def yearServedWrong : ChangeSpec := { name := "yearServed", fn := fun _ => fun
  | [d1, d2] => { results := [.lit (.bool false)], args := [d1, d2] }
  | _ => none }
def YearServedWrongFalsely : Prop := yearServedRow.holds Tryd.pinned (OpenSpec.ofChange yearServedWrong)

/-- 'quarterdaylaw14.YearSpans': WHATEVER THE INPUT: true; the input reads as it did. -/
def yearSpansSpec : ChangeSpec := { name := "yearSpans", fn := fun _ => fun
  | [d] => { results := [.lit (.bool true)], args := [d] }
  | _ => none }
def yearSpansRow : OpenClaim := { program := "ytkpjkdeomoecjaadoor", sum := "643c04902372e1e0829c8c2df3f47108bdee1514c2647c822a267fa2ea0278b9", func := "quarterday/quarterdaylaw14.YearSpans", spec := "yearSpans", unfollowed := true, recurses := true, named := ["quarterday/civil.beforeMonth", "quarterday/field.dayNames", "quarterday/field.monthNames", "quarterday/field.patterns", "quarterday/field.cycles", "quarterday/field.policyNames"], apart := false, laid := [("quarterday/civil.beforeMonth", laid_quarterday_civil_beforeMonth), ("quarterday/field.dayNames", laid_quarterday_field_dayNames), ("quarterday/field.monthNames", laid_quarterday_field_monthNames), ("quarterday/field.policyNames", laid_quarterday_field_policyNames), ("quarterday/field.patterns", laid_quarterday_field_patterns), ("quarterday/field.cycles", laid_quarterday_field_cycles)] }
def YearSpansSaid : Prop := yearSpansRow.holds Tryd.pinned (OpenSpec.ofChange yearSpansSpec)

/-- ITS FALSE NEIGHBOUR: 'it returns false'. Refute it at one input. -/
def yearSpansWrong : ChangeSpec := { name := "yearSpans", fn := fun _ => fun
  | [d] => { results := [.lit (.bool false)], args := [d] }
  | _ => none }
def YearSpansWrongFalsely : Prop := yearSpansRow.holds Tryd.pinned (OpenSpec.ofChange yearSpansWrong)

/- THE SECOND FORM. 'bulk': how many values and letters a reading holds, each counted each time it is reached (what is shared counts as often as it is met; a slice's spare places count too). A statement '..UptoSaid' is the law's where the arguments, and the package variables that the reading takes, are together of bulk at most 1048576: NARROWER than '..Said'. Prove '..Said' where nothing that the law and all that it calls make is longer than what came in: it says more and counts as full. Else prove '..UptoSaid'. A law counts once. -/
mutual
def uptoBulk {H : Type} : DataW H → Nat
  | .lit (.string bytes) => bytes.length + 1
  | .lit _ => 1
  | .nil => 1
  | .ptr d => uptoBulk d + 1
  | .slice elems spare => uptoBulkAll elems + uptoBulkAll spare + 1
  | .agg parts => uptoBulkAll parts + 1
  | .iface _ d => uptoBulk d + 1
  | .map entries => uptoBulkEntries entries + 1
  | .held _ => 1
def uptoBulkAll {H : Type} : List (DataW H) → Nat
  | [] => 0
  | d :: r => uptoBulk d + uptoBulkAll r
def uptoBulkEntries {H : Type} : List (Lit × DataW H) → Nat
  | [] => 0
  | x :: r => uptoBulkEntry x + uptoBulkEntries r
def uptoBulkEntry {H : Type} : Lit × DataW H → Nat
  | (.string bytes, d) => bytes.length + uptoBulk d + 1
  | (_, d) => uptoBulk d + 1
 end
def uptoSmall : (H : Type) → List (DataW H) → Bool := fun _ ds => decide (uptoBulkAll ds ≤ 1048576)
def OpenSpec.upto (s : _root_.Go.ChangeSpec) : _root_.Go.OpenSpec := { _root_.Go.OpenSpec.ofChange s with cond := some uptoSmall }

/-- 'quarterdaylaw13.AnchorDoes', WHERE WHAT IT READS IS OF BULK AT MOST 1048576: true; the input reads as it did. -/
def anchorDoesUptoRow : OpenClaim := { program := "ytkpjkdeomoecjaadoor", sum := "643c04902372e1e0829c8c2df3f47108bdee1514c2647c822a267fa2ea0278b9", func := "quarterday/quarterdaylaw13.AnchorDoes", spec := "anchorDoes", unfollowed := true, recurses := true, named := ["quarterday/field.dayNames", "quarterday/field.monthNames", "quarterday/field.patterns", "quarterday/field.cycles", "quarterday/field.policyNames", "quarterday/civil.beforeMonth"], apart := false, laid := [("quarterday/civil.beforeMonth", laid_quarterday_civil_beforeMonth), ("quarterday/field.dayNames", laid_quarterday_field_dayNames), ("quarterday/field.monthNames", laid_quarterday_field_monthNames), ("quarterday/field.policyNames", laid_quarterday_field_policyNames), ("quarterday/field.patterns", laid_quarterday_field_patterns), ("quarterday/field.cycles", laid_quarterday_field_cycles)], narrowed := true }
def AnchorDoesUptoSaid : Prop := anchorDoesUptoRow.holds Tryd.pinned (OpenSpec.upto anchorDoesSpec)

/-- 'quarterdaylaw13.AnchorNext', WHERE WHAT IT READS IS OF BULK AT MOST 1048576: true; the input reads as it did. -/
def anchorNextUptoRow : OpenClaim := { program := "ytkpjkdeomoecjaadoor", sum := "643c04902372e1e0829c8c2df3f47108bdee1514c2647c822a267fa2ea0278b9", func := "quarterday/quarterdaylaw13.AnchorNext", spec := "anchorNext", unfollowed := true, recurses := true, named := ["quarterday/field.dayNames", "quarterday/field.monthNames", "quarterday/field.patterns", "quarterday/field.cycles", "quarterday/field.policyNames", "quarterday/civil.beforeMonth"], apart := false, laid := [("quarterday/civil.beforeMonth", laid_quarterday_civil_beforeMonth), ("quarterday/field.dayNames", laid_quarterday_field_dayNames), ("quarterday/field.monthNames", laid_quarterday_field_monthNames), ("quarterday/field.policyNames", laid_quarterday_field_policyNames), ("quarterday/field.patterns", laid_quarterday_field_patterns), ("quarterday/field.cycles", laid_quarterday_field_cycles)], narrowed := true }
def AnchorNextUptoSaid : Prop := anchorNextUptoRow.holds Tryd.pinned (OpenSpec.upto anchorNextSpec)

/-- 'quarterdaylaw13.AnchorWeeks', WHERE WHAT IT READS IS OF BULK AT MOST 1048576: true; the input reads as it did. -/
def anchorWeeksUptoRow : OpenClaim := { program := "ytkpjkdeomoecjaadoor", sum := "643c04902372e1e0829c8c2df3f47108bdee1514c2647c822a267fa2ea0278b9", func := "quarterday/quarterdaylaw13.AnchorWeeks", spec := "anchorWeeks", unfollowed := true, recurses := true, named := ["quarterday/field.dayNames", "quarterday/field.monthNames", "quarterday/field.patterns", "quarterday/field.cycles", "quarterday/field.policyNames", "quarterday/civil.beforeMonth"], apart := false, laid := [("quarterday/civil.beforeMonth", laid_quarterday_civil_beforeMonth), ("quarterday/field.dayNames", laid_quarterday_field_dayNames), ("quarterday/field.monthNames", laid_quarterday_field_monthNames), ("quarterday/field.policyNames", laid_quarterday_field_policyNames), ("quarterday/field.patterns", laid_quarterday_field_patterns), ("quarterday/field.cycles", laid_quarterday_field_cycles)], narrowed := true }
def AnchorWeeksUptoSaid : Prop := anchorWeeksUptoRow.holds Tryd.pinned (OpenSpec.upto anchorWeeksSpec)

/-- 'quarterdaylaw13.AnchorWords', WHERE WHAT IT READS IS OF BULK AT MOST 1048576: true; the input reads as it did. -/
def anchorWordsUptoRow : OpenClaim := { program := "ytkpjkdeomoecjaadoor", sum := "643c04902372e1e0829c8c2df3f47108bdee1514c2647c822a267fa2ea0278b9", func := "quarterday/quarterdaylaw13.AnchorWords", spec := "anchorWords", unfollowed := true, recurses := true, named := ["quarterday/field.dayNames", "quarterday/field.monthNames", "quarterday/field.patterns", "quarterday/field.cycles", "quarterday/field.policyNames", "quarterday/civil.beforeMonth"], apart := false, laid := [("quarterday/civil.beforeMonth", laid_quarterday_civil_beforeMonth), ("quarterday/field.dayNames", laid_quarterday_field_dayNames), ("quarterday/field.monthNames", laid_quarterday_field_monthNames), ("quarterday/field.policyNames", laid_quarterday_field_policyNames), ("quarterday/field.patterns", laid_quarterday_field_patterns), ("quarterday/field.cycles", laid_quarterday_field_cycles)], narrowed := true }
def AnchorWordsUptoSaid : Prop := anchorWordsUptoRow.holds Tryd.pinned (OpenSpec.upto anchorWordsSpec)

/-- 'quarterdaylaw13.AnchorIso', WHERE WHAT IT READS IS OF BULK AT MOST 1048576: true; the input reads as it did. -/
def anchorIsoUptoRow : OpenClaim := { program := "ytkpjkdeomoecjaadoor", sum := "643c04902372e1e0829c8c2df3f47108bdee1514c2647c822a267fa2ea0278b9", func := "quarterday/quarterdaylaw13.AnchorIso", spec := "anchorIso", unfollowed := true, recurses := true, named := ["quarterday/field.dayNames", "quarterday/field.monthNames", "quarterday/field.patterns", "quarterday/field.cycles", "quarterday/field.policyNames", "quarterday/civil.beforeMonth"], apart := false, laid := [("quarterday/civil.beforeMonth", laid_quarterday_civil_beforeMonth), ("quarterday/field.dayNames", laid_quarterday_field_dayNames), ("quarterday/field.monthNames", laid_quarterday_field_monthNames), ("quarterday/field.policyNames", laid_quarterday_field_policyNames), ("quarterday/field.patterns", laid_quarterday_field_patterns), ("quarterday/field.cycles", laid_quarterday_field_cycles)], narrowed := true }
def AnchorIsoUptoSaid : Prop := anchorIsoUptoRow.holds Tryd.pinned (OpenSpec.upto anchorIsoSpec)

/-- 'quarterdaylaw13.AnchorMonths', WHERE WHAT IT READS IS OF BULK AT MOST 1048576: true; the input reads as it did. -/
def anchorMonthsUptoRow : OpenClaim := { program := "ytkpjkdeomoecjaadoor", sum := "643c04902372e1e0829c8c2df3f47108bdee1514c2647c822a267fa2ea0278b9", func := "quarterday/quarterdaylaw13.AnchorMonths", spec := "anchorMonths", unfollowed := true, recurses := true, named := ["quarterday/field.dayNames", "quarterday/field.monthNames", "quarterday/field.patterns", "quarterday/field.cycles", "quarterday/field.policyNames", "quarterday/civil.beforeMonth"], apart := false, laid := [("quarterday/civil.beforeMonth", laid_quarterday_civil_beforeMonth), ("quarterday/field.dayNames", laid_quarterday_field_dayNames), ("quarterday/field.monthNames", laid_quarterday_field_monthNames), ("quarterday/field.policyNames", laid_quarterday_field_policyNames), ("quarterday/field.patterns", laid_quarterday_field_patterns), ("quarterday/field.cycles", laid_quarterday_field_cycles)], narrowed := true }
def AnchorMonthsUptoSaid : Prop := anchorMonthsUptoRow.holds Tryd.pinned (OpenSpec.upto anchorMonthsSpec)

/-- 'quarterdaylaw14.YearDoes', WHERE WHAT IT READS IS OF BULK AT MOST 1048576: true; the input reads as it did. -/
def yearDoesUptoRow : OpenClaim := { program := "ytkpjkdeomoecjaadoor", sum := "643c04902372e1e0829c8c2df3f47108bdee1514c2647c822a267fa2ea0278b9", func := "quarterday/quarterdaylaw14.YearDoes", spec := "yearDoes", unfollowed := true, recurses := true, named := ["quarterday/civil.beforeMonth", "quarterday/field.dayNames", "quarterday/field.monthNames", "quarterday/field.patterns", "quarterday/field.cycles", "quarterday/field.policyNames"], apart := false, laid := [("quarterday/civil.beforeMonth", laid_quarterday_civil_beforeMonth), ("quarterday/field.dayNames", laid_quarterday_field_dayNames), ("quarterday/field.monthNames", laid_quarterday_field_monthNames), ("quarterday/field.policyNames", laid_quarterday_field_policyNames), ("quarterday/field.patterns", laid_quarterday_field_patterns), ("quarterday/field.cycles", laid_quarterday_field_cycles)], narrowed := true }
def YearDoesUptoSaid : Prop := yearDoesUptoRow.holds Tryd.pinned (OpenSpec.upto yearDoesSpec)

/-- 'quarterdaylaw14.YearIn', WHERE WHAT IT READS IS OF BULK AT MOST 1048576: true; the input reads as it did. -/
def yearInUptoRow : OpenClaim := { program := "ytkpjkdeomoecjaadoor", sum := "643c04902372e1e0829c8c2df3f47108bdee1514c2647c822a267fa2ea0278b9", func := "quarterday/quarterdaylaw14.YearIn", spec := "yearIn", unfollowed := true, recurses := true, named := ["quarterday/civil.beforeMonth", "quarterday/field.dayNames", "quarterday/field.monthNames", "quarterday/field.patterns", "quarterday/field.cycles", "quarterday/field.policyNames"], apart := false, laid := [("quarterday/civil.beforeMonth", laid_quarterday_civil_beforeMonth), ("quarterday/field.dayNames", laid_quarterday_field_dayNames), ("quarterday/field.monthNames", laid_quarterday_field_monthNames), ("quarterday/field.policyNames", laid_quarterday_field_policyNames), ("quarterday/field.patterns", laid_quarterday_field_patterns), ("quarterday/field.cycles", laid_quarterday_field_cycles)], narrowed := true }
def YearInUptoSaid : Prop := yearInUptoRow.holds Tryd.pinned (OpenSpec.upto yearInSpec)

/-- 'quarterdaylaw14.YearNext', WHERE WHAT IT READS IS OF BULK AT MOST 1048576: true; the input reads as it did. -/
def yearNextUptoRow : OpenClaim := { program := "ytkpjkdeomoecjaadoor", sum := "643c04902372e1e0829c8c2df3f47108bdee1514c2647c822a267fa2ea0278b9", func := "quarterday/quarterdaylaw14.YearNext", spec := "yearNext", unfollowed := true, recurses := true, named := ["quarterday/civil.beforeMonth", "quarterday/field.dayNames", "quarterday/field.monthNames", "quarterday/field.patterns", "quarterday/field.cycles", "quarterday/field.policyNames"], apart := false, laid := [("quarterday/civil.beforeMonth", laid_quarterday_civil_beforeMonth), ("quarterday/field.dayNames", laid_quarterday_field_dayNames), ("quarterday/field.monthNames", laid_quarterday_field_monthNames), ("quarterday/field.policyNames", laid_quarterday_field_policyNames), ("quarterday/field.patterns", laid_quarterday_field_patterns), ("quarterday/field.cycles", laid_quarterday_field_cycles)], narrowed := true }
def YearNextUptoSaid : Prop := yearNextUptoRow.holds Tryd.pinned (OpenSpec.upto yearNextSpec)

/-- 'quarterdaylaw14.YearEdges', WHERE WHAT IT READS IS OF BULK AT MOST 1048576: true; the input reads as it did. -/
def yearEdgesUptoRow : OpenClaim := { program := "ytkpjkdeomoecjaadoor", sum := "643c04902372e1e0829c8c2df3f47108bdee1514c2647c822a267fa2ea0278b9", func := "quarterday/quarterdaylaw14.YearEdges", spec := "yearEdges", unfollowed := true, recurses := true, named := ["quarterday/civil.beforeMonth", "quarterday/field.dayNames", "quarterday/field.monthNames", "quarterday/field.patterns", "quarterday/field.cycles", "quarterday/field.policyNames"], apart := false, laid := [("quarterday/civil.beforeMonth", laid_quarterday_civil_beforeMonth), ("quarterday/field.dayNames", laid_quarterday_field_dayNames), ("quarterday/field.monthNames", laid_quarterday_field_monthNames), ("quarterday/field.policyNames", laid_quarterday_field_policyNames), ("quarterday/field.patterns", laid_quarterday_field_patterns), ("quarterday/field.cycles", laid_quarterday_field_cycles)], narrowed := true }
def YearEdgesUptoSaid : Prop := yearEdgesUptoRow.holds Tryd.pinned (OpenSpec.upto yearEdgesSpec)

/-- 'quarterdaylaw14.YearServed', WHERE WHAT IT READS IS OF BULK AT MOST 1048576: true; the input reads as it did. -/
def yearServedUptoRow : OpenClaim := { program := "ytkpjkdeomoecjaadoor", sum := "643c04902372e1e0829c8c2df3f47108bdee1514c2647c822a267fa2ea0278b9", func := "quarterday/quarterdaylaw14.YearServed", spec := "yearServed", unfollowed := true, recurses := true, named := ["quarterday/civil.beforeMonth", "quarterday/field.dayNames", "quarterday/field.monthNames", "quarterday/field.patterns", "quarterday/field.cycles", "quarterday/field.policyNames"], apart := false, laid := [("quarterday/civil.beforeMonth", laid_quarterday_civil_beforeMonth), ("quarterday/field.dayNames", laid_quarterday_field_dayNames), ("quarterday/field.monthNames", laid_quarterday_field_monthNames), ("quarterday/field.policyNames", laid_quarterday_field_policyNames), ("quarterday/field.patterns", laid_quarterday_field_patterns), ("quarterday/field.cycles", laid_quarterday_field_cycles)], narrowed := true }
def YearServedUptoSaid : Prop := yearServedUptoRow.holds Tryd.pinned (OpenSpec.upto yearServedSpec)

/-- 'quarterdaylaw14.YearSpans', WHERE WHAT IT READS IS OF BULK AT MOST 1048576: true; the input reads as it did. -/
def yearSpansUptoRow : OpenClaim := { program := "ytkpjkdeomoecjaadoor", sum := "643c04902372e1e0829c8c2df3f47108bdee1514c2647c822a267fa2ea0278b9", func := "quarterday/quarterdaylaw14.YearSpans", spec := "yearSpans", unfollowed := true, recurses := true, named := ["quarterday/civil.beforeMonth", "quarterday/field.dayNames", "quarterday/field.monthNames", "quarterday/field.patterns", "quarterday/field.cycles", "quarterday/field.policyNames"], apart := false, laid := [("quarterday/civil.beforeMonth", laid_quarterday_civil_beforeMonth), ("quarterday/field.dayNames", laid_quarterday_field_dayNames), ("quarterday/field.monthNames", laid_quarterday_field_monthNames), ("quarterday/field.policyNames", laid_quarterday_field_policyNames), ("quarterday/field.patterns", laid_quarterday_field_patterns), ("quarterday/field.cycles", laid_quarterday_field_cycles)], narrowed := true }
def YearSpansUptoSaid : Prop := yearSpansUptoRow.holds Tryd.pinned (OpenSpec.upto yearSpansSpec)

end Rows
end Go.Proofs.YtkpjkdeomoecjaaDoor
