/-
  NARROWER THAN 'FOR EVERY INPUT', by the rows' own cells (each row's printed sentence says how): WeekDoes: laid · WeekEnds: laid · WeekBack: laid · WeekNext: laid · WeekFirst: laid · WeekLast: laid · WeekYears: laid · StampDoes: laid · StampBack: laid · StampOrder: laid · StampParts: laid · StampForm: laid.
  DERIVED. THE GIVEN ROWS OF THIS SEAT. 12 by the template 'for every input the law returns true; each argument reads behind the call as it read before'; 0 by the template 'total and deterministic' (their statements: YtodpmdmfdnbehaaDoorTotals.lean).
  GIVEN WITH THE SEED: the statements are not yours to turn. If you find one false, say at which input.
  Laid BY PROGRAM, IN A SANDBOX (cutbox-rows.mjs): the forced cells as the released guide's own fill.sh prints them over the translation 3ad228b0e8cf8fdb… (all of the seat's roots in one cut). By AI agents, Wed Nov 11 2026. No macro, syntax, notation, axiom, sorry.
-/
import Derived.Test.YtodpmdmfdnbehaaDoorChecked
import GoSem.Claim
import GoSem.ClaimJoined
import GoSem.ClaimMapViews
import Derived.JoinedTies
import Derived.KernelRfl
namespace Go.Proofs.YtodpmdmfdnbehaaDoor
/- THE CELL 'sum', in the pinned program and in every row, IS THE sha256 OF THE DUMP (.gsa) THAT YtodpmdmfdnbehaaDoorProg.lean LOADS. Nothing in Lean hashes anything: it is a label: what it is worth is what the hold of that sum in a sandbox is worth. -/
noncomputable def Tryd.pinned : Pinned := { name := "ytodpmdmfdnbehaadoor", sum := "3ad228b0e8cf8fdbaf1417d579af65ace62ec6f3b5386df67bfd855bb47d1b51", checked := Tryd.checked }
namespace Rows
def none {H : Type} : Left H := { results := [], args := [] }

/- WHAT THE LISTED PACKAGE-LEVEL VARIABLES READ AS WHEN THE CALL BEGINS. Each datum BY PROGRAM (the guide's laid-datum.mjs) off the statement by which the dump's own 'gosem.cut.vars' lays the variable. In a bare row this is a premise. The card (YtodpmdmfdnbehaaDoorCards.lean) ties it to the program's text. -/
def laid_quarterday_civil_beforeMonth {H : Type} : DataW H := .agg [.lit (.int .i64 0), .lit (.int .i64 31), .lit (.int .i64 59), .lit (.int .i64 90), .lit (.int .i64 120), .lit (.int .i64 151), .lit (.int .i64 181), .lit (.int .i64 212), .lit (.int .i64 243), .lit (.int .i64 273), .lit (.int .i64 304), .lit (.int .i64 334), .lit (.int .i64 365)]
def laid_math_bits_deBruijn32tab {H : Type} : DataW H := .agg [.lit (.int .u8 0), .lit (.int .u8 1), .lit (.int .u8 28), .lit (.int .u8 2), .lit (.int .u8 29), .lit (.int .u8 14), .lit (.int .u8 24), .lit (.int .u8 3), .lit (.int .u8 30), .lit (.int .u8 22), .lit (.int .u8 20), .lit (.int .u8 15), .lit (.int .u8 25), .lit (.int .u8 17), .lit (.int .u8 4), .lit (.int .u8 8), .lit (.int .u8 31), .lit (.int .u8 27), .lit (.int .u8 13), .lit (.int .u8 23), .lit (.int .u8 21), .lit (.int .u8 19), .lit (.int .u8 16), .lit (.int .u8 7), .lit (.int .u8 26), .lit (.int .u8 12), .lit (.int .u8 18), .lit (.int .u8 6), .lit (.int .u8 11), .lit (.int .u8 5), .lit (.int .u8 10), .lit (.int .u8 9)]
def laid_math_bits_deBruijn64tab {H : Type} : DataW H := .agg [.lit (.int .u8 0), .lit (.int .u8 1), .lit (.int .u8 56), .lit (.int .u8 2), .lit (.int .u8 57), .lit (.int .u8 49), .lit (.int .u8 28), .lit (.int .u8 3), .lit (.int .u8 61), .lit (.int .u8 58), .lit (.int .u8 42), .lit (.int .u8 50), .lit (.int .u8 38), .lit (.int .u8 29), .lit (.int .u8 17), .lit (.int .u8 4), .lit (.int .u8 62), .lit (.int .u8 47), .lit (.int .u8 59), .lit (.int .u8 36), .lit (.int .u8 45), .lit (.int .u8 43), .lit (.int .u8 51), .lit (.int .u8 22), .lit (.int .u8 53), .lit (.int .u8 39), .lit (.int .u8 33), .lit (.int .u8 30), .lit (.int .u8 24), .lit (.int .u8 18), .lit (.int .u8 12), .lit (.int .u8 5), .lit (.int .u8 63), .lit (.int .u8 55), .lit (.int .u8 48), .lit (.int .u8 27), .lit (.int .u8 60), .lit (.int .u8 41), .lit (.int .u8 37), .lit (.int .u8 16), .lit (.int .u8 46), .lit (.int .u8 35), .lit (.int .u8 44), .lit (.int .u8 21), .lit (.int .u8 52), .lit (.int .u8 32), .lit (.int .u8 23), .lit (.int .u8 11), .lit (.int .u8 54), .lit (.int .u8 26), .lit (.int .u8 40), .lit (.int .u8 15), .lit (.int .u8 34), .lit (.int .u8 20), .lit (.int .u8 31), .lit (.int .u8 10), .lit (.int .u8 25), .lit (.int .u8 14), .lit (.int .u8 19), .lit (.int .u8 9), .lit (.int .u8 13), .lit (.int .u8 8), .lit (.int .u8 7), .lit (.int .u8 6)]
def laid_internal_strconv_uint64pow10 {H : Type} : DataW H := .agg [.lit (.int .u64 1), .lit (.int .u64 10), .lit (.int .u64 100), .lit (.int .u64 1000), .lit (.int .u64 10000), .lit (.int .u64 100000), .lit (.int .u64 1000000), .lit (.int .u64 10000000), .lit (.int .u64 100000000), .lit (.int .u64 1000000000), .lit (.int .u64 10000000000), .lit (.int .u64 100000000000), .lit (.int .u64 1000000000000), .lit (.int .u64 10000000000000), .lit (.int .u64 100000000000000), .lit (.int .u64 1000000000000000), .lit (.int .u64 10000000000000000), .lit (.int .u64 100000000000000000), .lit (.int .u64 1000000000000000000), .lit (.int .u64 10000000000000000000)]

/-- 'quarterdaylaw06.WeekDoes': WHATEVER THE INPUT: true; the input reads as it did. -/
def weekDoesSpec : ChangeSpec := { name := "weekDoes", fn := fun _ => fun
  | [d1, d2, d3] => { results := [.lit (.bool true)], args := [d1, d2, d3] }
  | _ => none }
def weekDoesRow : OpenClaim := { program := "ytodpmdmfdnbehaadoor", sum := "3ad228b0e8cf8fdbaf1417d579af65ace62ec6f3b5386df67bfd855bb47d1b51", func := "quarterday/quarterdaylaw06.WeekDoes", spec := "weekDoes", recurses := true, named := ["quarterday/civil.beforeMonth"], apart := false, laid := [("quarterday/civil.beforeMonth", laid_quarterday_civil_beforeMonth)] }
def WeekDoesSaid : Prop := weekDoesRow.holds Tryd.pinned (OpenSpec.ofChange weekDoesSpec)

/-- ITS FALSE NEIGHBOUR: 'it returns false'. Refute it at one input. -/
def weekDoesWrong : ChangeSpec := { name := "weekDoes", fn := fun _ => fun
  | [d1, d2, d3] => { results := [.lit (.bool false)], args := [d1, d2, d3] }
  | _ => none }
def WeekDoesWrongFalsely : Prop := weekDoesRow.holds Tryd.pinned (OpenSpec.ofChange weekDoesWrong)

/-- 'quarterdaylaw06.WeekEnds': WHATEVER THE INPUT: true; the input reads as it did. -/
def weekEndsSpec : ChangeSpec := { name := "weekEnds", fn := fun _ => fun
  | [d1, d2, d3] => { results := [.lit (.bool true)], args := [d1, d2, d3] }
  | _ => none }
def weekEndsRow : OpenClaim := { program := "ytodpmdmfdnbehaadoor", sum := "3ad228b0e8cf8fdbaf1417d579af65ace62ec6f3b5386df67bfd855bb47d1b51", func := "quarterday/quarterdaylaw06.WeekEnds", spec := "weekEnds", recurses := true, named := ["quarterday/civil.beforeMonth"], apart := false, laid := [("quarterday/civil.beforeMonth", laid_quarterday_civil_beforeMonth)] }
def WeekEndsSaid : Prop := weekEndsRow.holds Tryd.pinned (OpenSpec.ofChange weekEndsSpec)

/-- ITS FALSE NEIGHBOUR: 'it returns false'. Refute it at one input. -/
def weekEndsWrong : ChangeSpec := { name := "weekEnds", fn := fun _ => fun
  | [d1, d2, d3] => { results := [.lit (.bool false)], args := [d1, d2, d3] }
  | _ => none }
def WeekEndsWrongFalsely : Prop := weekEndsRow.holds Tryd.pinned (OpenSpec.ofChange weekEndsWrong)

/-- 'quarterdaylaw06.WeekBack': WHATEVER THE INPUT: true; the input reads as it did. -/
def weekBackSpec : ChangeSpec := { name := "weekBack", fn := fun _ => fun
  | [d1, d2] => { results := [.lit (.bool true)], args := [d1, d2] }
  | _ => none }
def weekBackRow : OpenClaim := { program := "ytodpmdmfdnbehaadoor", sum := "3ad228b0e8cf8fdbaf1417d579af65ace62ec6f3b5386df67bfd855bb47d1b51", func := "quarterday/quarterdaylaw06.WeekBack", spec := "weekBack", recurses := true, named := ["quarterday/civil.beforeMonth"], apart := false, laid := [("quarterday/civil.beforeMonth", laid_quarterday_civil_beforeMonth)] }
def WeekBackSaid : Prop := weekBackRow.holds Tryd.pinned (OpenSpec.ofChange weekBackSpec)

/-- ITS FALSE NEIGHBOUR: 'it returns false'. Refute it at one input. -/
def weekBackWrong : ChangeSpec := { name := "weekBack", fn := fun _ => fun
  | [d1, d2] => { results := [.lit (.bool false)], args := [d1, d2] }
  | _ => none }
def WeekBackWrongFalsely : Prop := weekBackRow.holds Tryd.pinned (OpenSpec.ofChange weekBackWrong)

/-- 'quarterdaylaw06.WeekNext': WHATEVER THE INPUT: true; the input reads as it did. -/
def weekNextSpec : ChangeSpec := { name := "weekNext", fn := fun _ => fun
  | [d] => { results := [.lit (.bool true)], args := [d] }
  | _ => none }
def weekNextRow : OpenClaim := { program := "ytodpmdmfdnbehaadoor", sum := "3ad228b0e8cf8fdbaf1417d579af65ace62ec6f3b5386df67bfd855bb47d1b51", func := "quarterday/quarterdaylaw06.WeekNext", spec := "weekNext", recurses := true, named := ["quarterday/civil.beforeMonth"], apart := false, laid := [("quarterday/civil.beforeMonth", laid_quarterday_civil_beforeMonth)] }
def WeekNextSaid : Prop := weekNextRow.holds Tryd.pinned (OpenSpec.ofChange weekNextSpec)

/-- ITS FALSE NEIGHBOUR: 'it returns false'. Refute it at one input. -/
def weekNextWrong : ChangeSpec := { name := "weekNext", fn := fun _ => fun
  | [d] => { results := [.lit (.bool false)], args := [d] }
  | _ => none }
def WeekNextWrongFalsely : Prop := weekNextRow.holds Tryd.pinned (OpenSpec.ofChange weekNextWrong)

/-- 'quarterdaylaw06.WeekFirst': WHATEVER THE INPUT: true; the input reads as it did. -/
def weekFirstSpec : ChangeSpec := { name := "weekFirst", fn := fun _ => fun
  | [d] => { results := [.lit (.bool true)], args := [d] }
  | _ => none }
def weekFirstRow : OpenClaim := { program := "ytodpmdmfdnbehaadoor", sum := "3ad228b0e8cf8fdbaf1417d579af65ace62ec6f3b5386df67bfd855bb47d1b51", func := "quarterday/quarterdaylaw06.WeekFirst", spec := "weekFirst", recurses := true, named := ["quarterday/civil.beforeMonth"], apart := false, laid := [("quarterday/civil.beforeMonth", laid_quarterday_civil_beforeMonth)] }
def WeekFirstSaid : Prop := weekFirstRow.holds Tryd.pinned (OpenSpec.ofChange weekFirstSpec)

/-- ITS FALSE NEIGHBOUR: 'it returns false'. Refute it at one input. -/
def weekFirstWrong : ChangeSpec := { name := "weekFirst", fn := fun _ => fun
  | [d] => { results := [.lit (.bool false)], args := [d] }
  | _ => none }
def WeekFirstWrongFalsely : Prop := weekFirstRow.holds Tryd.pinned (OpenSpec.ofChange weekFirstWrong)

/-- 'quarterdaylaw06.WeekLast': WHATEVER THE INPUT: true; the input reads as it did. -/
def weekLastSpec : ChangeSpec := { name := "weekLast", fn := fun _ => fun
  | [d1, d2, d3] => { results := [.lit (.bool true)], args := [d1, d2, d3] }
  | _ => none }
def weekLastRow : OpenClaim := { program := "ytodpmdmfdnbehaadoor", sum := "3ad228b0e8cf8fdbaf1417d579af65ace62ec6f3b5386df67bfd855bb47d1b51", func := "quarterday/quarterdaylaw06.WeekLast", spec := "weekLast", recurses := true, named := ["quarterday/civil.beforeMonth"], apart := false, laid := [("quarterday/civil.beforeMonth", laid_quarterday_civil_beforeMonth)] }
def WeekLastSaid : Prop := weekLastRow.holds Tryd.pinned (OpenSpec.ofChange weekLastSpec)

/-- ITS FALSE NEIGHBOUR: 'it returns false'. Refute it at one input. -/
def weekLastWrong : ChangeSpec := { name := "weekLast", fn := fun _ => fun
  | [d1, d2, d3] => { results := [.lit (.bool false)], args := [d1, d2, d3] }
  | _ => none }
def WeekLastWrongFalsely : Prop := weekLastRow.holds Tryd.pinned (OpenSpec.ofChange weekLastWrong)

/-- 'quarterdaylaw06.WeekYears': WHATEVER THE INPUT: true; the input reads as it did. -/
def weekYearsSpec : ChangeSpec := { name := "weekYears", fn := fun _ => fun
  | [d1, d2, d3] => { results := [.lit (.bool true)], args := [d1, d2, d3] }
  | _ => none }
def weekYearsRow : OpenClaim := { program := "ytodpmdmfdnbehaadoor", sum := "3ad228b0e8cf8fdbaf1417d579af65ace62ec6f3b5386df67bfd855bb47d1b51", func := "quarterday/quarterdaylaw06.WeekYears", spec := "weekYears", recurses := true, named := ["quarterday/civil.beforeMonth"], apart := false, laid := [("quarterday/civil.beforeMonth", laid_quarterday_civil_beforeMonth)] }
def WeekYearsSaid : Prop := weekYearsRow.holds Tryd.pinned (OpenSpec.ofChange weekYearsSpec)

/-- ITS FALSE NEIGHBOUR: 'it returns false'. Refute it at one input. -/
def weekYearsWrong : ChangeSpec := { name := "weekYears", fn := fun _ => fun
  | [d1, d2, d3] => { results := [.lit (.bool false)], args := [d1, d2, d3] }
  | _ => none }
def WeekYearsWrongFalsely : Prop := weekYearsRow.holds Tryd.pinned (OpenSpec.ofChange weekYearsWrong)

/-- 'quarterdaylaw07.StampDoes': WHATEVER THE INPUT: true; the input reads as it did. -/
def stampDoesSpec : ChangeSpec := { name := "stampDoes", fn := fun _ => fun
  | [d1, d2] => { results := [.lit (.bool true)], args := [d1, d2] }
  | _ => none }
def stampDoesRow : OpenClaim := { program := "ytodpmdmfdnbehaadoor", sum := "3ad228b0e8cf8fdbaf1417d579af65ace62ec6f3b5386df67bfd855bb47d1b51", func := "quarterday/quarterdaylaw07.StampDoes", spec := "stampDoes", inPlace := ["internal/abi.NoEscape", "internal/bytealg.MakeNoZero"], recurses := true, named := ["quarterday/civil.beforeMonth", "internal/strconv.uint64pow10", "math/bits.deBruijn32tab", "math/bits.deBruijn64tab"], apart := false, laid := [("math/bits.deBruijn32tab", laid_math_bits_deBruijn32tab), ("math/bits.deBruijn64tab", laid_math_bits_deBruijn64tab), ("internal/strconv.uint64pow10", laid_internal_strconv_uint64pow10), ("quarterday/civil.beforeMonth", laid_quarterday_civil_beforeMonth)] }
def StampDoesSaid : Prop := stampDoesRow.holds Tryd.pinned (OpenSpec.ofChange stampDoesSpec)

/-- ITS FALSE NEIGHBOUR: 'it returns false'. Refute it at one input. -/
def stampDoesWrong : ChangeSpec := { name := "stampDoes", fn := fun _ => fun
  | [d1, d2] => { results := [.lit (.bool false)], args := [d1, d2] }
  | _ => none }
def StampDoesWrongFalsely : Prop := stampDoesRow.holds Tryd.pinned (OpenSpec.ofChange stampDoesWrong)

/-- 'quarterdaylaw07.StampBack': WHATEVER THE INPUT: true; the input reads as it did. -/
def stampBackSpec : ChangeSpec := { name := "stampBack", fn := fun _ => fun
  | [d1, d2] => { results := [.lit (.bool true)], args := [d1, d2] }
  | _ => none }
def stampBackRow : OpenClaim := { program := "ytodpmdmfdnbehaadoor", sum := "3ad228b0e8cf8fdbaf1417d579af65ace62ec6f3b5386df67bfd855bb47d1b51", func := "quarterday/quarterdaylaw07.StampBack", spec := "stampBack", inPlace := ["internal/abi.NoEscape", "internal/bytealg.MakeNoZero"], recurses := true, named := ["quarterday/civil.beforeMonth", "internal/strconv.uint64pow10", "math/bits.deBruijn32tab", "math/bits.deBruijn64tab"], apart := false, laid := [("math/bits.deBruijn32tab", laid_math_bits_deBruijn32tab), ("math/bits.deBruijn64tab", laid_math_bits_deBruijn64tab), ("internal/strconv.uint64pow10", laid_internal_strconv_uint64pow10), ("quarterday/civil.beforeMonth", laid_quarterday_civil_beforeMonth)] }
def StampBackSaid : Prop := stampBackRow.holds Tryd.pinned (OpenSpec.ofChange stampBackSpec)

/-- ITS FALSE NEIGHBOUR: 'it returns false'. Refute it at one input. -/
def stampBackWrong : ChangeSpec := { name := "stampBack", fn := fun _ => fun
  | [d1, d2] => { results := [.lit (.bool false)], args := [d1, d2] }
  | _ => none }
def StampBackWrongFalsely : Prop := stampBackRow.holds Tryd.pinned (OpenSpec.ofChange stampBackWrong)

/-- 'quarterdaylaw07.StampOrder': WHATEVER THE INPUT: true; the input reads as it did. -/
def stampOrderSpec : ChangeSpec := { name := "stampOrder", fn := fun _ => fun
  | [d1, d2] => { results := [.lit (.bool true)], args := [d1, d2] }
  | _ => none }
def stampOrderRow : OpenClaim := { program := "ytodpmdmfdnbehaadoor", sum := "3ad228b0e8cf8fdbaf1417d579af65ace62ec6f3b5386df67bfd855bb47d1b51", func := "quarterday/quarterdaylaw07.StampOrder", spec := "stampOrder", inPlace := ["internal/abi.NoEscape", "internal/bytealg.MakeNoZero"], recurses := true, named := ["quarterday/civil.beforeMonth", "internal/strconv.uint64pow10", "math/bits.deBruijn32tab", "math/bits.deBruijn64tab"], apart := false, laid := [("math/bits.deBruijn32tab", laid_math_bits_deBruijn32tab), ("math/bits.deBruijn64tab", laid_math_bits_deBruijn64tab), ("internal/strconv.uint64pow10", laid_internal_strconv_uint64pow10), ("quarterday/civil.beforeMonth", laid_quarterday_civil_beforeMonth)] }
def StampOrderSaid : Prop := stampOrderRow.holds Tryd.pinned (OpenSpec.ofChange stampOrderSpec)

/-- ITS FALSE NEIGHBOUR: 'it returns false'. Refute it at one input. -/
def stampOrderWrong : ChangeSpec := { name := "stampOrder", fn := fun _ => fun
  | [d1, d2] => { results := [.lit (.bool false)], args := [d1, d2] }
  | _ => none }
def StampOrderWrongFalsely : Prop := stampOrderRow.holds Tryd.pinned (OpenSpec.ofChange stampOrderWrong)

/-- 'quarterdaylaw07.StampParts': WHATEVER THE INPUT: true; the input reads as it did. -/
def stampPartsSpec : ChangeSpec := { name := "stampParts", fn := fun _ => fun
  | [d1, d2, d3] => { results := [.lit (.bool true)], args := [d1, d2, d3] }
  | _ => none }
def stampPartsRow : OpenClaim := { program := "ytodpmdmfdnbehaadoor", sum := "3ad228b0e8cf8fdbaf1417d579af65ace62ec6f3b5386df67bfd855bb47d1b51", func := "quarterday/quarterdaylaw07.StampParts", spec := "stampParts", inPlace := ["internal/abi.NoEscape", "internal/bytealg.MakeNoZero"], recurses := true, named := ["quarterday/civil.beforeMonth", "internal/strconv.uint64pow10", "math/bits.deBruijn32tab", "math/bits.deBruijn64tab"], apart := false, laid := [("math/bits.deBruijn32tab", laid_math_bits_deBruijn32tab), ("math/bits.deBruijn64tab", laid_math_bits_deBruijn64tab), ("internal/strconv.uint64pow10", laid_internal_strconv_uint64pow10), ("quarterday/civil.beforeMonth", laid_quarterday_civil_beforeMonth)] }
def StampPartsSaid : Prop := stampPartsRow.holds Tryd.pinned (OpenSpec.ofChange stampPartsSpec)

/-- ITS FALSE NEIGHBOUR: 'it returns false'. Refute it at one input. -/
def stampPartsWrong : ChangeSpec := { name := "stampParts", fn := fun _ => fun
  | [d1, d2, d3] => { results := [.lit (.bool false)], args := [d1, d2, d3] }
  | _ => none }
def StampPartsWrongFalsely : Prop := stampPartsRow.holds Tryd.pinned (OpenSpec.ofChange stampPartsWrong)

/-- 'quarterdaylaw07.StampForm': WHATEVER THE INPUT: true; the input reads as it did. -/
def stampFormSpec : ChangeSpec := { name := "stampForm", fn := fun _ => fun
  | [d1, d2, d3] => { results := [.lit (.bool true)], args := [d1, d2, d3] }
  | _ => none }
def stampFormRow : OpenClaim := { program := "ytodpmdmfdnbehaadoor", sum := "3ad228b0e8cf8fdbaf1417d579af65ace62ec6f3b5386df67bfd855bb47d1b51", func := "quarterday/quarterdaylaw07.StampForm", spec := "stampForm", inPlace := ["internal/abi.NoEscape", "internal/bytealg.MakeNoZero"], recurses := true, named := ["quarterday/civil.beforeMonth", "internal/strconv.uint64pow10", "math/bits.deBruijn32tab", "math/bits.deBruijn64tab"], apart := false, laid := [("math/bits.deBruijn32tab", laid_math_bits_deBruijn32tab), ("math/bits.deBruijn64tab", laid_math_bits_deBruijn64tab), ("internal/strconv.uint64pow10", laid_internal_strconv_uint64pow10), ("quarterday/civil.beforeMonth", laid_quarterday_civil_beforeMonth)] }
def StampFormSaid : Prop := stampFormRow.holds Tryd.pinned (OpenSpec.ofChange stampFormSpec)

/-- ITS FALSE NEIGHBOUR: 'it returns false'. Refute it at one input. -/
def stampFormWrong : ChangeSpec := { name := "stampForm", fn := fun _ => fun
  | [d1, d2, d3] => { results := [.lit (.bool false)], args := [d1, d2, d3] }
  | _ => none }
def StampFormWrongFalsely : Prop := stampFormRow.holds Tryd.pinned (OpenSpec.ofChange stampFormWrong)

/- THE SECOND FORM. 'bulk': how many values and letters a reading holds, each counted each time it is reached (what is shared counts as often as it is met; a slice's spare places count too). A statement '..UptoSaid' is the law's where the arguments, and the package variables that the reading takes, are together of bulk at most 1048576: NARROWER than '..Said'. Prove '..Said' where nothing that the law and all that it calls make is longer than what came in: it says more and counts as full. Else prove '..UptoSaid'. A law counts once. -/
mutual
def uptoBulk {H : Type} : DataW H → Nat
  | .lit (.string bytes) => bytes.length + 1
  | .lit _ => 1
  | .nil => 1
  | .ptr d => uptoBulk d + 1
  | .slice elems spare => uptoBulkAll elems + uptoBulkAll spare + 1
  | .agg parts => uptoBulkAll parts + 1
  | .iface _ d => uptoBulk d + 1
  | .map entries => uptoBulkEntries entries + 1
  | .held _ => 1
def uptoBulkAll {H : Type} : List (DataW H) → Nat
  | [] => 0
  | d :: r => uptoBulk d + uptoBulkAll r
def uptoBulkEntries {H : Type} : List (Lit × DataW H) → Nat
  | [] => 0
  | x :: r => uptoBulkEntry x + uptoBulkEntries r
def uptoBulkEntry {H : Type} : Lit × DataW H → Nat
  | (.string bytes, d) => bytes.length + uptoBulk d + 1
  | (_, d) => uptoBulk d + 1
 end
def uptoSmall : (H : Type) → List (DataW H) → Bool := fun _ ds => decide (uptoBulkAll ds ≤ 1048576)
def OpenSpec.upto (s : _root_.Go.ChangeSpec) : _root_.Go.OpenSpec := { _root_.Go.OpenSpec.ofChange s with cond := some uptoSmall }

/-- 'quarterdaylaw06.WeekDoes', WHERE WHAT IT READS IS OF BULK AT MOST 1048576: true; the input reads as it did. -/
def weekDoesUptoRow : OpenClaim := { program := "ytodpmdmfdnbehaadoor", sum := "3ad228b0e8cf8fdbaf1417d579af65ace62ec6f3b5386df67bfd855bb47d1b51", func := "quarterday/quarterdaylaw06.WeekDoes", spec := "weekDoes", recurses := true, named := ["quarterday/civil.beforeMonth"], apart := false, laid := [("quarterday/civil.beforeMonth", laid_quarterday_civil_beforeMonth)], narrowed := true }
def WeekDoesUptoSaid : Prop := weekDoesUptoRow.holds Tryd.pinned (OpenSpec.upto weekDoesSpec)

/-- 'quarterdaylaw06.WeekEnds', WHERE WHAT IT READS IS OF BULK AT MOST 1048576: true; the input reads as it did. -/
def weekEndsUptoRow : OpenClaim := { program := "ytodpmdmfdnbehaadoor", sum := "3ad228b0e8cf8fdbaf1417d579af65ace62ec6f3b5386df67bfd855bb47d1b51", func := "quarterday/quarterdaylaw06.WeekEnds", spec := "weekEnds", recurses := true, named := ["quarterday/civil.beforeMonth"], apart := false, laid := [("quarterday/civil.beforeMonth", laid_quarterday_civil_beforeMonth)], narrowed := true }
def WeekEndsUptoSaid : Prop := weekEndsUptoRow.holds Tryd.pinned (OpenSpec.upto weekEndsSpec)

/-- 'quarterdaylaw06.WeekBack', WHERE WHAT IT READS IS OF BULK AT MOST 1048576: true; the input reads as it did. -/
def weekBackUptoRow : OpenClaim := { program := "ytodpmdmfdnbehaadoor", sum := "3ad228b0e8cf8fdbaf1417d579af65ace62ec6f3b5386df67bfd855bb47d1b51", func := "quarterday/quarterdaylaw06.WeekBack", spec := "weekBack", recurses := true, named := ["quarterday/civil.beforeMonth"], apart := false, laid := [("quarterday/civil.beforeMonth", laid_quarterday_civil_beforeMonth)], narrowed := true }
def WeekBackUptoSaid : Prop := weekBackUptoRow.holds Tryd.pinned (OpenSpec.upto weekBackSpec)

/-- 'quarterdaylaw06.WeekNext', WHERE WHAT IT READS IS OF BULK AT MOST 1048576: true; the input reads as it did. -/
def weekNextUptoRow : OpenClaim := { program := "ytodpmdmfdnbehaadoor", sum := "3ad228b0e8cf8fdbaf1417d579af65ace62ec6f3b5386df67bfd855bb47d1b51", func := "quarterday/quarterdaylaw06.WeekNext", spec := "weekNext", recurses := true, named := ["quarterday/civil.beforeMonth"], apart := false, laid := [("quarterday/civil.beforeMonth", laid_quarterday_civil_beforeMonth)], narrowed := true }
def WeekNextUptoSaid : Prop := weekNextUptoRow.holds Tryd.pinned (OpenSpec.upto weekNextSpec)

/-- 'quarterdaylaw06.WeekFirst', WHERE WHAT IT READS IS OF BULK AT MOST 1048576: true; the input reads as it did. -/
def weekFirstUptoRow : OpenClaim := { program := "ytodpmdmfdnbehaadoor", sum := "3ad228b0e8cf8fdbaf1417d579af65ace62ec6f3b5386df67bfd855bb47d1b51", func := "quarterday/quarterdaylaw06.WeekFirst", spec := "weekFirst", recurses := true, named := ["quarterday/civil.beforeMonth"], apart := false, laid := [("quarterday/civil.beforeMonth", laid_quarterday_civil_beforeMonth)], narrowed := true }
def WeekFirstUptoSaid : Prop := weekFirstUptoRow.holds Tryd.pinned (OpenSpec.upto weekFirstSpec)

/-- 'quarterdaylaw06.WeekLast', WHERE WHAT IT READS IS OF BULK AT MOST 1048576: true; the input reads as it did. -/
def weekLastUptoRow : OpenClaim := { program := "ytodpmdmfdnbehaadoor", sum := "3ad228b0e8cf8fdbaf1417d579af65ace62ec6f3b5386df67bfd855bb47d1b51", func := "quarterday/quarterdaylaw06.WeekLast", spec := "weekLast", recurses := true, named := ["quarterday/civil.beforeMonth"], apart := false, laid := [("quarterday/civil.beforeMonth", laid_quarterday_civil_beforeMonth)], narrowed := true }
def WeekLastUptoSaid : Prop := weekLastUptoRow.holds Tryd.pinned (OpenSpec.upto weekLastSpec)

/-- 'quarterdaylaw06.WeekYears', WHERE WHAT IT READS IS OF BULK AT MOST 1048576: true; the input reads as it did. -/
def weekYearsUptoRow : OpenClaim := { program := "ytodpmdmfdnbehaadoor", sum := "3ad228b0e8cf8fdbaf1417d579af65ace62ec6f3b5386df67bfd855bb47d1b51", func := "quarterday/quarterdaylaw06.WeekYears", spec := "weekYears", recurses := true, named := ["quarterday/civil.beforeMonth"], apart := false, laid := [("quarterday/civil.beforeMonth", laid_quarterday_civil_beforeMonth)], narrowed := true }
def WeekYearsUptoSaid : Prop := weekYearsUptoRow.holds Tryd.pinned (OpenSpec.upto weekYearsSpec)

/-- 'quarterdaylaw07.StampDoes', WHERE WHAT IT READS IS OF BULK AT MOST 1048576: true; the input reads as it did. -/
def stampDoesUptoRow : OpenClaim := { program := "ytodpmdmfdnbehaadoor", sum := "3ad228b0e8cf8fdbaf1417d579af65ace62ec6f3b5386df67bfd855bb47d1b51", func := "quarterday/quarterdaylaw07.StampDoes", spec := "stampDoes", inPlace := ["internal/abi.NoEscape", "internal/bytealg.MakeNoZero"], recurses := true, named := ["quarterday/civil.beforeMonth", "internal/strconv.uint64pow10", "math/bits.deBruijn32tab", "math/bits.deBruijn64tab"], apart := false, laid := [("math/bits.deBruijn32tab", laid_math_bits_deBruijn32tab), ("math/bits.deBruijn64tab", laid_math_bits_deBruijn64tab), ("internal/strconv.uint64pow10", laid_internal_strconv_uint64pow10), ("quarterday/civil.beforeMonth", laid_quarterday_civil_beforeMonth)], narrowed := true }
def StampDoesUptoSaid : Prop := stampDoesUptoRow.holds Tryd.pinned (OpenSpec.upto stampDoesSpec)

/-- 'quarterdaylaw07.StampBack', WHERE WHAT IT READS IS OF BULK AT MOST 1048576: true; the input reads as it did. -/
def stampBackUptoRow : OpenClaim := { program := "ytodpmdmfdnbehaadoor", sum := "3ad228b0e8cf8fdbaf1417d579af65ace62ec6f3b5386df67bfd855bb47d1b51", func := "quarterday/quarterdaylaw07.StampBack", spec := "stampBack", inPlace := ["internal/abi.NoEscape", "internal/bytealg.MakeNoZero"], recurses := true, named := ["quarterday/civil.beforeMonth", "internal/strconv.uint64pow10", "math/bits.deBruijn32tab", "math/bits.deBruijn64tab"], apart := false, laid := [("math/bits.deBruijn32tab", laid_math_bits_deBruijn32tab), ("math/bits.deBruijn64tab", laid_math_bits_deBruijn64tab), ("internal/strconv.uint64pow10", laid_internal_strconv_uint64pow10), ("quarterday/civil.beforeMonth", laid_quarterday_civil_beforeMonth)], narrowed := true }
def StampBackUptoSaid : Prop := stampBackUptoRow.holds Tryd.pinned (OpenSpec.upto stampBackSpec)

/-- 'quarterdaylaw07.StampOrder', WHERE WHAT IT READS IS OF BULK AT MOST 1048576: true; the input reads as it did. -/
def stampOrderUptoRow : OpenClaim := { program := "ytodpmdmfdnbehaadoor", sum := "3ad228b0e8cf8fdbaf1417d579af65ace62ec6f3b5386df67bfd855bb47d1b51", func := "quarterday/quarterdaylaw07.StampOrder", spec := "stampOrder", inPlace := ["internal/abi.NoEscape", "internal/bytealg.MakeNoZero"], recurses := true, named := ["quarterday/civil.beforeMonth", "internal/strconv.uint64pow10", "math/bits.deBruijn32tab", "math/bits.deBruijn64tab"], apart := false, laid := [("math/bits.deBruijn32tab", laid_math_bits_deBruijn32tab), ("math/bits.deBruijn64tab", laid_math_bits_deBruijn64tab), ("internal/strconv.uint64pow10", laid_internal_strconv_uint64pow10), ("quarterday/civil.beforeMonth", laid_quarterday_civil_beforeMonth)], narrowed := true }
def StampOrderUptoSaid : Prop := stampOrderUptoRow.holds Tryd.pinned (OpenSpec.upto stampOrderSpec)

/-- 'quarterdaylaw07.StampParts', WHERE WHAT IT READS IS OF BULK AT MOST 1048576: true; the input reads as it did. -/
def stampPartsUptoRow : OpenClaim := { program := "ytodpmdmfdnbehaadoor", sum := "3ad228b0e8cf8fdbaf1417d579af65ace62ec6f3b5386df67bfd855bb47d1b51", func := "quarterday/quarterdaylaw07.StampParts", spec := "stampParts", inPlace := ["internal/abi.NoEscape", "internal/bytealg.MakeNoZero"], recurses := true, named := ["quarterday/civil.beforeMonth", "internal/strconv.uint64pow10", "math/bits.deBruijn32tab", "math/bits.deBruijn64tab"], apart := false, laid := [("math/bits.deBruijn32tab", laid_math_bits_deBruijn32tab), ("math/bits.deBruijn64tab", laid_math_bits_deBruijn64tab), ("internal/strconv.uint64pow10", laid_internal_strconv_uint64pow10), ("quarterday/civil.beforeMonth", laid_quarterday_civil_beforeMonth)], narrowed := true }
def StampPartsUptoSaid : Prop := stampPartsUptoRow.holds Tryd.pinned (OpenSpec.upto stampPartsSpec)

/-- 'quarterdaylaw07.StampForm', WHERE WHAT IT READS IS OF BULK AT MOST 1048576: true; the input reads as it did. -/
def stampFormUptoRow : OpenClaim := { program := "ytodpmdmfdnbehaadoor", sum := "3ad228b0e8cf8fdbaf1417d579af65ace62ec6f3b5386df67bfd855bb47d1b51", func := "quarterday/quarterdaylaw07.StampForm", spec := "stampForm", inPlace := ["internal/abi.NoEscape", "internal/bytealg.MakeNoZero"], recurses := true, named := ["quarterday/civil.beforeMonth", "internal/strconv.uint64pow10", "math/bits.deBruijn32tab", "math/bits.deBruijn64tab"], apart := false, laid := [("math/bits.deBruijn32tab", laid_math_bits_deBruijn32tab), ("math/bits.deBruijn64tab", laid_math_bits_deBruijn64tab), ("internal/strconv.uint64pow10", laid_internal_strconv_uint64pow10), ("quarterday/civil.beforeMonth", laid_quarterday_civil_beforeMonth)], narrowed := true }
def StampFormUptoSaid : Prop := stampFormUptoRow.holds Tryd.pinned (OpenSpec.upto stampFormSpec)

end Rows
end Go.Proofs.YtodpmdmfdnbehaaDoor
