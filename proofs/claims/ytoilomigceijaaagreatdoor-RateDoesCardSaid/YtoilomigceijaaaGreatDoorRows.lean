/-
  NARROWER THAN 'FOR EVERY INPUT', by the rows' own cells (each row's printed sentence says how): RateDoes: laid.
  DERIVED. THE GIVEN ROWS OF THIS SEAT. 1 by the template 'for every input the law returns true; each argument reads behind the call as it read before'; 0 by the template 'total and deterministic' (their statements: YtoilomigceijaaaGreatDoorTotals.lean).
  GIVEN WITH THE SEED: the statements are not yours to turn. If you find one false, say at which input.
  Laid BY PROGRAM, IN A SANDBOX (cutbox-rows.mjs): the forced cells as the released guide's own fill.sh prints them over the translation 182c849617b9c436… (all of the seat's roots in one cut). By AI agents, Wed Nov 11 2026. No macro, syntax, notation, axiom, sorry.
-/
import Derived.Test.YtoilomigceijaaaGreatDoorChecked
import GoSem.Claim
import GoSem.ClaimJoined
import GoSem.ClaimMapViews
import Derived.JoinedTies
import Derived.KernelRfl
namespace Go.Proofs.YtoilomigceijaaaGreatDoor
/- THE CELL 'sum', in the pinned program and in every row, IS THE sha256 OF THE DUMP (.gsa) THAT YtoilomigceijaaaGreatDoorProg.lean LOADS. Nothing in Lean hashes anything: it is a label: what it is worth is what the hold of that sum in a sandbox is worth. -/
noncomputable def Tryz.pinned : Pinned := { name := "ytoilomigceijaaagreatdoor", sum := "182c849617b9c4366906adbb8161a7f2e89c2d74f19899d174c97fd9aacab3d2", checked := Tryz.checked }
namespace Rows
def none {H : Type} : Left H := { results := [], args := [] }

/- WHAT THE LISTED PACKAGE-LEVEL VARIABLES READ AS WHEN THE CALL BEGINS. Each datum BY PROGRAM (the guide's laid-datum.mjs) off the statement by which the dump's own 'gosem.cut.vars' lays the variable. In a bare row this is a premise. The card (YtoilomigceijaaaGreatDoorCards.lean) ties it to the program's text. -/
def laid_quarterday_civil_beforeMonth {H : Type} : DataW H := .agg [.lit (.int .i64 0), .lit (.int .i64 31), .lit (.int .i64 59), .lit (.int .i64 90), .lit (.int .i64 120), .lit (.int .i64 151), .lit (.int .i64 181), .lit (.int .i64 212), .lit (.int .i64 243), .lit (.int .i64 273), .lit (.int .i64 304), .lit (.int .i64 334), .lit (.int .i64 365)]
def laid_quarterday_field_dayNames {H : Type} : DataW H := .slice [.lit (.string [109, 111, 110]), .lit (.string [116, 117, 101]), .lit (.string [119, 101, 100]), .lit (.string [116, 104, 117]), .lit (.string [102, 114, 105]), .lit (.string [115, 97, 116]), .lit (.string [115, 117, 110])] []
def laid_quarterday_field_monthNames {H : Type} : DataW H := .slice [.lit (.string [106, 97, 110]), .lit (.string [102, 101, 98]), .lit (.string [109, 97, 114]), .lit (.string [97, 112, 114]), .lit (.string [109, 97, 121]), .lit (.string [106, 117, 110]), .lit (.string [106, 117, 108]), .lit (.string [97, 117, 103]), .lit (.string [115, 101, 112]), .lit (.string [111, 99, 116]), .lit (.string [110, 111, 118]), .lit (.string [100, 101, 99])] []
def laid_quarterday_field_policyNames {H : Type} : DataW H := .slice [.lit (.string [115, 116, 97, 114, 116]), .lit (.string [115, 104, 105, 102, 116]), .lit (.string [100, 114, 111, 112]), .lit (.string [99, 108, 97, 109, 112])] []
def laid_quarterday_field_patterns {H : Type} : DataW H := .slice [.agg [.lit (.int .i64 5), .lit (.int .i64 4), .lit (.int .i64 4)], .agg [.lit (.int .i64 4), .lit (.int .i64 5), .lit (.int .i64 4)], .agg [.lit (.int .i64 4), .lit (.int .i64 4), .lit (.int .i64 5)]] []
def laid_quarterday_field_cycles {H : Type} : DataW H := .slice [.lit (.int .i64 1), .lit (.int .i64 2), .lit (.int .i64 4)] []

/-- 'quarterdaylaw21.RateDoes': WHATEVER THE INPUT: true; the input reads as it did. -/
def rateDoesSpec : ChangeSpec := { name := "rateDoes", fn := fun _ => fun
  | [d1, d2, d3, d4] => { results := [.lit (.bool true)], args := [d1, d2, d3, d4] }
  | _ => none }
def rateDoesRow : OpenClaim := { program := "ytoilomigceijaaagreatdoor", sum := "182c849617b9c4366906adbb8161a7f2e89c2d74f19899d174c97fd9aacab3d2", func := "quarterday/quarterdaylaw21.RateDoes", spec := "rateDoes", unfollowed := true, recurses := true, named := ["quarterday/field.dayNames", "quarterday/field.monthNames", "quarterday/field.patterns", "quarterday/field.cycles", "quarterday/field.policyNames", "quarterday/civil.beforeMonth"], apart := false, laid := [("quarterday/civil.beforeMonth", laid_quarterday_civil_beforeMonth), ("quarterday/field.dayNames", laid_quarterday_field_dayNames), ("quarterday/field.monthNames", laid_quarterday_field_monthNames), ("quarterday/field.policyNames", laid_quarterday_field_policyNames), ("quarterday/field.patterns", laid_quarterday_field_patterns), ("quarterday/field.cycles", laid_quarterday_field_cycles)] }
def RateDoesSaid : Prop := rateDoesRow.holds Tryz.pinned (OpenSpec.ofChange rateDoesSpec)

/-- ITS FALSE NEIGHBOUR: 'it returns false'. Refute it at one input. -/
def rateDoesWrong : ChangeSpec := { name := "rateDoes", fn := fun _ => fun
  | [d1, d2, d3, d4] => { results := [.lit (.bool false)], args := [d1, d2, d3, d4] }
  | _ => none }
def RateDoesWrongFalsely : Prop := rateDoesRow.holds Tryz.pinned (OpenSpec.ofChange rateDoesWrong)

/- THE SECOND FORM. 'bulk': how many values and letters a reading holds, each counted each time it is reached (what is shared counts as often as it is met; a slice's spare places count too). A statement '..UptoSaid' is the law's where the arguments, and the package variables that the reading takes, are together of bulk at most 1048576: NARROWER than '..Said'. Prove '..Said' where nothing that the law and all that it calls make is longer than what came in: it says more and counts as full. Else prove '..UptoSaid'. A law counts once. -/
mutual
def uptoBulk {H : Type} : DataW H → Nat
  | .lit (.string bytes) => bytes.length + 1
  | .lit _ => 1
  | .nil => 1
  | .ptr d => uptoBulk d + 1
  | .slice elems spare => uptoBulkAll elems + uptoBulkAll spare + 1
  | .agg parts => uptoBulkAll parts + 1
  | .iface _ d => uptoBulk d + 1
  | .map entries => uptoBulkEntries entries + 1
  | .held _ => 1
def uptoBulkAll {H : Type} : List (DataW H) → Nat
  | [] => 0
  | d :: r => uptoBulk d + uptoBulkAll r
def uptoBulkEntries {H : Type} : List (Lit × DataW H) → Nat
  | [] => 0
  | x :: r => uptoBulkEntry x + uptoBulkEntries r
def uptoBulkEntry {H : Type} : Lit × DataW H → Nat
  | (.string bytes, d) => bytes.length + uptoBulk d + 1
  | (_, d) => uptoBulk d + 1
 end
def uptoSmall : (H : Type) → List (DataW H) → Bool := fun _ ds => decide (uptoBulkAll ds ≤ 1048576)
def OpenSpec.upto (s : _root_.Go.ChangeSpec) : _root_.Go.OpenSpec := { _root_.Go.OpenSpec.ofChange s with cond := some uptoSmall }

/-- 'quarterdaylaw21.RateDoes', WHERE WHAT IT READS IS OF BULK AT MOST 1048576: true; the input reads as it did. -/
def rateDoesUptoRow : OpenClaim := { program := "ytoilomigceijaaagreatdoor", sum := "182c849617b9c4366906adbb8161a7f2e89c2d74f19899d174c97fd9aacab3d2", func := "quarterday/quarterdaylaw21.RateDoes", spec := "rateDoes", unfollowed := true, recurses := true, named := ["quarterday/field.dayNames", "quarterday/field.monthNames", "quarterday/field.patterns", "quarterday/field.cycles", "quarterday/field.policyNames", "quarterday/civil.beforeMonth"], apart := false, laid := [("quarterday/civil.beforeMonth", laid_quarterday_civil_beforeMonth), ("quarterday/field.dayNames", laid_quarterday_field_dayNames), ("quarterday/field.monthNames", laid_quarterday_field_monthNames), ("quarterday/field.policyNames", laid_quarterday_field_policyNames), ("quarterday/field.patterns", laid_quarterday_field_patterns), ("quarterday/field.cycles", laid_quarterday_field_cycles)], narrowed := true }
def RateDoesUptoSaid : Prop := rateDoesUptoRow.holds Tryz.pinned (OpenSpec.upto rateDoesSpec)

end Rows
end Go.Proofs.YtoilomigceijaaaGreatDoor
