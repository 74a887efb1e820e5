/-
  NARROWER THAN 'FOR EVERY INPUT', by the rows' own cells (each row's printed sentence says how): LabelDoes: laid · LabelNumbers: laid · LabelBack: laid · LabelOrder: laid · LabelDecimal: laid · LabelOver: laid.
  DERIVED. THE GIVEN ROWS OF THIS SEAT. 6 by the template 'for every input the law returns true; each argument reads behind the call as it read before'; 0 by the template 'total and deterministic' (their statements: YtfjckgnclhpmcaaDoorTotals.lean).
  GIVEN WITH THE SEED: the statements are not yours to turn. If you find one false, say at which input.
  Laid BY PROGRAM, IN A SANDBOX (cutbox-rows.mjs): the forced cells as the released guide's own fill.sh prints them over the translation 181091996ef1f419… (all of the seat's roots in one cut). By AI agents, Wed Nov 11 2026. No macro, syntax, notation, axiom, sorry.
-/
import Derived.Test.YtfjckgnclhpmcaaDoorChecked
import GoSem.Claim
import GoSem.ClaimJoined
import GoSem.ClaimMapViews
import Derived.JoinedTies
import Derived.KernelRfl
namespace Go.Proofs.YtfjckgnclhpmcaaDoor
/- THE CELL 'sum', in the pinned program and in every row, IS THE sha256 OF THE DUMP (.gsa) THAT YtfjckgnclhpmcaaDoorProg.lean LOADS. Nothing in Lean hashes anything: it is a label: what it is worth is what the hold of that sum in a sandbox is worth. -/
noncomputable def Tryd.pinned : Pinned := { name := "ytfjckgnclhpmcaadoor", sum := "181091996ef1f419b4829825cbb1fd211c7908cd71c56de20d055d55aa908474", checked := Tryd.checked }
namespace Rows
def none {H : Type} : Left H := { results := [], args := [] }

/- WHAT THE LISTED PACKAGE-LEVEL VARIABLES READ AS WHEN THE CALL BEGINS. Each datum BY PROGRAM (the guide's laid-datum.mjs) off the statement by which the dump's own 'gosem.cut.vars' lays the variable. In a bare row this is a premise. The card (YtfjckgnclhpmcaaDoorCards.lean) ties it to the program's text. -/
def laid_quarterday_label_levels {H : Type} : DataW H := .agg [.agg [.lit (.string [121, 101, 97, 114]), .lit (.string []), .lit (.int .i64 0), .lit (.int .i64 1)], .agg [.lit (.string [104, 97, 108, 102]), .lit (.string [45, 72]), .lit (.int .i64 1), .lit (.int .i64 2)], .agg [.lit (.string [113, 117, 97, 114, 116, 101, 114]), .lit (.string [45, 81]), .lit (.int .i64 1), .lit (.int .i64 4)], .agg [.lit (.string [112, 101, 114, 105, 111, 100]), .lit (.string [45, 80]), .lit (.int .i64 2), .lit (.int .i64 52)], .agg [.lit (.string [119, 101, 101, 107]), .lit (.string [45, 87]), .lit (.int .i64 2), .lit (.int .i64 60)]]

/-- 'quarterdaylaw18.LabelDoes': WHATEVER THE INPUT: true; the input reads as it did. -/
def labelDoesSpec : ChangeSpec := { name := "labelDoes", fn := fun _ => fun
  | [d1, d2] => { results := [.lit (.bool true)], args := [d1, d2] }
  | _ => none }
def labelDoesRow : OpenClaim := { program := "ytfjckgnclhpmcaadoor", sum := "181091996ef1f419b4829825cbb1fd211c7908cd71c56de20d055d55aa908474", func := "quarterday/quarterdaylaw18.LabelDoes", spec := "labelDoes", named := ["quarterday/label.levels"], apart := false, laid := [("quarterday/label.levels", laid_quarterday_label_levels)] }
def LabelDoesSaid : Prop := labelDoesRow.holds Tryd.pinned (OpenSpec.ofChange labelDoesSpec)

/-- ITS FALSE NEIGHBOUR: 'it returns false'. Refute it at one input. -/
def labelDoesWrong : ChangeSpec := { name := "labelDoes", fn := fun _ => fun
  | [d1, d2] => { results := [.lit (.bool false)], args := [d1, d2] }
  | _ => none }
def LabelDoesWrongFalsely : Prop := labelDoesRow.holds Tryd.pinned (OpenSpec.ofChange labelDoesWrong)

/-- 'quarterdaylaw18.LabelNumbers': WHATEVER THE INPUT: true; the input reads as it did. -/
def labelNumbersSpec : ChangeSpec := { name := "labelNumbers", fn := fun _ => fun
  | [d] => { results := [.lit (.bool true)], args := [d] }
  | _ => none }
def labelNumbersRow : OpenClaim := { program := "ytfjckgnclhpmcaadoor", sum := "181091996ef1f419b4829825cbb1fd211c7908cd71c56de20d055d55aa908474", func := "quarterday/quarterdaylaw18.LabelNumbers", spec := "labelNumbers", named := ["quarterday/label.levels"], apart := false, laid := [("quarterday/label.levels", laid_quarterday_label_levels)] }
def LabelNumbersSaid : Prop := labelNumbersRow.holds Tryd.pinned (OpenSpec.ofChange labelNumbersSpec)

/-- ITS FALSE NEIGHBOUR: 'it returns false'. Refute it at one input. -/
def labelNumbersWrong : ChangeSpec := { name := "labelNumbers", fn := fun _ => fun
  | [d] => { results := [.lit (.bool false)], args := [d] }
  | _ => none }
def LabelNumbersWrongFalsely : Prop := labelNumbersRow.holds Tryd.pinned (OpenSpec.ofChange labelNumbersWrong)

/-- 'quarterdaylaw18.LabelBack': WHATEVER THE INPUT: true; the input reads as it did. -/
def labelBackSpec : ChangeSpec := { name := "labelBack", fn := fun _ => fun
  | [d1, d2] => { results := [.lit (.bool true)], args := [d1, d2] }
  | _ => none }
def labelBackRow : OpenClaim := { program := "ytfjckgnclhpmcaadoor", sum := "181091996ef1f419b4829825cbb1fd211c7908cd71c56de20d055d55aa908474", func := "quarterday/quarterdaylaw18.LabelBack", spec := "labelBack", named := ["quarterday/label.levels"], apart := false, laid := [("quarterday/label.levels", laid_quarterday_label_levels)] }
def LabelBackSaid : Prop := labelBackRow.holds Tryd.pinned (OpenSpec.ofChange labelBackSpec)

/-- ITS FALSE NEIGHBOUR: 'it returns false'. Refute it at one input. -/
def labelBackWrong : ChangeSpec := { name := "labelBack", fn := fun _ => fun
  | [d1, d2] => { results := [.lit (.bool false)], args := [d1, d2] }
  | _ => none }
def LabelBackWrongFalsely : Prop := labelBackRow.holds Tryd.pinned (OpenSpec.ofChange labelBackWrong)

/-- 'quarterdaylaw18.LabelOrder': WHATEVER THE INPUT: true; the input reads as it did. -/
def labelOrderSpec : ChangeSpec := { name := "labelOrder", fn := fun _ => fun
  | [d1, d2] => { results := [.lit (.bool true)], args := [d1, d2] }
  | _ => none }
def labelOrderRow : OpenClaim := { program := "ytfjckgnclhpmcaadoor", sum := "181091996ef1f419b4829825cbb1fd211c7908cd71c56de20d055d55aa908474", func := "quarterday/quarterdaylaw18.LabelOrder", spec := "labelOrder", named := ["quarterday/label.levels"], apart := false, laid := [("quarterday/label.levels", laid_quarterday_label_levels)] }
def LabelOrderSaid : Prop := labelOrderRow.holds Tryd.pinned (OpenSpec.ofChange labelOrderSpec)

/-- ITS FALSE NEIGHBOUR: 'it returns false'. Refute it at one input. -/
def labelOrderWrong : ChangeSpec := { name := "labelOrder", fn := fun _ => fun
  | [d1, d2] => { results := [.lit (.bool false)], args := [d1, d2] }
  | _ => none }
def LabelOrderWrongFalsely : Prop := labelOrderRow.holds Tryd.pinned (OpenSpec.ofChange labelOrderWrong)

/-- 'quarterdaylaw18.LabelDecimal': WHATEVER THE INPUT: true; the input reads as it did. -/
def labelDecimalSpec : ChangeSpec := { name := "labelDecimal", fn := fun _ => fun
  | [d] => { results := [.lit (.bool true)], args := [d] }
  | _ => none }
def labelDecimalRow : OpenClaim := { program := "ytfjckgnclhpmcaadoor", sum := "181091996ef1f419b4829825cbb1fd211c7908cd71c56de20d055d55aa908474", func := "quarterday/quarterdaylaw18.LabelDecimal", spec := "labelDecimal", named := ["quarterday/label.levels"], apart := false, laid := [("quarterday/label.levels", laid_quarterday_label_levels)] }
def LabelDecimalSaid : Prop := labelDecimalRow.holds Tryd.pinned (OpenSpec.ofChange labelDecimalSpec)

/-- ITS FALSE NEIGHBOUR: 'it returns false'. Refute it at one input. -/
def labelDecimalWrong : ChangeSpec := { name := "labelDecimal", fn := fun _ => fun
  | [d] => { results := [.lit (.bool false)], args := [d] }
  | _ => none }
def LabelDecimalWrongFalsely : Prop := labelDecimalRow.holds Tryd.pinned (OpenSpec.ofChange labelDecimalWrong)

/-- 'quarterdaylaw18.LabelOver': WHATEVER THE INPUT: true; the input reads as it did. -/
def labelOverSpec : ChangeSpec := { name := "labelOver", fn := fun _ => fun
  | [d1, d2] => { results := [.lit (.bool true)], args := [d1, d2] }
  | _ => none }
def labelOverRow : OpenClaim := { program := "ytfjckgnclhpmcaadoor", sum := "181091996ef1f419b4829825cbb1fd211c7908cd71c56de20d055d55aa908474", func := "quarterday/quarterdaylaw18.LabelOver", spec := "labelOver", named := ["quarterday/label.levels"], apart := false, laid := [("quarterday/label.levels", laid_quarterday_label_levels)] }
def LabelOverSaid : Prop := labelOverRow.holds Tryd.pinned (OpenSpec.ofChange labelOverSpec)

/-- ITS FALSE NEIGHBOUR: 'it returns false'. Refute it at one input. -/
def labelOverWrong : ChangeSpec := { name := "labelOver", fn := fun _ => fun
  | [d1, d2] => { results := [.lit (.bool false)], args := [d1, d2] }
  | _ => none }
def LabelOverWrongFalsely : Prop := labelOverRow.holds Tryd.pinned (OpenSpec.ofChange labelOverWrong)

/- THE SECOND FORM. 'bulk': how many values and letters a reading holds, each counted each time it is reached (what is shared counts as often as it is met; a slice's spare places count too). A statement '..UptoSaid' is the law's where the arguments, and the package variables that the reading takes, are together of bulk at most 1048576: NARROWER than '..Said'. Prove '..Said' where nothing that the law and all that it calls make is longer than what came in: it says more and counts as full. Else prove '..UptoSaid'. A law counts once. -/
mutual
def uptoBulk {H : Type} : DataW H → Nat
  | .lit (.string bytes) => bytes.length + 1
  | .lit _ => 1
  | .nil => 1
  | .ptr d => uptoBulk d + 1
  | .slice elems spare => uptoBulkAll elems + uptoBulkAll spare + 1
  | .agg parts => uptoBulkAll parts + 1
  | .iface _ d => uptoBulk d + 1
  | .map entries => uptoBulkEntries entries + 1
  | .held _ => 1
def uptoBulkAll {H : Type} : List (DataW H) → Nat
  | [] => 0
  | d :: r => uptoBulk d + uptoBulkAll r
def uptoBulkEntries {H : Type} : List (Lit × DataW H) → Nat
  | [] => 0
  | x :: r => uptoBulkEntry x + uptoBulkEntries r
def uptoBulkEntry {H : Type} : Lit × DataW H → Nat
  | (.string bytes, d) => bytes.length + uptoBulk d + 1
  | (_, d) => uptoBulk d + 1
 end
def uptoSmall : (H : Type) → List (DataW H) → Bool := fun _ ds => decide (uptoBulkAll ds ≤ 1048576)
def OpenSpec.upto (s : _root_.Go.ChangeSpec) : _root_.Go.OpenSpec := { _root_.Go.OpenSpec.ofChange s with cond := some uptoSmall }

/-- 'quarterdaylaw18.LabelDoes', WHERE WHAT IT READS IS OF BULK AT MOST 1048576: true; the input reads as it did. -/
def labelDoesUptoRow : OpenClaim := { program := "ytfjckgnclhpmcaadoor", sum := "181091996ef1f419b4829825cbb1fd211c7908cd71c56de20d055d55aa908474", func := "quarterday/quarterdaylaw18.LabelDoes", spec := "labelDoes", named := ["quarterday/label.levels"], apart := false, laid := [("quarterday/label.levels", laid_quarterday_label_levels)], narrowed := true }
def LabelDoesUptoSaid : Prop := labelDoesUptoRow.holds Tryd.pinned (OpenSpec.upto labelDoesSpec)

/-- 'quarterdaylaw18.LabelNumbers', WHERE WHAT IT READS IS OF BULK AT MOST 1048576: true; the input reads as it did. -/
def labelNumbersUptoRow : OpenClaim := { program := "ytfjckgnclhpmcaadoor", sum := "181091996ef1f419b4829825cbb1fd211c7908cd71c56de20d055d55aa908474", func := "quarterday/quarterdaylaw18.LabelNumbers", spec := "labelNumbers", named := ["quarterday/label.levels"], apart := false, laid := [("quarterday/label.levels", laid_quarterday_label_levels)], narrowed := true }
def LabelNumbersUptoSaid : Prop := labelNumbersUptoRow.holds Tryd.pinned (OpenSpec.upto labelNumbersSpec)

/-- 'quarterdaylaw18.LabelBack', WHERE WHAT IT READS IS OF BULK AT MOST 1048576: true; the input reads as it did. -/
def labelBackUptoRow : OpenClaim := { program := "ytfjckgnclhpmcaadoor", sum := "181091996ef1f419b4829825cbb1fd211c7908cd71c56de20d055d55aa908474", func := "quarterday/quarterdaylaw18.LabelBack", spec := "labelBack", named := ["quarterday/label.levels"], apart := false, laid := [("quarterday/label.levels", laid_quarterday_label_levels)], narrowed := true }
def LabelBackUptoSaid : Prop := labelBackUptoRow.holds Tryd.pinned (OpenSpec.upto labelBackSpec)

/-- 'quarterdaylaw18.LabelOrder', WHERE WHAT IT READS IS OF BULK AT MOST 1048576: true; the input reads as it did. -/
def labelOrderUptoRow : OpenClaim := { program := "ytfjckgnclhpmcaadoor", sum := "181091996ef1f419b4829825cbb1fd211c7908cd71c56de20d055d55aa908474", func := "quarterday/quarterdaylaw18.LabelOrder", spec := "labelOrder", named := ["quarterday/label.levels"], apart := false, laid := [("quarterday/label.levels", laid_quarterday_label_levels)], narrowed := true }
def LabelOrderUptoSaid : Prop := labelOrderUptoRow.holds Tryd.pinned (OpenSpec.upto labelOrderSpec)

/-- 'quarterdaylaw18.LabelDecimal', WHERE WHAT IT READS IS OF BULK AT MOST 1048576: true; the input reads as it did. -/
def labelDecimalUptoRow : OpenClaim := { program := "ytfjckgnclhpmcaadoor", sum := "181091996ef1f419b4829825cbb1fd211c7908cd71c56de20d055d55aa908474", func := "quarterday/quarterdaylaw18.LabelDecimal", spec := "labelDecimal", named := ["quarterday/label.levels"], apart := false, laid := [("quarterday/label.levels", laid_quarterday_label_levels)], narrowed := true }
def LabelDecimalUptoSaid : Prop := labelDecimalUptoRow.holds Tryd.pinned (OpenSpec.upto labelDecimalSpec)

/-- 'quarterdaylaw18.LabelOver', WHERE WHAT IT READS IS OF BULK AT MOST 1048576: true; the input reads as it did. -/
def labelOverUptoRow : OpenClaim := { program := "ytfjckgnclhpmcaadoor", sum := "181091996ef1f419b4829825cbb1fd211c7908cd71c56de20d055d55aa908474", func := "quarterday/quarterdaylaw18.LabelOver", spec := "labelOver", named := ["quarterday/label.levels"], apart := false, laid := [("quarterday/label.levels", laid_quarterday_label_levels)], narrowed := true }
def LabelOverUptoSaid : Prop := labelOverUptoRow.holds Tryd.pinned (OpenSpec.upto labelOverSpec)

end Rows
end Go.Proofs.YtfjckgnclhpmcaaDoor
