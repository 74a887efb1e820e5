/-
  No cell of these rows narrows 'for every input' (looked for: loops, veiled, ifaces, maps, wideKeys, modest, calm, conditions, laid).
  DERIVED. THE GIVEN ROWS OF THIS SEAT. 6 by the template 'for every input the law returns true; each argument reads behind the call as it read before'; 0 by the template 'total and deterministic' (their statements: YtieopihgnebglaaTotals.lean).
  GIVEN WITH THE SEED: the statements are not yours to turn. If you find one false, say at which input.
  Laid BY PROGRAM, IN A SANDBOX (cutbox-rows.mjs): the forced cells as the released guide's own fill.sh prints them over the translation 731867b5738dc0aa… (all of the seat's roots in one cut). By AI agents, Wed Nov 11 2026. No macro, syntax, notation, axiom, sorry.
-/
import Derived.Test.YtieopihgnebglaaChecked
import GoSem.Claim
import GoSem.ClaimJoined
import GoSem.ClaimMapViews
import Derived.JoinedTies
import Derived.KernelRfl
namespace Go.Proofs.Ytieopihgnebglaa
/- THE CELL 'sum', in the pinned program and in every row, IS THE sha256 OF THE DUMP (.gsa) THAT YtieopihgnebglaaProg.lean LOADS. Nothing in Lean hashes anything: it is a label: what it is worth is what the hold of that sum in a sandbox is worth. -/
noncomputable def Try.pinned : Pinned := { name := "ytieopihgnebglaa", sum := "731867b5738dc0aa8a5a8de5e98ef3680344caa0ec21d210101208d1300c18cd", checked := Try.checked }
namespace Rows
def none {H : Type} : Left H := { results := [], args := [] }

/-- 'quarterdaylaw01.WholeDoes': WHATEVER THE INPUT: true; the input reads as it did. -/
def wholeDoesSpec : ChangeSpec := { name := "wholeDoes", fn := fun _ => fun
  | [d1, d2] => { results := [.lit (.bool true)], args := [d1, d2] }
  | _ => none }
def wholeDoesRow : OpenClaim := { program := "ytieopihgnebglaa", sum := "731867b5738dc0aa8a5a8de5e98ef3680344caa0ec21d210101208d1300c18cd", func := "quarterday/quarterdaylaw01.WholeDoes", spec := "wholeDoes", apart := false }
def WholeDoesSaid : Prop := wholeDoesRow.holds Try.pinned (OpenSpec.ofChange wholeDoesSpec)

/-- ITS FALSE NEIGHBOUR: 'it returns false'. Refute it at one input. -/
def wholeDoesWrong : ChangeSpec := { name := "wholeDoes", fn := fun _ => fun
  | [d1, d2] => { results := [.lit (.bool false)], args := [d1, d2] }
  | _ => none }
def WholeDoesWrongFalsely : Prop := wholeDoesRow.holds Try.pinned (OpenSpec.ofChange wholeDoesWrong)

/-- 'quarterdaylaw01.WholeBack': WHATEVER THE INPUT: true; the input reads as it did. -/
def wholeBackSpec : ChangeSpec := { name := "wholeBack", fn := fun _ => fun
  | [d1, d2] => { results := [.lit (.bool true)], args := [d1, d2] }
  | _ => none }
def wholeBackRow : OpenClaim := { program := "ytieopihgnebglaa", sum := "731867b5738dc0aa8a5a8de5e98ef3680344caa0ec21d210101208d1300c18cd", func := "quarterday/quarterdaylaw01.WholeBack", spec := "wholeBack", apart := false }
def WholeBackSaid : Prop := wholeBackRow.holds Try.pinned (OpenSpec.ofChange wholeBackSpec)

/-- ITS FALSE NEIGHBOUR: 'it returns false'. Refute it at one input. -/
def wholeBackWrong : ChangeSpec := { name := "wholeBack", fn := fun _ => fun
  | [d1, d2] => { results := [.lit (.bool false)], args := [d1, d2] }
  | _ => none }
def WholeBackWrongFalsely : Prop := wholeBackRow.holds Try.pinned (OpenSpec.ofChange wholeBackWrong)

/-- 'quarterdaylaw01.WholeDivides': WHATEVER THE INPUT: true; the input reads as it did. -/
def wholeDividesSpec : ChangeSpec := { name := "wholeDivides", fn := fun _ => fun
  | [d1, d2] => { results := [.lit (.bool true)], args := [d1, d2] }
  | _ => none }
def wholeDividesRow : OpenClaim := { program := "ytieopihgnebglaa", sum := "731867b5738dc0aa8a5a8de5e98ef3680344caa0ec21d210101208d1300c18cd", func := "quarterday/quarterdaylaw01.WholeDivides", spec := "wholeDivides", apart := false }
def WholeDividesSaid : Prop := wholeDividesRow.holds Try.pinned (OpenSpec.ofChange wholeDividesSpec)

/-- ITS FALSE NEIGHBOUR: 'it returns false'. Refute it at one input. -/
def wholeDividesWrong : ChangeSpec := { name := "wholeDivides", fn := fun _ => fun
  | [d1, d2] => { results := [.lit (.bool false)], args := [d1, d2] }
  | _ => none }
def WholeDividesWrongFalsely : Prop := wholeDividesRow.holds Try.pinned (OpenSpec.ofChange wholeDividesWrong)

/-- 'quarterdaylaw01.WholeOrder': WHATEVER THE INPUT: true; the input reads as it did. -/
def wholeOrderSpec : ChangeSpec := { name := "wholeOrder", fn := fun _ => fun
  | [d1, d2, d3] => { results := [.lit (.bool true)], args := [d1, d2, d3] }
  | _ => none }
def wholeOrderRow : OpenClaim := { program := "ytieopihgnebglaa", sum := "731867b5738dc0aa8a5a8de5e98ef3680344caa0ec21d210101208d1300c18cd", func := "quarterday/quarterdaylaw01.WholeOrder", spec := "wholeOrder", apart := false }
def WholeOrderSaid : Prop := wholeOrderRow.holds Try.pinned (OpenSpec.ofChange wholeOrderSpec)

/-- ITS FALSE NEIGHBOUR: 'it returns false'. Refute it at one input. -/
def wholeOrderWrong : ChangeSpec := { name := "wholeOrder", fn := fun _ => fun
  | [d1, d2, d3] => { results := [.lit (.bool false)], args := [d1, d2, d3] }
  | _ => none }
def WholeOrderWrongFalsely : Prop := wholeOrderRow.holds Try.pinned (OpenSpec.ofChange wholeOrderWrong)

/-- 'quarterdaylaw01.WholeCommon': WHATEVER THE INPUT: true; the input reads as it did. -/
def wholeCommonSpec : ChangeSpec := { name := "wholeCommon", fn := fun _ => fun
  | [d1, d2] => { results := [.lit (.bool true)], args := [d1, d2] }
  | _ => none }
def wholeCommonRow : OpenClaim := { program := "ytieopihgnebglaa", sum := "731867b5738dc0aa8a5a8de5e98ef3680344caa0ec21d210101208d1300c18cd", func := "quarterday/quarterdaylaw01.WholeCommon", spec := "wholeCommon", apart := false }
def WholeCommonSaid : Prop := wholeCommonRow.holds Try.pinned (OpenSpec.ofChange wholeCommonSpec)

/-- ITS FALSE NEIGHBOUR: 'it returns false'. Refute it at one input. -/
def wholeCommonWrong : ChangeSpec := { name := "wholeCommon", fn := fun _ => fun
  | [d1, d2] => { results := [.lit (.bool false)], args := [d1, d2] }
  | _ => none }
def WholeCommonWrongFalsely : Prop := wholeCommonRow.holds Try.pinned (OpenSpec.ofChange wholeCommonWrong)

/-- 'quarterdaylaw01.WholeSmall': WHATEVER THE INPUT: true; the input reads as it did. -/
def wholeSmallSpec : ChangeSpec := { name := "wholeSmall", fn := fun _ => fun
  | [d1, d2] => { results := [.lit (.bool true)], args := [d1, d2] }
  | _ => none }
def wholeSmallRow : OpenClaim := { program := "ytieopihgnebglaa", sum := "731867b5738dc0aa8a5a8de5e98ef3680344caa0ec21d210101208d1300c18cd", func := "quarterday/quarterdaylaw01.WholeSmall", spec := "wholeSmall", apart := false }
def WholeSmallSaid : Prop := wholeSmallRow.holds Try.pinned (OpenSpec.ofChange wholeSmallSpec)

/-- ITS FALSE NEIGHBOUR: 'it returns false'. Refute it at one input. -/
def wholeSmallWrong : ChangeSpec := { name := "wholeSmall", fn := fun _ => fun
  | [d1, d2] => { results := [.lit (.bool false)], args := [d1, d2] }
  | _ => none }
def WholeSmallWrongFalsely : Prop := wholeSmallRow.holds Try.pinned (OpenSpec.ofChange wholeSmallWrong)

/- THE SECOND FORM. 'bulk': how many values and letters a reading holds, each counted each time it is reached (what is shared counts as often as it is met; a slice's spare places count too). A statement '..UptoSaid' is the law's where the arguments, and the package variables that the reading takes, are together of bulk at most 1048576: NARROWER than '..Said'. Prove '..Said' where nothing that the law and all that it calls make is longer than what came in: it says more and counts as full. Else prove '..UptoSaid'. A law counts once. -/
mutual
def uptoBulk {H : Type} : DataW H → Nat
  | .lit (.string bytes) => bytes.length + 1
  | .lit _ => 1
  | .nil => 1
  | .ptr d => uptoBulk d + 1
  | .slice elems spare => uptoBulkAll elems + uptoBulkAll spare + 1
  | .agg parts => uptoBulkAll parts + 1
  | .iface _ d => uptoBulk d + 1
  | .map entries => uptoBulkEntries entries + 1
  | .held _ => 1
def uptoBulkAll {H : Type} : List (DataW H) → Nat
  | [] => 0
  | d :: r => uptoBulk d + uptoBulkAll r
def uptoBulkEntries {H : Type} : List (Lit × DataW H) → Nat
  | [] => 0
  | x :: r => uptoBulkEntry x + uptoBulkEntries r
def uptoBulkEntry {H : Type} : Lit × DataW H → Nat
  | (.string bytes, d) => bytes.length + uptoBulk d + 1
  | (_, d) => uptoBulk d + 1
 end
def uptoSmall : (H : Type) → List (DataW H) → Bool := fun _ ds => decide (uptoBulkAll ds ≤ 1048576)
def OpenSpec.upto (s : _root_.Go.ChangeSpec) : _root_.Go.OpenSpec := { _root_.Go.OpenSpec.ofChange s with cond := some uptoSmall }

/-- 'quarterdaylaw01.WholeDoes', WHERE WHAT IT READS IS OF BULK AT MOST 1048576: true; the input reads as it did. -/
def wholeDoesUptoRow : OpenClaim := { program := "ytieopihgnebglaa", sum := "731867b5738dc0aa8a5a8de5e98ef3680344caa0ec21d210101208d1300c18cd", func := "quarterday/quarterdaylaw01.WholeDoes", spec := "wholeDoes", apart := false, narrowed := true }
def WholeDoesUptoSaid : Prop := wholeDoesUptoRow.holds Try.pinned (OpenSpec.upto wholeDoesSpec)

/-- 'quarterdaylaw01.WholeBack', WHERE WHAT IT READS IS OF BULK AT MOST 1048576: true; the input reads as it did. -/
def wholeBackUptoRow : OpenClaim := { program := "ytieopihgnebglaa", sum := "731867b5738dc0aa8a5a8de5e98ef3680344caa0ec21d210101208d1300c18cd", func := "quarterday/quarterdaylaw01.WholeBack", spec := "wholeBack", apart := false, narrowed := true }
def WholeBackUptoSaid : Prop := wholeBackUptoRow.holds Try.pinned (OpenSpec.upto wholeBackSpec)

/-- 'quarterdaylaw01.WholeDivides', WHERE WHAT IT READS IS OF BULK AT MOST 1048576: true; the input reads as it did. -/
def wholeDividesUptoRow : OpenClaim := { program := "ytieopihgnebglaa", sum := "731867b5738dc0aa8a5a8de5e98ef3680344caa0ec21d210101208d1300c18cd", func := "quarterday/quarterdaylaw01.WholeDivides", spec := "wholeDivides", apart := false, narrowed := true }
def WholeDividesUptoSaid : Prop := wholeDividesUptoRow.holds Try.pinned (OpenSpec.upto wholeDividesSpec)

/-- 'quarterdaylaw01.WholeOrder', WHERE WHAT IT READS IS OF BULK AT MOST 1048576: true; the input reads as it did. -/
def wholeOrderUptoRow : OpenClaim := { program := "ytieopihgnebglaa", sum := "731867b5738dc0aa8a5a8de5e98ef3680344caa0ec21d210101208d1300c18cd", func := "quarterday/quarterdaylaw01.WholeOrder", spec := "wholeOrder", apart := false, narrowed := true }
def WholeOrderUptoSaid : Prop := wholeOrderUptoRow.holds Try.pinned (OpenSpec.upto wholeOrderSpec)

/-- 'quarterdaylaw01.WholeCommon', WHERE WHAT IT READS IS OF BULK AT MOST 1048576: true; the input reads as it did. -/
def wholeCommonUptoRow : OpenClaim := { program := "ytieopihgnebglaa", sum := "731867b5738dc0aa8a5a8de5e98ef3680344caa0ec21d210101208d1300c18cd", func := "quarterday/quarterdaylaw01.WholeCommon", spec := "wholeCommon", apart := false, narrowed := true }
def WholeCommonUptoSaid : Prop := wholeCommonUptoRow.holds Try.pinned (OpenSpec.upto wholeCommonSpec)

/-- 'quarterdaylaw01.WholeSmall', WHERE WHAT IT READS IS OF BULK AT MOST 1048576: true; the input reads as it did. -/
def wholeSmallUptoRow : OpenClaim := { program := "ytieopihgnebglaa", sum := "731867b5738dc0aa8a5a8de5e98ef3680344caa0ec21d210101208d1300c18cd", func := "quarterday/quarterdaylaw01.WholeSmall", spec := "wholeSmall", apart := false, narrowed := true }
def WholeSmallUptoSaid : Prop := wholeSmallUptoRow.holds Try.pinned (OpenSpec.upto wholeSmallSpec)

end Rows
end Go.Proofs.Ytieopihgnebglaa
