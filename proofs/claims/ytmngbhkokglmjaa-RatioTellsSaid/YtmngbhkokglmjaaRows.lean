/-
  No cell of these rows narrows 'for every input' (looked for: loops, veiled, ifaces, maps, wideKeys, modest, calm, conditions, laid).
  DERIVED. THE GIVEN ROWS OF THIS SEAT. 8 by the template 'for every input the law returns true; each argument reads behind the call as it read before'; 0 by the template 'total and deterministic' (their statements: YtmngbhkokglmjaaTotals.lean).
  GIVEN WITH THE SEED: the statements are not yours to turn. If you find one false, say at which input.
  Laid BY PROGRAM, IN A SANDBOX (cutbox-rows.mjs): the forced cells as the released guide's own fill.sh prints them over the translation 2fc185e84edc1b24… (all of the seat's roots in one cut). By AI agents, Wed Nov 11 2026. No macro, syntax, notation, axiom, sorry.
-/
import Derived.Test.YtmngbhkokglmjaaChecked
import GoSem.Claim
import GoSem.ClaimJoined
import GoSem.ClaimMapViews
import Derived.JoinedTies
import Derived.KernelRfl
namespace Go.Proofs.Ytmngbhkokglmjaa
/- THE CELL 'sum', in the pinned program and in every row, IS THE sha256 OF THE DUMP (.gsa) THAT YtmngbhkokglmjaaProg.lean LOADS. Nothing in Lean hashes anything: it is a label: what it is worth is what the hold of that sum in a sandbox is worth. -/
noncomputable def Try.pinned : Pinned := { name := "ytmngbhkokglmjaa", sum := "2fc185e84edc1b2415ed5309640214854317300e45c4023daf84f51a88507e67", checked := Try.checked }
namespace Rows
def none {H : Type} : Left H := { results := [], args := [] }

/-- 'quarterdaylaw03.RatioDoes': WHATEVER THE INPUT: true; the input reads as it did. -/
def ratioDoesSpec : ChangeSpec := { name := "ratioDoes", fn := fun _ => fun
  | [d1, d2] => { results := [.lit (.bool true)], args := [d1, d2] }
  | _ => none }
def ratioDoesRow : OpenClaim := { program := "ytmngbhkokglmjaa", sum := "2fc185e84edc1b2415ed5309640214854317300e45c4023daf84f51a88507e67", func := "quarterday/quarterdaylaw03.RatioDoes", spec := "ratioDoes", unfollowed := true, recurses := true, apart := false }
def RatioDoesSaid : Prop := ratioDoesRow.holds Try.pinned (OpenSpec.ofChange ratioDoesSpec)

/-- ITS FALSE NEIGHBOUR: 'it returns false'. Refute it at one input. -/
def ratioDoesWrong : ChangeSpec := { name := "ratioDoes", fn := fun _ => fun
  | [d1, d2] => { results := [.lit (.bool false)], args := [d1, d2] }
  | _ => none }
def RatioDoesWrongFalsely : Prop := ratioDoesRow.holds Try.pinned (OpenSpec.ofChange ratioDoesWrong)

/-- 'quarterdaylaw03.RatioTells': WHATEVER THE INPUT: true; the input reads as it did. -/
def ratioTellsSpec : ChangeSpec := { name := "ratioTells", fn := fun _ => fun
  | [d1, d2, d3, d4] => { results := [.lit (.bool true)], args := [d1, d2, d3, d4] }
  | _ => none }
def ratioTellsRow : OpenClaim := { program := "ytmngbhkokglmjaa", sum := "2fc185e84edc1b2415ed5309640214854317300e45c4023daf84f51a88507e67", func := "quarterday/quarterdaylaw03.RatioTells", spec := "ratioTells", unfollowed := true, recurses := true, apart := false }
def RatioTellsSaid : Prop := ratioTellsRow.holds Try.pinned (OpenSpec.ofChange ratioTellsSpec)

/-- ITS FALSE NEIGHBOUR: 'it returns false'. Refute it at one input. -/
def ratioTellsWrong : ChangeSpec := { name := "ratioTells", fn := fun _ => fun
  | [d1, d2, d3, d4] => { results := [.lit (.bool false)], args := [d1, d2, d3, d4] }
  | _ => none }
def RatioTellsWrongFalsely : Prop := ratioTellsRow.holds Try.pinned (OpenSpec.ofChange ratioTellsWrong)

/-- 'quarterdaylaw03.RatioBack': WHATEVER THE INPUT: true; the input reads as it did. -/
def ratioBackSpec : ChangeSpec := { name := "ratioBack", fn := fun _ => fun
  | [d1, d2] => { results := [.lit (.bool true)], args := [d1, d2] }
  | _ => none }
def ratioBackRow : OpenClaim := { program := "ytmngbhkokglmjaa", sum := "2fc185e84edc1b2415ed5309640214854317300e45c4023daf84f51a88507e67", func := "quarterday/quarterdaylaw03.RatioBack", spec := "ratioBack", unfollowed := true, recurses := true, apart := false }
def RatioBackSaid : Prop := ratioBackRow.holds Try.pinned (OpenSpec.ofChange ratioBackSpec)

/-- ITS FALSE NEIGHBOUR: 'it returns false'. Refute it at one input. -/
def ratioBackWrong : ChangeSpec := { name := "ratioBack", fn := fun _ => fun
  | [d1, d2] => { results := [.lit (.bool false)], args := [d1, d2] }
  | _ => none }
def RatioBackWrongFalsely : Prop := ratioBackRow.holds Try.pinned (OpenSpec.ofChange ratioBackWrong)

/-- 'quarterdaylaw03.RatioOrder': WHATEVER THE INPUT: true; the input reads as it did. -/
def ratioOrderSpec : ChangeSpec := { name := "ratioOrder", fn := fun _ => fun
  | [d1, d2, d3] => { results := [.lit (.bool true)], args := [d1, d2, d3] }
  | _ => none }
def ratioOrderRow : OpenClaim := { program := "ytmngbhkokglmjaa", sum := "2fc185e84edc1b2415ed5309640214854317300e45c4023daf84f51a88507e67", func := "quarterday/quarterdaylaw03.RatioOrder", spec := "ratioOrder", unfollowed := true, recurses := true, apart := false }
def RatioOrderSaid : Prop := ratioOrderRow.holds Try.pinned (OpenSpec.ofChange ratioOrderSpec)

/-- ITS FALSE NEIGHBOUR: 'it returns false'. Refute it at one input. -/
def ratioOrderWrong : ChangeSpec := { name := "ratioOrder", fn := fun _ => fun
  | [d1, d2, d3] => { results := [.lit (.bool false)], args := [d1, d2, d3] }
  | _ => none }
def RatioOrderWrongFalsely : Prop := ratioOrderRow.holds Try.pinned (OpenSpec.ofChange ratioOrderWrong)

/-- 'quarterdaylaw03.RatioMade': WHATEVER THE INPUT: true; the input reads as it did. -/
def ratioMadeSpec : ChangeSpec := { name := "ratioMade", fn := fun _ => fun
  | [d1, d2] => { results := [.lit (.bool true)], args := [d1, d2] }
  | _ => none }
def ratioMadeRow : OpenClaim := { program := "ytmngbhkokglmjaa", sum := "2fc185e84edc1b2415ed5309640214854317300e45c4023daf84f51a88507e67", func := "quarterday/quarterdaylaw03.RatioMade", spec := "ratioMade", apart := false }
def RatioMadeSaid : Prop := ratioMadeRow.holds Try.pinned (OpenSpec.ofChange ratioMadeSpec)

/-- ITS FALSE NEIGHBOUR: 'it returns false'. Refute it at one input. -/
def ratioMadeWrong : ChangeSpec := { name := "ratioMade", fn := fun _ => fun
  | [d1, d2] => { results := [.lit (.bool false)], args := [d1, d2] }
  | _ => none }
def RatioMadeWrongFalsely : Prop := ratioMadeRow.holds Try.pinned (OpenSpec.ofChange ratioMadeWrong)

/-- 'quarterdaylaw03.RatioBeside': WHATEVER THE INPUT: true; the input reads as it did. -/
def ratioBesideSpec : ChangeSpec := { name := "ratioBeside", fn := fun _ => fun
  | [d] => { results := [.lit (.bool true)], args := [d] }
  | _ => none }
def ratioBesideRow : OpenClaim := { program := "ytmngbhkokglmjaa", sum := "2fc185e84edc1b2415ed5309640214854317300e45c4023daf84f51a88507e67", func := "quarterday/quarterdaylaw03.RatioBeside", spec := "ratioBeside", unfollowed := true, recurses := true, apart := false }
def RatioBesideSaid : Prop := ratioBesideRow.holds Try.pinned (OpenSpec.ofChange ratioBesideSpec)

/-- ITS FALSE NEIGHBOUR: 'it returns false'. Refute it at one input. -/
def ratioBesideWrong : ChangeSpec := { name := "ratioBeside", fn := fun _ => fun
  | [d] => { results := [.lit (.bool false)], args := [d] }
  | _ => none }
def RatioBesideWrongFalsely : Prop := ratioBesideRow.holds Try.pinned (OpenSpec.ofChange ratioBesideWrong)

/-- 'quarterdaylaw03.RatioLess': WHATEVER THE INPUT: true; the input reads as it did. -/
def ratioLessSpec : ChangeSpec := { name := "ratioLess", fn := fun _ => fun
  | [d1, d2] => { results := [.lit (.bool true)], args := [d1, d2] }
  | _ => none }
def ratioLessRow : OpenClaim := { program := "ytmngbhkokglmjaa", sum := "2fc185e84edc1b2415ed5309640214854317300e45c4023daf84f51a88507e67", func := "quarterday/quarterdaylaw03.RatioLess", spec := "ratioLess", unfollowed := true, recurses := true, apart := false }
def RatioLessSaid : Prop := ratioLessRow.holds Try.pinned (OpenSpec.ofChange ratioLessSpec)

/-- ITS FALSE NEIGHBOUR: 'it returns false'. Refute it at one input. -/
def ratioLessWrong : ChangeSpec := { name := "ratioLess", fn := fun _ => fun
  | [d1, d2] => { results := [.lit (.bool false)], args := [d1, d2] }
  | _ => none }
def RatioLessWrongFalsely : Prop := ratioLessRow.holds Try.pinned (OpenSpec.ofChange ratioLessWrong)

/-- 'quarterdaylaw02.WideDivides': WHATEVER THE INPUT: true; the input reads as it did. -/
def wideDividesSpec : ChangeSpec := { name := "wideDivides", fn := fun _ => fun
  | [d1, d2, d3, d4] => { results := [.lit (.bool true)], args := [d1, d2, d3, d4] }
  | _ => none }
def wideDividesRow : OpenClaim := { program := "ytmngbhkokglmjaa", sum := "2fc185e84edc1b2415ed5309640214854317300e45c4023daf84f51a88507e67", func := "quarterday/quarterdaylaw02.WideDivides", spec := "wideDivides", apart := false }
def WideDividesSaid : Prop := wideDividesRow.holds Try.pinned (OpenSpec.ofChange wideDividesSpec)

/-- ITS FALSE NEIGHBOUR: 'it returns false'. Refute it at one input. -/
def wideDividesWrong : ChangeSpec := { name := "wideDivides", fn := fun _ => fun
  | [d1, d2, d3, d4] => { results := [.lit (.bool false)], args := [d1, d2, d3, d4] }
  | _ => none }
def WideDividesWrongFalsely : Prop := wideDividesRow.holds Try.pinned (OpenSpec.ofChange wideDividesWrong)

/- THE SECOND FORM. 'bulk': how many values and letters a reading holds, each counted each time it is reached (what is shared counts as often as it is met; a slice's spare places count too). A statement '..UptoSaid' is the law's where the arguments, and the package variables that the reading takes, are together of bulk at most 1048576: NARROWER than '..Said'. Prove '..Said' where nothing that the law and all that it calls make is longer than what came in: it says more and counts as full. Else prove '..UptoSaid'. A law counts once. -/
mutual
def uptoBulk {H : Type} : DataW H → Nat
  | .lit (.string bytes) => bytes.length + 1
  | .lit _ => 1
  | .nil => 1
  | .ptr d => uptoBulk d + 1
  | .slice elems spare => uptoBulkAll elems + uptoBulkAll spare + 1
  | .agg parts => uptoBulkAll parts + 1
  | .iface _ d => uptoBulk d + 1
  | .map entries => uptoBulkEntries entries + 1
  | .held _ => 1
def uptoBulkAll {H : Type} : List (DataW H) → Nat
  | [] => 0
  | d :: r => uptoBulk d + uptoBulkAll r
def uptoBulkEntries {H : Type} : List (Lit × DataW H) → Nat
  | [] => 0
  | x :: r => uptoBulkEntry x + uptoBulkEntries r
def uptoBulkEntry {H : Type} : Lit × DataW H → Nat
  | (.string bytes, d) => bytes.length + uptoBulk d + 1
  | (_, d) => uptoBulk d + 1
 end
def uptoSmall : (H : Type) → List (DataW H) → Bool := fun _ ds => decide (uptoBulkAll ds ≤ 1048576)
def OpenSpec.upto (s : _root_.Go.ChangeSpec) : _root_.Go.OpenSpec := { _root_.Go.OpenSpec.ofChange s with cond := some uptoSmall }

/-- 'quarterdaylaw03.RatioDoes', WHERE WHAT IT READS IS OF BULK AT MOST 1048576: true; the input reads as it did. -/
def ratioDoesUptoRow : OpenClaim := { program := "ytmngbhkokglmjaa", sum := "2fc185e84edc1b2415ed5309640214854317300e45c4023daf84f51a88507e67", func := "quarterday/quarterdaylaw03.RatioDoes", spec := "ratioDoes", unfollowed := true, recurses := true, apart := false, narrowed := true }
def RatioDoesUptoSaid : Prop := ratioDoesUptoRow.holds Try.pinned (OpenSpec.upto ratioDoesSpec)

/-- 'quarterdaylaw03.RatioTells', WHERE WHAT IT READS IS OF BULK AT MOST 1048576: true; the input reads as it did. -/
def ratioTellsUptoRow : OpenClaim := { program := "ytmngbhkokglmjaa", sum := "2fc185e84edc1b2415ed5309640214854317300e45c4023daf84f51a88507e67", func := "quarterday/quarterdaylaw03.RatioTells", spec := "ratioTells", unfollowed := true, recurses := true, apart := false, narrowed := true }
def RatioTellsUptoSaid : Prop := ratioTellsUptoRow.holds Try.pinned (OpenSpec.upto ratioTellsSpec)

/-- 'quarterdaylaw03.RatioBack', WHERE WHAT IT READS IS OF BULK AT MOST 1048576: true; the input reads as it did. -/
def ratioBackUptoRow : OpenClaim := { program := "ytmngbhkokglmjaa", sum := "2fc185e84edc1b2415ed5309640214854317300e45c4023daf84f51a88507e67", func := "quarterday/quarterdaylaw03.RatioBack", spec := "ratioBack", unfollowed := true, recurses := true, apart := false, narrowed := true }
def RatioBackUptoSaid : Prop := ratioBackUptoRow.holds Try.pinned (OpenSpec.upto ratioBackSpec)

/-- 'quarterdaylaw03.RatioOrder', WHERE WHAT IT READS IS OF BULK AT MOST 1048576: true; the input reads as it did. -/
def ratioOrderUptoRow : OpenClaim := { program := "ytmngbhkokglmjaa", sum := "2fc185e84edc1b2415ed5309640214854317300e45c4023daf84f51a88507e67", func := "quarterday/quarterdaylaw03.RatioOrder", spec := "ratioOrder", unfollowed := true, recurses := true, apart := false, narrowed := true }
def RatioOrderUptoSaid : Prop := ratioOrderUptoRow.holds Try.pinned (OpenSpec.upto ratioOrderSpec)

/-- 'quarterdaylaw03.RatioMade', WHERE WHAT IT READS IS OF BULK AT MOST 1048576: true; the input reads as it did. -/
def ratioMadeUptoRow : OpenClaim := { program := "ytmngbhkokglmjaa", sum := "2fc185e84edc1b2415ed5309640214854317300e45c4023daf84f51a88507e67", func := "quarterday/quarterdaylaw03.RatioMade", spec := "ratioMade", apart := false, narrowed := true }
def RatioMadeUptoSaid : Prop := ratioMadeUptoRow.holds Try.pinned (OpenSpec.upto ratioMadeSpec)

/-- 'quarterdaylaw03.RatioBeside', WHERE WHAT IT READS IS OF BULK AT MOST 1048576: true; the input reads as it did. -/
def ratioBesideUptoRow : OpenClaim := { program := "ytmngbhkokglmjaa", sum := "2fc185e84edc1b2415ed5309640214854317300e45c4023daf84f51a88507e67", func := "quarterday/quarterdaylaw03.RatioBeside", spec := "ratioBeside", unfollowed := true, recurses := true, apart := false, narrowed := true }
def RatioBesideUptoSaid : Prop := ratioBesideUptoRow.holds Try.pinned (OpenSpec.upto ratioBesideSpec)

/-- 'quarterdaylaw03.RatioLess', WHERE WHAT IT READS IS OF BULK AT MOST 1048576: true; the input reads as it did. -/
def ratioLessUptoRow : OpenClaim := { program := "ytmngbhkokglmjaa", sum := "2fc185e84edc1b2415ed5309640214854317300e45c4023daf84f51a88507e67", func := "quarterday/quarterdaylaw03.RatioLess", spec := "ratioLess", unfollowed := true, recurses := true, apart := false, narrowed := true }
def RatioLessUptoSaid : Prop := ratioLessUptoRow.holds Try.pinned (OpenSpec.upto ratioLessSpec)

/-- 'quarterdaylaw02.WideDivides', WHERE WHAT IT READS IS OF BULK AT MOST 1048576: true; the input reads as it did. -/
def wideDividesUptoRow : OpenClaim := { program := "ytmngbhkokglmjaa", sum := "2fc185e84edc1b2415ed5309640214854317300e45c4023daf84f51a88507e67", func := "quarterday/quarterdaylaw02.WideDivides", spec := "wideDivides", apart := false, narrowed := true }
def WideDividesUptoSaid : Prop := wideDividesUptoRow.holds Try.pinned (OpenSpec.upto wideDividesSpec)

end Rows
end Go.Proofs.Ytmngbhkokglmjaa
