/- A whole struct laid into the block that was made last, at the list of a region's operations; nothing of the program. -/
import Derived.WalkKit
import Derived.Below
import Derived.Deep.WholeRow
import Derived.Deep.MidRow
namespace Go.Proofs.YtfjckgnclhpmcaaDoor.Fs
set_option linter.unusedSimpArgs false
set_option linter.unusedVariables false

theorem wpList_store_new {P : Program} {ops : Array Oper} {rest : List Oper} {op : Oper} {a : Act} {w : World} {Q : Exit → Act → World → Prop} (hgd : op.guard = none) (ty : TypeId) (x y : Operand) (ho : op.op = .store ty x y)
    (c c' : Array Value) (n : Nat) (hx : a.eval x = .pointer (some ⟨w.heap.size, 0, none⟩)) (hy : a.eval y = .agg c')
    (hi : (P.info? ty).map (·.size) = some n) (hn : c'.size = n) (hs : c.size = n) (h1 : c'.all (·.oneCell') = true)
    (h : wpList P ops Q rest (a.put op.dst undef) (w.alloc (.cells c' ty))) : wpList P ops Q (op :: rest) a (w.alloc (.cells c ty)) :=
  wpList_plain hgd fun _ hK => by
    unfold Oper.wp execOp
    simp only [ho, hx, hy, Sem.run_bind, Sem.run_pure, Result.andThen_ok, run_storeAt_new w ty c c' (by rw [hi, hn]) (by rw [hs, hn]) h1]
    exact hK _ _ h

/-- what a function hands back whose first result is a struct in a block, and whose second one is plain -/
theorem results_cell2 {fn : Func} {t u : Tmp} {ty : TypeId} (h : fn.results = #[.cell t ty, .tmp u]) (tmps : Array Value) (P : Program) (w : World) (b o : Nat) (cs : List Value) (d : TypeDesc) (n : Nat)
    (hp : tmps.getD t undef = .pointer (some ⟨b, o, none⟩)) (hc : w.rangeAt b o cs) (hu : P.underlying ty = some d) (hd : d.isRow = true) (hi : (P.info? ty).map (·.size) = some n) (hn : cs.length = n) :
    (results fn tmps).run P w = .ok (.tuple #[.agg cs.toArray, tmps.getD u undef]) w := by
  have hl := run_loadVar_mid w b o ty cs d hc hu hd (by rw [hi, hn])
  have hp' : asAddr (tmps.getD t undef) = (pure ⟨b, o, none⟩ : Sem Addr) := by rw [hp]; rfl
  simp only [results, h]
  rw [show (#[ResultVar.cell t ty, ResultVar.tmp u] : Array ResultVar) = [ResultVar.cell t ty, ResultVar.tmp u].toArray from rfl, List.mapM_toArray]
  simp only [List.mapM_cons, List.mapM_nil, hp', pure_bind]
  generalize loadVar ty ⟨b, o, none⟩ = x at hl
  simp [go_sem, hl]

end Go.Proofs.YtfjckgnclhpmcaaDoor.Fs
