/- What policies and Week of package comp come to. -/
import Derived.Test.YtmagdlcikcgelaaDoorMpol
import Derived.Test.YtmagdlcikcgelaaDoorDcode
import Derived.Maps.OwnOps
import Derived.Deep.RegionWith
namespace Go.Proofs.YtmagdlcikcgelaaDoor.Mp
set_option linter.unusedSimpArgs false
set_option linter.unusedVariables false
open Go.RowKit Go.Maps Go.Proofs.YtmagdlcikcgelaaDoor.Bn Go.Proofs.YtmagdlcikcgelaaDoor.Bx Go.Proofs.YtmagdlcikcgelaaDoor.Cp Go.Proofs.YtmagdlcikcgelaaDoor.Am Go.Proofs.YtmagdlcikcgelaaDoor.Fp Go.Proofs.YtmagdlcikcgelaaDoor.Ap Go.Proofs.YtmagdlcikcgelaaDoor.Cm Go.Proofs.YtmagdlcikcgelaaDoor.Em Go.Proofs.YtmagdlcikcgelaaDoor.Ep Go.Proofs.YtmagdlcikcgelaaDoor.Rk Go.Proofs.YtmagdlcikcgelaaDoor.Hp Go.Proofs.YtmagdlcikcgelaaDoor.Dp

set_option maxHeartbeats 8000000

/-- a literal's entry -/
theorem wpList_insert_any {H : Type} {P : Program} (w : World) {ops : Array Oper} {rest : List Oper} {o : Oper} {a : Act} {Q : Exit → Act → World → Prop}
    (hg : o.guard = none) (m x v : Operand) (t : TypeId) (hop : o.op = Op.insert t m x v)
    (k e : TypeId) (K : Keyed P k) (ht : P.underlying t = some (.map k e)) (R : Value → Option (DataW H × List MemPlace)) (b n : Nat) (D : DataW H)
    (hm : a.eval m = .map (some b)) (hown : w.ownsMap P k R b n D) (hn : n < maxLen) (key val : Value) (kl : Lit) (hx : a.eval x = key) (hv : a.eval v = val) (hkey : keyOf P k key = some kl)
    (d : DataW H) (ps : List MemPlace) (hval : R val = some (d, ps))
    (hK : ∀ w', w'.ownsMap P k R b (n + 1) (D.put kl d) → w.grownBy w' (some b) → wpList P ops Q rest (a.put o.dst undef) w') :
    wpList P ops Q (o :: rest) a w := by
  refine wpList_plain hg fun K' hK' => ?_
  obtain ⟨w', hrun, r1, r2⟩ := hown.update K ht hn hkey hval
  unfold Oper.wp
  simp [execOp, hop, hm, hx, hv, hrun, Result.andThen]
  exact hK' _ _ (hK w' r1 r2)

/-- an element of any kind reads as itself -/
def HR : Value → Option (DataW Value × List MemPlace) := fun v => some (.held v, [])
def pol1V : Value := .func (.func 108) #[] #[]
def pol2V (s : Nat) : Value := .func (.func 109) #[] #[.pointer (some ⟨s, 0, none⟩), .pointer (some ⟨s + 2, 0, none⟩), .pointer (some ⟨s + 1, 0, none⟩)]
def pol3V (s : Nat) : Value := .func (.func 110) #[] #[.pointer (some ⟨s, 0, none⟩), .pointer (some ⟨s + 1, 0, none⟩), .pointer (some ⟨s + 2, 0, none⟩)]
/-- what the map of policies reads as -/
def polD (s : Nat) : DataW Value := (((DataW.map []).put (.int .i64 1) (.held pol1V)).put (.int .i64 2) (.held (pol2V s))).put (.int .i64 3) (.held (pol3V s))
def Pols (w : World) (b s : Nat) : Prop := w.ownsMap Tryd.prog 3 HR b 3 (polD s)
theorem lawInt : Keyed Tryd.prog 3 := int_keyed Tryd.underlying3
theorem zeroF (w : World) : (zeroValue 58).run Tryd.prog w = .ok .nilFunc w := by kernel_rfl
theorem Pols.look {w : World} {b s : Nat} (h : Pols w b s) (p : Int) (V : Value) (hp : (Lit.int .i64 p).wf = true) (hV : (polD s).atKey (.int .i64 p) (.held .nilFunc) = .held V) :
    (Instr.lookup 103 (.map (some b)) (.int .i64 p) false).run Tryd.prog w = .ok V w := by
  obtain ⟨v, ps, hrun, hv⟩ := World.ownsMap.lookup h lawInt Tryd.underlying103 (zeroF w) (zd := .held .nilFunc) (zp := []) rfl (keyOf_int_mk Tryd.underlying3 hp)
  have e := congrArg Prod.fst (Option.some.inj hv)
  rw [hV] at e
  have e2 : v = V := by simpa using e
  rw [hrun, e2]

def PolsRes (c : CalZ) (y t : Int) (w : World) (e : Ending) (w' : World) : Prop :=
  ∃ b, e = .returned (.map (some b)) ∧ Pols w' b w.heap.size ∧ CalIn w' w.heap.size c ∧ Cel w' (w.heap.size + 1) (.int .i64 y) ∧ Cel w' (w.heap.size + 2) (.int .i64 t) ∧ Below w.heap.size w w'

set_option maxRecDepth 100000 in
theorem policies_any (c : CalZ) (y t : Int) (w : World) : Calls Tryd.prog 91 #[.agg #[.string c.nm, .int .i64 c.k, .int .i64 c.d, .int .i64 c.m, .int .i64 c.s, .int .i64 c.sh, .int .i64 c.p0, .int .i64 c.p1, .int .i64 c.p2, .int .i64 c.cy, .int .i64 c.ex, .int .i64 c.fi, .int .i64 c.la, .int .i64 c.po], .int .i64 y, .int .i64 t] w fun e w' => PolsRes c y t w e w' := by
  have hmm := @run_makeMap Tryd.prog
  have C := CalIn.new w c 24
  have B := balloc (balloc (balloc (Below.refl _ w) (.cells #[.string c.nm, .int .i64 c.k, .int .i64 c.d, .int .i64 c.m, .int .i64 c.s, .int .i64 c.sh, .int .i64 c.p0, .int .i64 c.p1, .int .i64 c.p2, .int .i64 c.cy, .int .i64 c.ex, .int .i64 c.fi, .int .i64 c.la, .int .i64 c.po] 24)) (.cells #[.int .i64 y] 3)) (.cells #[.int .i64 t] 3)
  have Y := Cel.new (w.alloc (.cells #[.string c.nm, .int .i64 c.k, .int .i64 c.d, .int .i64 c.m, .int .i64 c.s, .int .i64 c.sh, .int .i64 c.p0, .int .i64 c.p1, .int .i64 c.p2, .int .i64 c.cy, .int .i64 c.ex, .int .i64 c.fi, .int .i64 c.la, .int .i64 c.po] 24)) (.int .i64 y) 3
  have Z := Cel.new ((w.alloc (.cells #[.string c.nm, .int .i64 c.k, .int .i64 c.d, .int .i64 c.m, .int .i64 c.s, .int .i64 c.sh, .int .i64 c.p0, .int .i64 c.p1, .int .i64 c.p2, .int .i64 c.cy, .int .i64 c.ex, .int .i64 c.fi, .int .i64 c.la, .int .i64 c.po] 24)).alloc (.cells #[.int .i64 y] 3)) (.int .i64 t) 3
  have z1 : (w.alloc (.cells #[.string c.nm, .int .i64 c.k, .int .i64 c.d, .int .i64 c.m, .int .i64 c.s, .int .i64 c.sh, .int .i64 c.p0, .int .i64 c.p1, .int .i64 c.p2, .int .i64 c.cy, .int .i64 c.ex, .int .i64 c.fi, .int .i64 c.la, .int .i64 c.po] 24)).heap.size = w.heap.size + 1 := by simp
  have z2 : ((w.alloc (.cells #[.string c.nm, .int .i64 c.k, .int .i64 c.d, .int .i64 c.m, .int .i64 c.s, .int .i64 c.sh, .int .i64 c.p0, .int .i64 c.p1, .int .i64 c.p2, .int .i64 c.cy, .int .i64 c.ex, .int .i64 c.fi, .int .i64 c.la, .int .i64 c.po] 24)).alloc (.cells #[.int .i64 y] 3)).heap.size = w.heap.size + 2 := by simp
  rw [z1] at Y
  rw [z2] at Z
  replace C := (C.alloc (.cells #[.int .i64 y] 3)).alloc (.cells #[.int .i64 t] 3)
  replace Y := Y.alloc (.cells #[.int .i64 t] 3)
  clear z1 z2
  go_enter Tryd.func91, Tryd.ntmps91
  go_upto_region 1 with fail
  generalize ((w.alloc (.cells #[.string c.nm, .int .i64 c.k, .int .i64 c.d, .int .i64 c.m, .int .i64 c.s, .int .i64 c.sh, .int .i64 c.p0, .int .i64 c.p1, .int .i64 c.p2, .int .i64 c.cy, .int .i64 c.ex, .int .i64 c.fi, .int .i64 c.la, .int .i64 c.po] 24)).alloc (.cells #[.int .i64 y] 3)).alloc (.cells #[.int .i64 t] 3) = W0 at *
  have hown0 : (W0.alloc (.map #[] 0)).ownsMap Tryd.prog 3 HR W0.heap.size 0 (.map []) := World.ownsMap_made _ _ _ _
  go_wp2_with (first
    | (refine wpList_insert_any _ rfl _ _ _ 103 rfl 3 58 lawInt Tryd.underlying103 _ W0.heap.size 2 _ rfl hown2 (by unfold maxLen; omega) _ _ _ rfl rfl (keyOf_int_mk Tryd.underlying3 (by decide)) _ [] rfl ?_; intro w3 hown3 hgr3)
    | (refine wpList_insert_any _ rfl _ _ _ 103 rfl 3 58 lawInt Tryd.underlying103 _ W0.heap.size 1 _ rfl hown1 (by unfold maxLen; omega) _ _ _ rfl rfl (keyOf_int_mk Tryd.underlying3 (by decide)) _ [] rfl ?_; intro w2 hown2 hgr2)
    | (refine wpList_insert_any _ rfl _ _ _ 103 rfl 3 58 lawInt Tryd.underlying103 _ W0.heap.size 0 _ rfl hown0 (by unfold maxLen; omega) _ _ _ rfl rfl (keyOf_int_mk Tryd.underlying3 (by decide)) _ [] rfl ?_; intro w1 hown1 hgr1))
  have hB : Below W0.heap.size W0 w3 := ((((Below.refl _ W0).alloc (Nat.le_refl _) _).grown hgr1 (by simp) (fun j hj => by cases hj; exact Nat.le_refl _)).grown hgr2 (by have := hgr1.size; simp at this; omega) (fun j hj => by cases hj; exact Nat.le_refl _)).grown hgr3 (by have := hgr1.size; have := hgr2.size; simp at *; omega) (fun j hj => by cases hj; exact Nat.le_refl _)
  have HP : PolsRes c y t w (.returned (.map (some W0.heap.size))) w3 := ⟨_, rfl, hown3, C.kept hB, Y.kept hB, Z.kept hB, bthen B hB⟩
  go_ret
  exact HP

end Go.Proofs.YtmagdlcikcgelaaDoor.Mp
