/- Texts that are joined: Icode7, Icode8, Icode9. -/
import Derived.Test.YtkfogmaogfgcgaaGreatDoorQaJI
namespace Go.Proofs.YtkfogmaogfgcgaaGreatDoor.Ip
set_option linter.unusedSimpArgs false
set_option linter.unusedVariables false
open Go.RowKit Bn Bx Cp Am Fp Ap Cm Em Ep Rk Hp

set_option maxHeartbeats 2000000

set_option maxRecDepth 100000 in
theorem fat1_any (c : CalZ) (y L d : Int) (i b1 b2 b3 : Nat) (r : Bool) (w : World) (ok : CalOk c) (y0 : 1601 ≤ y) (y1 : y ≤ 9997) (hL : LevOk L) (hi : (i : Int) < ucount c y L) (hr : r = decide (d ≤ uend c y L ((i : Int) + 1))) (C : FisIn w b1 c y) (hq : w.cell? ⟨b2, 0, none⟩ = some (.int .i64 L)) (hd : w.cell? ⟨b3, 0, none⟩ = some (.int .i64 d)) (hm : c.nm.size ≤ maxLen) (T : FTab w) :
    Calls Tryz.prog 239 #[.int .i64 (i : Int), .pointer (some ⟨b1, 0, none⟩), .pointer (some ⟨b2, 0, none⟩), .pointer (some ⟨b3, 0, none⟩)] w fun e w' => e = .returned (.bool r) ∧ Below w.heap.size w w' := by
  have ub := ucount_bd (L := L) ok.1 y0 y1
  obtain ⟨a, ha⟩ : ∃ a, a = uend c y L (i : Int) + 1 := ⟨_, rfl⟩
  obtain ⟨b, hb'⟩ : ∃ b, b = uend c y L ((i : Int) + 1) := ⟨_, rfl⟩
  have cs := fun w T => fspan_any c y L ((i : Int) + 1) a b w ok y0 y1 hL (by omega) (by omega) (by rw [ha, show (i : Int) + 1 - 1 = i by omega]) hb' hm T
  rw [← hb'] at hr
  have i0 : (0 : Int) ≤ (i : Int) := by omega
  have i1 : (i : Int) ≤ 60 := by omega
  have hw : IntKind.i64.wrap ((i : Int) + 1) = (i : Int) + 1 := by rw [IntWalk.i64_in _ (by omega)]
  clear ok hi hb' ha ub hL
  obtain ⟨⟨_, c0, c1, c2, c3, c4, c5, c6, c7, c8, c9, c10, c11, c12, c13⟩, c14⟩ := id C
  go_enter Tryz.func239, Tryz.ntmps239
  go_upto_region 1 with fail
  have qX := fun d os => Calls.regrown_of (cs (Go.Sort.grow (redrawn w d) os) (T.kept (below_regrown w d os)))
  have k0 := cell_regrown c0
  have k1 := cell_regrown c1
  have k2 := cell_regrown c2
  have k3 := cell_regrown c3
  have k4 := cell_regrown c4
  have k5 := cell_regrown c5
  have k6 := cell_regrown c6
  have k7 := cell_regrown c7
  have k8 := cell_regrown c8
  have k9 := cell_regrown c9
  have k10 := cell_regrown c10
  have k11 := cell_regrown c11
  have k12 := cell_regrown c12
  have k13 := cell_regrown c13
  have k14 := cell_regrown c14
  have kq := cell_regrown hq
  have kd := cell_regrown hd
  refine wp_region_quiet_below (by kernel_rfl) (by kernel_rfl) ?_
  repeat (quiet_step (exact qX _ _))
  refine wpQuiet_nil ?_
  intro _ hw'
  obtain ⟨⟨dq, osq⟩, hw''⟩ := hw'
  subst hw''
  have hb := below_regrown w dq osq
  generalize Go.Sort.grow (redrawn w dq) osq = w9 at hb ⊢
  go_wp2
  go_ret
  exact ⟨by rw [hr]; simp, hb⟩

set_option maxRecDepth 100000 in
theorem fat_any (c : CalZ) (y L d j : Int) (w : World) (ok : CalOk c) (y0 : 1601 ≤ y) (y1 : y ≤ 9997) (hL : LevOk L) (hj : InU c y L d j) (hm : c.nm.size ≤ maxLen) (T : FTab w) :
    Calls Tryz.prog 210 #[.agg #[.string c.nm, .int .i64 c.k, .int .i64 c.d, .int .i64 c.m, .int .i64 c.s, .int .i64 c.sh, .int .i64 c.p0, .int .i64 c.p1, .int .i64 c.p2, .int .i64 c.cy, .int .i64 c.ex, .int .i64 c.fi, .int .i64 c.la, .int .i64 c.po, .int .i64 y], .int .i64 L, .int .i64 d] w fun e w' => e = .returned (.agg #[.int .i64 L, .int .i64 y, .int .i64 j]) ∧ Below w.heap.size w w' := by
  have C := FisIn.new w c y 106
  have B := balloc (Below.refl _ w) (.cells #[.string c.nm, .int .i64 c.k, .int .i64 c.d, .int .i64 c.m, .int .i64 c.s, .int .i64 c.sh, .int .i64 c.p0, .int .i64 c.p1, .int .i64 c.p2, .int .i64 c.cy, .int .i64 c.ex, .int .i64 c.fi, .int .i64 c.la, .int .i64 c.po, .int .i64 y] 106)
  replace T := T.alloc (.cells #[.string c.nm, .int .i64 c.k, .int .i64 c.d, .int .i64 c.m, .int .i64 c.s, .int .i64 c.sh, .int .i64 c.p0, .int .i64 c.p1, .int .i64 c.p2, .int .i64 c.cy, .int .i64 c.ex, .int .i64 c.fi, .int .i64 c.la, .int .i64 c.po, .int .i64 y] 106)
  have ub := ucount_bd (L := L) ok.1 y0 y1
  obtain ⟨n, hn⟩ : ∃ n : Nat, (n : Int) = ucount c y L := ⟨(ucount c y L).toNat, by omega⟩
  obtain ⟨r, hr⟩ : ∃ r : Nat, (r : Int) = j - 1 := ⟨(j - 1).toNat, by have := hj.1; omega⟩
  have jb := hj.2.1
  have j0 := hj.1
  have cc := fun w T => fcount_any c y L (n : Int) w ok y0 y1 hL hn hm T
  have K0 := (FisIn.new w c y 106)
  have hz : ((((w.alloc (.cells #[.string c.nm, .int .i64 c.k, .int .i64 c.d, .int .i64 c.m, .int .i64 c.s, .int .i64 c.sh, .int .i64 c.p0, .int .i64 c.p1, .int .i64 c.p2, .int .i64 c.cy, .int .i64 c.ex, .int .i64 c.fi, .int .i64 c.la, .int .i64 c.po, .int .i64 y] 106)).alloc (.cells #[.int .i64 L] 3)).alloc (.cells #[.int .i64 d] 3)).alloc (.cells #[.int .i64 0, .int .i64 0, .int .i64 0] 26)).heap.size = w.heap.size + 4 := by simp
  have CS : Hid (∀ W, Below (w.heap.size + 4) ((((w.alloc (.cells #[.string c.nm, .int .i64 c.k, .int .i64 c.d, .int .i64 c.m, .int .i64 c.s, .int .i64 c.sh, .int .i64 c.p0, .int .i64 c.p1, .int .i64 c.p2, .int .i64 c.cy, .int .i64 c.ex, .int .i64 c.fi, .int .i64 c.la, .int .i64 c.po, .int .i64 y] 106)).alloc (.cells #[.int .i64 L] 3)).alloc (.cells #[.int .i64 d] 3)).alloc (.cells #[.int .i64 0, .int .i64 0, .int .i64 0] 26)) W → Calls Tryz.prog 46 #[.int .i64 (n : Int), .func (.func 239) #[] #[.pointer (some ⟨w.heap.size, 0, none⟩), .pointer (some ⟨w.heap.size + 1, 0, none⟩), .pointer (some ⟨w.heap.size + 2, 0, none⟩)]] W fun e w' => e = .returned (.int .i64 (r : Int)) ∧ Below W.heap.size W w') :=
    Lib.hid (fun W hW => by
      refine search_any n r _ _ W (by omega) (by omega) (fun _ _ => by rfl) (fun W2 i hb hi => ?_)
      have B3 : Below ((((w.alloc (.cells #[.string c.nm, .int .i64 c.k, .int .i64 c.d, .int .i64 c.m, .int .i64 c.s, .int .i64 c.sh, .int .i64 c.p0, .int .i64 c.p1, .int .i64 c.p2, .int .i64 c.cy, .int .i64 c.ex, .int .i64 c.fi, .int .i64 c.la, .int .i64 c.po, .int .i64 y] 106)).alloc (.cells #[.int .i64 L] 3)).alloc (.cells #[.int .i64 d] 3)).alloc (.cells #[.int .i64 0, .int .i64 0, .int .i64 0] 26)).heap.size ((((w.alloc (.cells #[.string c.nm, .int .i64 c.k, .int .i64 c.d, .int .i64 c.m, .int .i64 c.s, .int .i64 c.sh, .int .i64 c.p0, .int .i64 c.p1, .int .i64 c.p2, .int .i64 c.cy, .int .i64 c.ex, .int .i64 c.fi, .int .i64 c.la, .int .i64 c.po, .int .i64 y] 106)).alloc (.cells #[.int .i64 L] 3)).alloc (.cells #[.int .i64 d] 3)).alloc (.cells #[.int .i64 0, .int .i64 0, .int .i64 0] 26)) W2 := by rw [hz]; exact hW.trans (hb.mono (by have := hW.size; rw [hz] at this; exact this))
      have e := inu_lt (j := (i : Int) + 1) ok.1 y0 y1 hL hj (by omega) (by omega)
      rw [show decide (r ≤ i) = decide (d ≤ uend c y L ((i : Int) + 1)) from decide_eq_decide.2 (by omega)]
      exact fat1_any c y L d i w.heap.size (w.heap.size + 1) (w.heap.size + 2) _ W2 ok y0 y1 hL (by omega) rfl ((((K0.alloc _).alloc _).alloc _).kept B3) ((B3.cell (p := ⟨w.heap.size + 1, 0, none⟩) (by rw [hz]; show w.heap.size + 1 < _; omega)).trans (by simp [go_sem])) ((B3.cell (p := ⟨w.heap.size + 2, 0, none⟩) (by rw [hz]; show w.heap.size + 2 < _; omega)).trans (by simp [go_sem])) hm ((((T.alloc _).alloc _).alloc _).kept B3))
  have U := Bx.Tri.new (((w.alloc (.cells #[.string c.nm, .int .i64 c.k, .int .i64 c.d, .int .i64 c.m, .int .i64 c.s, .int .i64 c.sh, .int .i64 c.p0, .int .i64 c.p1, .int .i64 c.p2, .int .i64 c.cy, .int .i64 c.ex, .int .i64 c.fi, .int .i64 c.la, .int .i64 c.po, .int .i64 y] 106)).alloc (.cells #[.int .i64 L] 3)).alloc (.cells #[.int .i64 d] 3)) (.int .i64 0) (.int .i64 0) (.int .i64 0) 26
  have hz3 : (((w.alloc (.cells #[.string c.nm, .int .i64 c.k, .int .i64 c.d, .int .i64 c.m, .int .i64 c.s, .int .i64 c.sh, .int .i64 c.p0, .int .i64 c.p1, .int .i64 c.p2, .int .i64 c.cy, .int .i64 c.ex, .int .i64 c.fi, .int .i64 c.la, .int .i64 c.po, .int .i64 y] 106)).alloc (.cells #[.int .i64 L] 3)).alloc (.cells #[.int .i64 d] 3)).heap.size = w.heap.size + 3 := by simp
  rw [hz3] at U
  replace C := ((C.alloc (.cells #[.int .i64 L] 3)).alloc (.cells #[.int .i64 d] 3)).alloc (.cells #[.int .i64 0, .int .i64 0, .int .i64 0] 26)
  replace B := balloc (balloc (balloc B (.cells #[.int .i64 L] 3)) (.cells #[.int .i64 d] 3)) (.cells #[.int .i64 0, .int .i64 0, .int .i64 0] 26)
  replace T := ((T.alloc (.cells #[.int .i64 L] 3)).alloc (.cells #[.int .i64 d] 3)).alloc (.cells #[.int .i64 0, .int .i64 0, .int .i64 0] 26)
  have l1 : ((((w.alloc (.cells #[.string c.nm, .int .i64 c.k, .int .i64 c.d, .int .i64 c.m, .int .i64 c.s, .int .i64 c.sh, .int .i64 c.p0, .int .i64 c.p1, .int .i64 c.p2, .int .i64 c.cy, .int .i64 c.ex, .int .i64 c.fi, .int .i64 c.la, .int .i64 c.po, .int .i64 y] 106)).alloc (.cells #[.int .i64 L] 3)).alloc (.cells #[.int .i64 d] 3)).alloc (.cells #[.int .i64 0, .int .i64 0, .int .i64 0] 26)).cell? ⟨w.heap.size + 1, 0, none⟩ = some (.int .i64 L) := by simp [go_sem]
  have l2 : ((((w.alloc (.cells #[.string c.nm, .int .i64 c.k, .int .i64 c.d, .int .i64 c.m, .int .i64 c.s, .int .i64 c.sh, .int .i64 c.p0, .int .i64 c.p1, .int .i64 c.p2, .int .i64 c.cy, .int .i64 c.ex, .int .i64 c.fi, .int .i64 c.la, .int .i64 c.po, .int .i64 y] 106)).alloc (.cells #[.int .i64 L] 3)).alloc (.cells #[.int .i64 d] 3)).alloc (.cells #[.int .i64 0, .int .i64 0, .int .i64 0] 26)).cell? ⟨w.heap.size + 2, 0, none⟩ = some (.int .i64 d) := by simp [go_sem]
  have r0 : (0 : Int) ≤ r := by omega
  have r1 : (r : Int) ≤ 60 := by omega
  have ej : (r : Int) + 1 = j := by omega
  clear ok ub hn hr jb j0 K0 hj hL hz3
  go_enter Tryz.func210, Tryz.ntmps210
  go_upto_region 1 with fail
  generalize ((((w.alloc (.cells #[.string c.nm, .int .i64 c.k, .int .i64 c.d, .int .i64 c.m, .int .i64 c.s, .int .i64 c.sh, .int .i64 c.p0, .int .i64 c.p1, .int .i64 c.p2, .int .i64 c.cy, .int .i64 c.ex, .int .i64 c.fi, .int .i64 c.la, .int .i64 c.po, .int .i64 y] 106)).alloc (.cells #[.int .i64 L] 3)).alloc (.cells #[.int .i64 d] 3)).alloc (.cells #[.int .i64 0, .int .i64 0, .int .i64 0] 26)) = W0 at *
  obtain ⟨⟨_, c0, c1, c2, c3, c4, c5, c6, c7, c8, c9, c10, c11, c12, c13⟩, c14⟩ := id C
  go_wp2_with fail
  refine (cc _ T).mono ?_
  rintro e w1 ⟨rfl, hb⟩
  have cs := CS.out w1 (by rw [← hz]; exact hb)
  have q1 := (hb.cell (p := ⟨w.heap.size + 1, 0, none⟩) (by rw [hz]; show w.heap.size + 1 < _; omega)).trans l1
  replace B := bthen B hb
  replace C := C.kept hb
  replace U := U.kept hb
  have l9 : w.heap.size + 1 < w1.heap.size := by have := hb.size; omega
  clear cc CS l1 l2 T hb hz
  clear c0 c1 c2 c3 c4 c5 c6 c7 c8 c9 c10 c11 c12 c13 c14 
  go_wp2_with fail
  refine cs.mono ?_
  rintro e w2 ⟨rfl, hb2⟩
  replace C := C.kept hb2
  replace U := U.kept hb2
  replace B := bthen B hb2
  replace q1 := (hb2.cell (p := ⟨w.heap.size + 1, 0, none⟩) l9).trans q1
  clear hb2 cs
  obtain ⟨⟨_, c0, c1, c2, c3, c4, c5, c6, c7, c8, c9, c10, c11, c12, c13⟩, c14⟩ := id C
  obtain ⟨_, u0, u1, u2, fu0, fu1, fu2⟩ := id U
  go_wp2
  trace_state
  refine bodyPost_ret (v := .agg #[.int .i64 L, .int .i64 y, .int .i64 j]) (by simp [results, Tryz.results210, go_sem, *]) rfl ⟨rfl, ?_⟩
  exact bset (bset (bset B (by omega) _ _) (by omega) _ _) (by omega) _ _

end Go.Proofs.YtkfogmaogfgcgaaGreatDoor.Ip

namespace Go.Proofs.YtkfogmaogfgcgaaGreatDoor.Ip
set_option linter.unusedSimpArgs false
set_option linter.unusedVariables false
open Go.RowKit Bn Bx Cp Am Fp Ap Cm Em Ep Rk Hp

set_option maxHeartbeats 4000000

def UpA (c : CalZ) (L y i M p q r er : Int) : Prop :=
  (UnitOk c L y i ∧ 1 ≤ M ∧ M ≤ L ∧ InU c y M (uend c y L (i - 1) + 1) r ∧ p = M ∧ q = y ∧ er = 0) ∨ (UnitOk c L y i ∧ ¬ (1 ≤ M ∧ M ≤ L) ∧ p = 0 ∧ q = 0 ∧ r = 0 ∧ er = 1) ∨ (¬ UnitOk c L y i ∧ UChkA c L y i er ∧ p = 0 ∧ q = 0 ∧ r = 0)
def DownA (c : CalZ) (L y i M p q r s er : Int) : Prop :=
  (UnitOk c L y i ∧ L ≤ M ∧ M ≤ 5 ∧ InU c y M (uend c y L (i - 1) + 1) r ∧ InU c y M (uend c y L i) s ∧ p = M ∧ q = y ∧ er = 0) ∨ (UnitOk c L y i ∧ ¬ (L ≤ M ∧ M ≤ 5) ∧ p = 0 ∧ q = 0 ∧ r = 0 ∧ s = 0 ∧ er = 1) ∨ (¬ UnitOk c L y i ∧ UChkA c L y i er ∧ p = 0 ∧ q = 0 ∧ r = 0 ∧ s = 0)
theorem unit_days {c : CalZ} {L y i : Int} (h : UnitOk c L y i) : pend c y 0 < uend c y L (i - 1) + 1 ∧ uend c y L (i - 1) + 1 ≤ uend c y L i ∧ uend c y L i ≤ pend c y (per c) ∧ 1601 ≤ y ∧ y ≤ 9997 ∧ 1 ≤ L ∧ L ≤ 5 := by
  obtain ⟨ok, l, s, i0, i1⟩ := h
  have st := served_told ok s
  have a := uend_bd (y := y) (i := i - 1) ok.1 (by omega) (by omega) l (by omega) (by omega)
  have b := uend_bd (y := y) (i := i) ok.1 (by omega) (by omega) l (by omega) i1
  have d := uend_step (y := y) (i := i - 1) ok.1 (by omega) (by omega) l (by omega) (by omega)
  rw [show i - 1 + 1 = i by omega] at d
  unfold LevOk at l
  omega
set_option maxRecDepth 100000 in
theorem Up_any (c : CalZ) (L y i M p q r er : Int) (w : World) (R : UpA c L y i M p q r er) (hm : c.nm.size ≤ maxLen) (T : FTab w) :
    Calls Tryz.prog 159 #[.agg #[.string c.nm, .int .i64 c.k, .int .i64 c.d, .int .i64 c.m, .int .i64 c.s, .int .i64 c.sh, .int .i64 c.p0, .int .i64 c.p1, .int .i64 c.p2, .int .i64 c.cy, .int .i64 c.ex, .int .i64 c.fi, .int .i64 c.la, .int .i64 c.po], .agg #[.int .i64 L, .int .i64 y, .int .i64 i], .int .i64 M] w fun e w' => e = .returned (.tuple #[.agg #[.int .i64 p, .int .i64 q, .int .i64 r], .int .i64 er]) ∧ Below w.heap.size w w' := by
  have C := CalIn.new w c 24
  have B := balloc (Below.refl _ w) (.cells #[.string c.nm, .int .i64 c.k, .int .i64 c.d, .int .i64 c.m, .int .i64 c.s, .int .i64 c.sh, .int .i64 c.p0, .int .i64 c.p1, .int .i64 c.p2, .int .i64 c.cy, .int .i64 c.ex, .int .i64 c.fi, .int .i64 c.la, .int .i64 c.po] 24)
  replace T := T.alloc (.cells #[.string c.nm, .int .i64 c.k, .int .i64 c.d, .int .i64 c.m, .int .i64 c.s, .int .i64 c.sh, .int .i64 c.p0, .int .i64 c.p1, .int .i64 c.p2, .int .i64 c.cy, .int .i64 c.ex, .int .i64 c.fi, .int .i64 c.la, .int .i64 c.po] 24)
  have U := Bx.Tri.new (w.alloc (.cells #[.string c.nm, .int .i64 c.k, .int .i64 c.d, .int .i64 c.m, .int .i64 c.s, .int .i64 c.sh, .int .i64 c.p0, .int .i64 c.p1, .int .i64 c.p2, .int .i64 c.cy, .int .i64 c.ex, .int .i64 c.fi, .int .i64 c.la, .int .i64 c.po] 24)) (.int .i64 L) (.int .i64 y) (.int .i64 i) 26
  rw [World.size_alloc] at U
  have K := Bx.Tri.new ((w.alloc (.cells #[.string c.nm, .int .i64 c.k, .int .i64 c.d, .int .i64 c.m, .int .i64 c.s, .int .i64 c.sh, .int .i64 c.p0, .int .i64 c.p1, .int .i64 c.p2, .int .i64 c.cy, .int .i64 c.ex, .int .i64 c.fi, .int .i64 c.la, .int .i64 c.po] 24)).alloc (.cells #[.int .i64 L, .int .i64 y, .int .i64 i] 26)) (.int .i64 0) (.int .i64 0) (.int .i64 0) 26
  have zz : ((w.alloc (.cells #[.string c.nm, .int .i64 c.k, .int .i64 c.d, .int .i64 c.m, .int .i64 c.s, .int .i64 c.sh, .int .i64 c.p0, .int .i64 c.p1, .int .i64 c.p2, .int .i64 c.cy, .int .i64 c.ex, .int .i64 c.fi, .int .i64 c.la, .int .i64 c.po] 24)).alloc (.cells #[.int .i64 L, .int .i64 y, .int .i64 i] 26)).heap.size = w.heap.size + 2 := by simp
  rw [zz] at K
  replace U := U.alloc (.cells #[.int .i64 0, .int .i64 0, .int .i64 0] 26)
  replace C := (C.alloc (.cells #[.int .i64 L, .int .i64 y, .int .i64 i] 26)).alloc (.cells #[.int .i64 0, .int .i64 0, .int .i64 0] 26)
  replace B := balloc (balloc B (.cells #[.int .i64 L, .int .i64 y, .int .i64 i] 26)) (.cells #[.int .i64 0, .int .i64 0, .int .i64 0] 26)
  replace T := (T.alloc (.cells #[.int .i64 L, .int .i64 y, .int .i64 i] 26)).alloc (.cells #[.int .i64 0, .int .i64 0, .int .i64 0] 26)
  clear zz
  rcases R with ⟨uo, m0, m1, hr, rfl, rfl, rfl⟩ | ⟨uo, mm, rfl, rfl, rfl, rfl⟩ | ⟨no, ck, rfl, rfl, rfl⟩
  · have ud := unit_days uo
    obtain ⟨a, ha⟩ : ∃ a, a = uend c q L (i - 1) + 1 := ⟨_, rfl⟩
    obtain ⟨b, hb'⟩ : ∃ b, b = uend c q L i := ⟨_, rfl⟩
    have cs := fun w T => Span_any c L q i a b 0 w (.inl ⟨uo, ha, hb', rfl⟩) hm T
    have cl := fun w => isLevel_any p true w (decide_eq_true ⟨m0, by omega⟩).symm
    have ca := fun w T => fat_any c q p a r w uo.1 (by omega) (by omega) ⟨m0, by omega⟩ (by rw [ha]; exact hr) hm T
    have dl : decide (L < p) = false := decide_eq_false (by omega)
    clear uo hr ha hb' ud m0 m1
    go_enter Tryz.func159, Tryz.ntmps159
    go_upto_region 1 with fail
    generalize ((w.alloc (.cells #[.string c.nm, .int .i64 c.k, .int .i64 c.d, .int .i64 c.m, .int .i64 c.s, .int .i64 c.sh, .int .i64 c.p0, .int .i64 c.p1, .int .i64 c.p2, .int .i64 c.cy, .int .i64 c.ex, .int .i64 c.fi, .int .i64 c.la, .int .i64 c.po] 24)).alloc (.cells #[.int .i64 L, .int .i64 q, .int .i64 i] 26)).alloc (.cells #[.int .i64 0, .int .i64 0, .int .i64 0] 26) = W0 at *
    obtain ⟨_, c0, c1, c2, c3, c4, c5, c6, c7, c8, c9, c10, c11, c12, c13⟩ := id C
    obtain ⟨_, u0, u1, u2, fu0, fu1, fu2⟩ := id U
    obtain ⟨_, r0, r1, r2, g0, g1, g2⟩ := id K
    go_wp2_with fail
    refine (cs _ T).mono ?_
    rintro e w1 ⟨rfl, hb⟩
    replace C := C.kept hb
    replace B := bthen B hb
    replace T := T.kept hb
    replace U := U.kept hb
    replace K := K.kept hb
    clear hb c0 c1 c2 c3 c4 c5 c6 c7 c8 c9 c10 c11 c12 c13 u0 u1 u2 fu0 fu1 fu2 r0 r1 r2 g0 g1 g2
    obtain ⟨_, c0, c1, c2, c3, c4, c5, c6, c7, c8, c9, c10, c11, c12, c13⟩ := id C
    obtain ⟨_, u0, u1, u2, fu0, fu1, fu2⟩ := id U
    obtain ⟨_, r0, r1, r2, g0, g1, g2⟩ := id K
    have S := Pr.Two.new w1 (.int .i64 a) (.int .i64 b) 34
    replace C := C.alloc (.cells #[.int .i64 a, .int .i64 b] 34)
    replace T := T.alloc (.cells #[.int .i64 a, .int .i64 b] 34)
    replace U := U.alloc (.cells #[.int .i64 a, .int .i64 b] 34)
    replace K := K.alloc (.cells #[.int .i64 a, .int .i64 b] 34)
    replace B := balloc B (.cells #[.int .i64 a, .int .i64 b] 34)
    clear c0 c1 c2 c3 c4 c5 c6 c7 c8 c9 c10 c11 c12 c13 u0 u1 u2 fu0 fu1 fu2 r0 r1 r2 g0 g1 g2
    obtain ⟨_, c0, c1, c2, c3, c4, c5, c6, c7, c8, c9, c10, c11, c12, c13⟩ := id C
    obtain ⟨_, u0, u1, u2, fu0, fu1, fu2⟩ := id U
    obtain ⟨_, r0, r1, r2, g0, g1, g2⟩ := id K
    obtain ⟨_, s0, s1, q0, q1⟩ := id S
    go_wp2_with fail
    refine (cl _).mono ?_
    rintro e w2 ⟨rfl, hb⟩
    replace C := C.kept hb
    replace B := bthen B hb
    replace T := T.kept hb
    replace U := U.kept hb
    replace K := K.kept hb
    replace S := S.kept hb
    clear hb c0 c1 c2 c3 c4 c5 c6 c7 c8 c9 c10 c11 c12 c13 u0 u1 u2 fu0 fu1 fu2 r0 r1 r2 g0 g1 g2 s0 s1 q0 q1
    obtain ⟨_, c0, c1, c2, c3, c4, c5, c6, c7, c8, c9, c10, c11, c12, c13⟩ := id C
    obtain ⟨_, u0, u1, u2, fu0, fu1, fu2⟩ := id U
    obtain ⟨_, r0, r1, r2, g0, g1, g2⟩ := id K
    obtain ⟨_, s0, s1, q0, q1⟩ := id S
    go_wp2_with fail
    refine (ca _ T).mono ?_
    rintro e w3 ⟨rfl, hb⟩
    replace C := C.kept hb
    replace B := bthen B hb
    replace T := T.kept hb
    replace U := U.kept hb
    replace K := K.kept hb
    replace S := S.kept hb
    clear hb c0 c1 c2 c3 c4 c5 c6 c7 c8 c9 c10 c11 c12 c13 u0 u1 u2 fu0 fu1 fu2 r0 r1 r2 g0 g1 g2 s0 s1 q0 q1
    obtain ⟨_, c0, c1, c2, c3, c4, c5, c6, c7, c8, c9, c10, c11, c12, c13⟩ := id C
    obtain ⟨_, u0, u1, u2, fu0, fu1, fu2⟩ := id U
    obtain ⟨_, r0, r1, r2, g0, g1, g2⟩ := id K
    obtain ⟨_, s0, s1, q0, q1⟩ := id S
    go_wp2
    refine bodyPost_ret (v := .tuple #[.agg #[.int .i64 p, .int .i64 q, .int .i64 r], .int .i64 0]) (by simp [results, Tryz.results159, go_sem, *]) rfl ⟨rfl, ?_⟩
    exact bset (bset (bset B (by omega) _ _) (by omega) _ _) (by omega) _ _
  · obtain ⟨a, ha⟩ : ∃ a, a = uend c y L (i - 1) + 1 := ⟨_, rfl⟩
    obtain ⟨b, hb'⟩ : ∃ b, b = uend c y L i := ⟨_, rfl⟩
    have cs := fun w T => Span_any c L y i a b 0 w (.inl ⟨uo, ha, hb', rfl⟩) hm T
    obtain ⟨l, hl⟩ : ∃ l, l = decide (LevOk M) := ⟨_, rfl⟩
    have cl := fun w => isLevel_any M l w hl
    have O : l = false ∨ (l = true ∧ decide (L < M) = true) := by
      rw [hl]
      by_cases h : LevOk M
      · refine .inr ⟨decide_eq_true h, decide_eq_true ?_⟩
        unfold LevOk at h; omega
      · exact .inl (decide_eq_false h)
    clear uo mm ha hb' hl
    rcases O with rfl | ⟨rfl, dl⟩
    all_goals
      go_enter Tryz.func159, Tryz.ntmps159
      go_upto_region 1 with fail
      generalize ((w.alloc (.cells #[.string c.nm, .int .i64 c.k, .int .i64 c.d, .int .i64 c.m, .int .i64 c.s, .int .i64 c.sh, .int .i64 c.p0, .int .i64 c.p1, .int .i64 c.p2, .int .i64 c.cy, .int .i64 c.ex, .int .i64 c.fi, .int .i64 c.la, .int .i64 c.po] 24)).alloc (.cells #[.int .i64 L, .int .i64 y, .int .i64 i] 26)).alloc (.cells #[.int .i64 0, .int .i64 0, .int .i64 0] 26) = W0 at *
      obtain ⟨_, c0, c1, c2, c3, c4, c5, c6, c7, c8, c9, c10, c11, c12, c13⟩ := id C
      obtain ⟨_, u0, u1, u2, fu0, fu1, fu2⟩ := id U
      obtain ⟨_, r0, r1, r2, g0, g1, g2⟩ := id K
      go_wp2_with fail
      refine (cs _ T).mono ?_
      rintro e w4 ⟨rfl, hb⟩
      replace C := C.kept hb
      replace B := bthen B hb
      replace T := T.kept hb
      replace U := U.kept hb
      replace K := K.kept hb
      clear hb c0 c1 c2 c3 c4 c5 c6 c7 c8 c9 c10 c11 c12 c13 u0 u1 u2 fu0 fu1 fu2 r0 r1 r2 g0 g1 g2
      obtain ⟨_, c0, c1, c2, c3, c4, c5, c6, c7, c8, c9, c10, c11, c12, c13⟩ := id C
      obtain ⟨_, u0, u1, u2, fu0, fu1, fu2⟩ := id U
      obtain ⟨_, r0, r1, r2, g0, g1, g2⟩ := id K
      have S := Pr.Two.new w4 (.int .i64 a) (.int .i64 b) 34
      replace C := C.alloc (.cells #[.int .i64 a, .int .i64 b] 34)
      replace T := T.alloc (.cells #[.int .i64 a, .int .i64 b] 34)
      replace U := U.alloc (.cells #[.int .i64 a, .int .i64 b] 34)
      replace K := K.alloc (.cells #[.int .i64 a, .int .i64 b] 34)
      replace B := balloc B (.cells #[.int .i64 a, .int .i64 b] 34)
      clear c0 c1 c2 c3 c4 c5 c6 c7 c8 c9 c10 c11 c12 c13 u0 u1 u2 fu0 fu1 fu2 r0 r1 r2 g0 g1 g2
      obtain ⟨_, c0, c1, c2, c3, c4, c5, c6, c7, c8, c9, c10, c11, c12, c13⟩ := id C
      obtain ⟨_, u0, u1, u2, fu0, fu1, fu2⟩ := id U
      obtain ⟨_, r0, r1, r2, g0, g1, g2⟩ := id K
      obtain ⟨_, s0, s1, q0, q1⟩ := id S
      go_wp2_with fail
      refine (cl _).mono ?_
      rintro e w5 ⟨rfl, hb⟩
      replace C := C.kept hb
      replace B := bthen B hb
      replace T := T.kept hb
      replace U := U.kept hb
      replace K := K.kept hb
      replace S := S.kept hb
      clear hb c0 c1 c2 c3 c4 c5 c6 c7 c8 c9 c10 c11 c12 c13 u0 u1 u2 fu0 fu1 fu2 r0 r1 r2 g0 g1 g2 s0 s1 q0 q1
      obtain ⟨_, c0, c1, c2, c3, c4, c5, c6, c7, c8, c9, c10, c11, c12, c13⟩ := id C
      obtain ⟨_, u0, u1, u2, fu0, fu1, fu2⟩ := id U
      obtain ⟨_, r0, r1, r2, g0, g1, g2⟩ := id K
      obtain ⟨_, s0, s1, q0, q1⟩ := id S
      go_wp2
      refine bodyPost_ret (v := .tuple #[.agg #[.int .i64 0, .int .i64 0, .int .i64 0], .int .i64 1]) (by simp [results, Tryz.results159, go_sem, *]) rfl ⟨rfl, ?_⟩
      exact bset (bset (bset B (by omega) _ _) (by omega) _ _) (by omega) _ _
  · have cs := fun w T => Span_any c L y i 0 0 er w (.inr ⟨no, ck, rfl, rfl⟩) hm T
    have O := spana_no ck (fun q => no ((uchka_ok ck).1 q))
    clear no ck
    rcases O with rfl | rfl | rfl
    all_goals
      go_enter Tryz.func159, Tryz.ntmps159
      go_upto_region 1 with fail
      generalize ((w.alloc (.cells #[.string c.nm, .int .i64 c.k, .int .i64 c.d, .int .i64 c.m, .int .i64 c.s, .int .i64 c.sh, .int .i64 c.p0, .int .i64 c.p1, .int .i64 c.p2, .int .i64 c.cy, .int .i64 c.ex, .int .i64 c.fi, .int .i64 c.la, .int .i64 c.po] 24)).alloc (.cells #[.int .i64 L, .int .i64 y, .int .i64 i] 26)).alloc (.cells #[.int .i64 0, .int .i64 0, .int .i64 0] 26) = W0 at *
      obtain ⟨_, c0, c1, c2, c3, c4, c5, c6, c7, c8, c9, c10, c11, c12, c13⟩ := id C
      obtain ⟨_, u0, u1, u2, fu0, fu1, fu2⟩ := id U
      obtain ⟨_, r0, r1, r2, g0, g1, g2⟩ := id K
      go_wp2_with fail
      refine (cs _ T).mono ?_
      rintro e w6 ⟨rfl, hb⟩
      replace C := C.kept hb
      replace B := bthen B hb
      replace T := T.kept hb
      replace U := U.kept hb
      replace K := K.kept hb
      clear hb c0 c1 c2 c3 c4 c5 c6 c7 c8 c9 c10 c11 c12 c13 u0 u1 u2 fu0 fu1 fu2 r0 r1 r2 g0 g1 g2
      obtain ⟨_, c0, c1, c2, c3, c4, c5, c6, c7, c8, c9, c10, c11, c12, c13⟩ := id C
      obtain ⟨_, u0, u1, u2, fu0, fu1, fu2⟩ := id U
      obtain ⟨_, r0, r1, r2, g0, g1, g2⟩ := id K
      go_wp2
      refine bodyPost_ret (v := .tuple #[.agg #[.int .i64 0, .int .i64 0, .int .i64 0], .int .i64 _]) (by simp [results, Tryz.results159, go_sem, *]) rfl ⟨rfl, ?_⟩
      exact balloc (bset (bset (bset B (by omega) _ _) (by omega) _ _) (by omega) _ _) _

end Go.Proofs.YtkfogmaogfgcgaaGreatDoor.Ip

namespace Go.Proofs.YtkfogmaogfgcgaaGreatDoor.Ip
set_option linter.unusedSimpArgs false
set_option linter.unusedVariables false
open Go.RowKit Bn Bx Cp Am Fp Ap Cm Em Ep Rk Hp

set_option maxHeartbeats 4000000

set_option maxRecDepth 100000 in
theorem Down_any (c : CalZ) (L y i M p q r s er : Int) (w : World) (R : DownA c L y i M p q r s er) (hm : c.nm.size ≤ maxLen) (T : FTab w) :
    Calls Tryz.prog 160 #[.agg #[.string c.nm, .int .i64 c.k, .int .i64 c.d, .int .i64 c.m, .int .i64 c.s, .int .i64 c.sh, .int .i64 c.p0, .int .i64 c.p1, .int .i64 c.p2, .int .i64 c.cy, .int .i64 c.ex, .int .i64 c.fi, .int .i64 c.la, .int .i64 c.po], .agg #[.int .i64 L, .int .i64 y, .int .i64 i], .int .i64 M] w fun e w' => e = .returned (.tuple #[.agg #[.int .i64 p, .int .i64 q, .int .i64 r], .agg #[.int .i64 p, .int .i64 q, .int .i64 s], .int .i64 er]) ∧ Below w.heap.size w w' := by
  have C := CalIn.new w c 24
  have B := balloc (Below.refl _ w) (.cells #[.string c.nm, .int .i64 c.k, .int .i64 c.d, .int .i64 c.m, .int .i64 c.s, .int .i64 c.sh, .int .i64 c.p0, .int .i64 c.p1, .int .i64 c.p2, .int .i64 c.cy, .int .i64 c.ex, .int .i64 c.fi, .int .i64 c.la, .int .i64 c.po] 24)
  replace T := T.alloc (.cells #[.string c.nm, .int .i64 c.k, .int .i64 c.d, .int .i64 c.m, .int .i64 c.s, .int .i64 c.sh, .int .i64 c.p0, .int .i64 c.p1, .int .i64 c.p2, .int .i64 c.cy, .int .i64 c.ex, .int .i64 c.fi, .int .i64 c.la, .int .i64 c.po] 24)
  have U := Bx.Tri.new (w.alloc (.cells #[.string c.nm, .int .i64 c.k, .int .i64 c.d, .int .i64 c.m, .int .i64 c.s, .int .i64 c.sh, .int .i64 c.p0, .int .i64 c.p1, .int .i64 c.p2, .int .i64 c.cy, .int .i64 c.ex, .int .i64 c.fi, .int .i64 c.la, .int .i64 c.po] 24)) (.int .i64 L) (.int .i64 y) (.int .i64 i) 26
  rw [World.size_alloc] at U
  have K := Bx.Tri.new ((w.alloc (.cells #[.string c.nm, .int .i64 c.k, .int .i64 c.d, .int .i64 c.m, .int .i64 c.s, .int .i64 c.sh, .int .i64 c.p0, .int .i64 c.p1, .int .i64 c.p2, .int .i64 c.cy, .int .i64 c.ex, .int .i64 c.fi, .int .i64 c.la, .int .i64 c.po] 24)).alloc (.cells #[.int .i64 L, .int .i64 y, .int .i64 i] 26)) (.int .i64 0) (.int .i64 0) (.int .i64 0) 26
  have zz : ((w.alloc (.cells #[.string c.nm, .int .i64 c.k, .int .i64 c.d, .int .i64 c.m, .int .i64 c.s, .int .i64 c.sh, .int .i64 c.p0, .int .i64 c.p1, .int .i64 c.p2, .int .i64 c.cy, .int .i64 c.ex, .int .i64 c.fi, .int .i64 c.la, .int .i64 c.po] 24)).alloc (.cells #[.int .i64 L, .int .i64 y, .int .i64 i] 26)).heap.size = w.heap.size + 2 := by simp
  rw [zz] at K
  have N := Bx.Tri.new (((w.alloc (.cells #[.string c.nm, .int .i64 c.k, .int .i64 c.d, .int .i64 c.m, .int .i64 c.s, .int .i64 c.sh, .int .i64 c.p0, .int .i64 c.p1, .int .i64 c.p2, .int .i64 c.cy, .int .i64 c.ex, .int .i64 c.fi, .int .i64 c.la, .int .i64 c.po] 24)).alloc (.cells #[.int .i64 L, .int .i64 y, .int .i64 i] 26)).alloc (.cells #[.int .i64 0, .int .i64 0, .int .i64 0] 26)) (.int .i64 0) (.int .i64 0) (.int .i64 0) 26
  have zz3 : (((w.alloc (.cells #[.string c.nm, .int .i64 c.k, .int .i64 c.d, .int .i64 c.m, .int .i64 c.s, .int .i64 c.sh, .int .i64 c.p0, .int .i64 c.p1, .int .i64 c.p2, .int .i64 c.cy, .int .i64 c.ex, .int .i64 c.fi, .int .i64 c.la, .int .i64 c.po] 24)).alloc (.cells #[.int .i64 L, .int .i64 y, .int .i64 i] 26)).alloc (.cells #[.int .i64 0, .int .i64 0, .int .i64 0] 26)).heap.size = w.heap.size + 3 := by simp
  rw [zz3] at N
  replace U := (U.alloc (.cells #[.int .i64 0, .int .i64 0, .int .i64 0] 26)).alloc (.cells #[.int .i64 0, .int .i64 0, .int .i64 0] 26)
  replace K := K.alloc (.cells #[.int .i64 0, .int .i64 0, .int .i64 0] 26)
  replace C := ((C.alloc (.cells #[.int .i64 L, .int .i64 y, .int .i64 i] 26)).alloc (.cells #[.int .i64 0, .int .i64 0, .int .i64 0] 26)).alloc (.cells #[.int .i64 0, .int .i64 0, .int .i64 0] 26)
  replace B := balloc (balloc (balloc B (.cells #[.int .i64 L, .int .i64 y, .int .i64 i] 26)) (.cells #[.int .i64 0, .int .i64 0, .int .i64 0] 26)) (.cells #[.int .i64 0, .int .i64 0, .int .i64 0] 26)
  replace T := ((T.alloc (.cells #[.int .i64 L, .int .i64 y, .int .i64 i] 26)).alloc (.cells #[.int .i64 0, .int .i64 0, .int .i64 0] 26)).alloc (.cells #[.int .i64 0, .int .i64 0, .int .i64 0] 26)
  clear zz zz3
  rcases R with ⟨uo, m0, m1, hr, hs, rfl, rfl, rfl⟩ | ⟨uo, mm, rfl, rfl, rfl, rfl, rfl⟩ | ⟨no, ck, rfl, rfl, rfl, rfl⟩
  · have ud := unit_days uo
    obtain ⟨a, ha⟩ : ∃ a, a = uend c q L (i - 1) + 1 := ⟨_, rfl⟩
    obtain ⟨b, hb'⟩ : ∃ b, b = uend c q L i := ⟨_, rfl⟩
    have cs := fun w T => Span_any c L q i a b 0 w (.inl ⟨uo, ha, hb', rfl⟩) hm T
    have cl := fun w => isLevel_any p true w (decide_eq_true ⟨by omega, m1⟩).symm
    have ca := fun w T => fat_any c q p a r w uo.1 (by omega) (by omega) ⟨by omega, m1⟩ (by rw [ha]; exact hr) hm T
    have cb := fun w T => fat_any c q p b s w uo.1 (by omega) (by omega) ⟨by omega, m1⟩ (by rw [hb']; exact hs) hm T
    have dl : decide (p < L) = false := decide_eq_false (by omega)
    clear uo hr hs ha hb' ud m0 m1
    have : True := trivial
    go_enter Tryz.func160, Tryz.ntmps160
    go_upto_region 1 with fail
    generalize (((w.alloc (.cells #[.string c.nm, .int .i64 c.k, .int .i64 c.d, .int .i64 c.m, .int .i64 c.s, .int .i64 c.sh, .int .i64 c.p0, .int .i64 c.p1, .int .i64 c.p2, .int .i64 c.cy, .int .i64 c.ex, .int .i64 c.fi, .int .i64 c.la, .int .i64 c.po] 24)).alloc (.cells #[.int .i64 L, .int .i64 q, .int .i64 i] 26)).alloc (.cells #[.int .i64 0, .int .i64 0, .int .i64 0] 26)).alloc (.cells #[.int .i64 0, .int .i64 0, .int .i64 0] 26) = W0 at *
    obtain ⟨_, c0, c1, c2, c3, c4, c5, c6, c7, c8, c9, c10, c11, c12, c13⟩ := id C
    obtain ⟨_, u0, u1, u2, fu0, fu1, fu2⟩ := id U
    obtain ⟨_, r0, r1, r2, g0, g1, g2⟩ := id K
    obtain ⟨_, n0, n1, n2, h0, h1, h2⟩ := id N
    go_wp2_with fail
    refine (cs _ T).mono ?_
    rintro e w1 ⟨rfl, hb⟩
    replace C := C.kept hb
    replace B := bthen B hb
    replace T := T.kept hb
    replace U := U.kept hb
    replace K := K.kept hb
    replace N := N.kept hb
    clear hb c0 c1 c2 c3 c4 c5 c6 c7 c8 c9 c10 c11 c12 c13 u0 u1 u2 fu0 fu1 fu2 r0 r1 r2 g0 g1 g2 n0 n1 n2 h0 h1 h2
    obtain ⟨_, c0, c1, c2, c3, c4, c5, c6, c7, c8, c9, c10, c11, c12, c13⟩ := id C
    obtain ⟨_, u0, u1, u2, fu0, fu1, fu2⟩ := id U
    obtain ⟨_, r0, r1, r2, g0, g1, g2⟩ := id K
    obtain ⟨_, n0, n1, n2, h0, h1, h2⟩ := id N
    have S := Pr.Two.new w1 (.int .i64 a) (.int .i64 b) 34
    replace C := C.alloc (.cells #[.int .i64 a, .int .i64 b] 34)
    replace T := T.alloc (.cells #[.int .i64 a, .int .i64 b] 34)
    replace U := U.alloc (.cells #[.int .i64 a, .int .i64 b] 34)
    replace K := K.alloc (.cells #[.int .i64 a, .int .i64 b] 34)
    replace N := N.alloc (.cells #[.int .i64 a, .int .i64 b] 34)
    replace B := balloc B (.cells #[.int .i64 a, .int .i64 b] 34)
    clear c0 c1 c2 c3 c4 c5 c6 c7 c8 c9 c10 c11 c12 c13 u0 u1 u2 fu0 fu1 fu2 r0 r1 r2 g0 g1 g2 n0 n1 n2 h0 h1 h2
    obtain ⟨_, c0, c1, c2, c3, c4, c5, c6, c7, c8, c9, c10, c11, c12, c13⟩ := id C
    obtain ⟨_, u0, u1, u2, fu0, fu1, fu2⟩ := id U
    obtain ⟨_, r0, r1, r2, g0, g1, g2⟩ := id K
    obtain ⟨_, n0, n1, n2, h0, h1, h2⟩ := id N
    obtain ⟨_, s0, s1, q0, q1⟩ := id S
    go_wp2_with fail
    refine (cl _).mono ?_
    rintro e w2 ⟨rfl, hb⟩
    replace C := C.kept hb
    replace B := bthen B hb
    replace T := T.kept hb
    replace U := U.kept hb
    replace K := K.kept hb
    replace N := N.kept hb
    replace S := S.kept hb
    clear hb c0 c1 c2 c3 c4 c5 c6 c7 c8 c9 c10 c11 c12 c13 u0 u1 u2 fu0 fu1 fu2 r0 r1 r2 g0 g1 g2 n0 n1 n2 h0 h1 h2 s0 s1 q0 q1
    obtain ⟨_, c0, c1, c2, c3, c4, c5, c6, c7, c8, c9, c10, c11, c12, c13⟩ := id C
    obtain ⟨_, u0, u1, u2, fu0, fu1, fu2⟩ := id U
    obtain ⟨_, r0, r1, r2, g0, g1, g2⟩ := id K
    obtain ⟨_, n0, n1, n2, h0, h1, h2⟩ := id N
    obtain ⟨_, s0, s1, q0, q1⟩ := id S
    go_wp2
    have D := FisIn.new w2 c q 106
    replace C := C.alloc ((.cells #[.string c.nm, .int .i64 c.k, .int .i64 c.d, .int .i64 c.m, .int .i64 c.s, .int .i64 c.sh, .int .i64 c.p0, .int .i64 c.p1, .int .i64 c.p2, .int .i64 c.cy, .int .i64 c.ex, .int .i64 c.fi, .int .i64 c.la, .int .i64 c.po, .int .i64 q] 106))
    replace T := T.alloc ((.cells #[.string c.nm, .int .i64 c.k, .int .i64 c.d, .int .i64 c.m, .int .i64 c.s, .int .i64 c.sh, .int .i64 c.p0, .int .i64 c.p1, .int .i64 c.p2, .int .i64 c.cy, .int .i64 c.ex, .int .i64 c.fi, .int .i64 c.la, .int .i64 c.po, .int .i64 q] 106))
    replace U := U.alloc ((.cells #[.string c.nm, .int .i64 c.k, .int .i64 c.d, .int .i64 c.m, .int .i64 c.s, .int .i64 c.sh, .int .i64 c.p0, .int .i64 c.p1, .int .i64 c.p2, .int .i64 c.cy, .int .i64 c.ex, .int .i64 c.fi, .int .i64 c.la, .int .i64 c.po, .int .i64 q] 106))
    replace K := K.alloc ((.cells #[.string c.nm, .int .i64 c.k, .int .i64 c.d, .int .i64 c.m, .int .i64 c.s, .int .i64 c.sh, .int .i64 c.p0, .int .i64 c.p1, .int .i64 c.p2, .int .i64 c.cy, .int .i64 c.ex, .int .i64 c.fi, .int .i64 c.la, .int .i64 c.po, .int .i64 q] 106))
    replace N := N.alloc ((.cells #[.string c.nm, .int .i64 c.k, .int .i64 c.d, .int .i64 c.m, .int .i64 c.s, .int .i64 c.sh, .int .i64 c.p0, .int .i64 c.p1, .int .i64 c.p2, .int .i64 c.cy, .int .i64 c.ex, .int .i64 c.fi, .int .i64 c.la, .int .i64 c.po, .int .i64 q] 106))
    replace S := S.alloc ((.cells #[.string c.nm, .int .i64 c.k, .int .i64 c.d, .int .i64 c.m, .int .i64 c.s, .int .i64 c.sh, .int .i64 c.p0, .int .i64 c.p1, .int .i64 c.p2, .int .i64 c.cy, .int .i64 c.ex, .int .i64 c.fi, .int .i64 c.la, .int .i64 c.po, .int .i64 q] 106))
    replace B := balloc B ((.cells #[.string c.nm, .int .i64 c.k, .int .i64 c.d, .int .i64 c.m, .int .i64 c.s, .int .i64 c.sh, .int .i64 c.p0, .int .i64 c.p1, .int .i64 c.p2, .int .i64 c.cy, .int .i64 c.ex, .int .i64 c.fi, .int .i64 c.la, .int .i64 c.po, .int .i64 q] 106))
    clear c0 c1 c2 c3 c4 c5 c6 c7 c8 c9 c10 c11 c12 c13 u0 u1 u2 fu0 fu1 fu2 r0 r1 r2 g0 g1 g2 n0 n1 n2 h0 h1 h2 s0 s1 q0 q1
    obtain ⟨_, c0, c1, c2, c3, c4, c5, c6, c7, c8, c9, c10, c11, c12, c13⟩ := id C
    obtain ⟨_, u0, u1, u2, fu0, fu1, fu2⟩ := id U
    obtain ⟨_, r0, r1, r2, g0, g1, g2⟩ := id K
    obtain ⟨_, n0, n1, n2, h0, h1, h2⟩ := id N
    obtain ⟨_, s0, s1, q0, q1⟩ := id S
    generalize w2.alloc (.cells #[.string c.nm, .int .i64 c.k, .int .i64 c.d, .int .i64 c.m, .int .i64 c.s, .int .i64 c.sh, .int .i64 c.p0, .int .i64 c.p1, .int .i64 c.p2, .int .i64 c.cy, .int .i64 c.ex, .int .i64 c.fi, .int .i64 c.la, .int .i64 c.po, .int .i64 q] 106) = W8 at *
    obtain ⟨⟨_, d0, d1, d2, d3, d4, d5, d6, d7, d8, d9, d10, d11, d12, d13⟩, d14⟩ := id D
    have qA := fun d os => Calls.regrown_of (ca (Go.Sort.grow (redrawn W8 d) os) (T.kept (below_regrown W8 d os)))
    have qB := fun d os => Calls.regrown_of (cb (Go.Sort.grow (redrawn W8 d) os) (T.kept (below_regrown W8 d os)))
    have k0 := cell_regrown d0
    have k1 := cell_regrown d1
    have k2 := cell_regrown d2
    have k3 := cell_regrown d3
    have k4 := cell_regrown d4
    have k5 := cell_regrown d5
    have k6 := cell_regrown d6
    have k7 := cell_regrown d7
    have k8 := cell_regrown d8
    have k9 := cell_regrown d9
    have k10 := cell_regrown d10
    have k11 := cell_regrown d11
    have k12 := cell_regrown d12
    have k13 := cell_regrown d13
    have k14 := cell_regrown d14
    have ks0 := cell_regrown s0
    have ks1 := cell_regrown s1
    clear d0 d1 d2 d3 d4 d5 d6 d7 d8 d9 d10 d11 d12 d13 d14 C U S D
    clear c0 c1 c2 c3 c4 c5 c6 c7 c8 c9 c10 c11 c12 c13 u0 u1 u2 fu0 fu1 fu2 s0 s1 q0 q1 r0 r1 r2 g0 g1 g2 n0 n1 n2 h0 h1 h2
    refine Qt.wp_region_below_tail 10 (by kernel_rfl) (by kernel_rfl) ?_
    simp only [List.take_succ_cons, List.take_zero, List.drop_succ_cons, List.drop_zero]
    repeat (quiet_step (first | (with_reducible exact qA _ _) | (with_reducible exact qB _ _)))
    refine wpQuiet_nil ?_
    intro _ hw'
    obtain ⟨⟨dq, osq⟩, hw''⟩ := hw'
    subst hw''
    have hb := below_regrown W8 dq osq
    generalize Go.Sort.grow (redrawn W8 dq) osq = w9 at hb ⊢
    replace K := K.kept hb
    replace N := N.kept hb
    replace B := bthen B hb
    obtain ⟨_, r0, r1, r2, g0, g1, g2⟩ := id K
    obtain ⟨_, n0, n1, n2, h0, h1, h2⟩ := id N
    go_wp2
    refine bodyPost_ret (v := .tuple #[.agg #[.int .i64 p, .int .i64 q, .int .i64 r], .agg #[.int .i64 p, .int .i64 q, .int .i64 s], .int .i64 0]) (by simp [results, Tryz.results160, go_sem, *]) rfl ⟨rfl, ?_⟩
    exact bset (bset (bset (bset (bset (bset B (by omega) _ _) (by omega) _ _) (by omega) _ _) (by omega) _ _) (by omega) _ _) (by omega) _ _
  · obtain ⟨a, ha⟩ : ∃ a, a = uend c y L (i - 1) + 1 := ⟨_, rfl⟩
    obtain ⟨b, hb'⟩ : ∃ b, b = uend c y L i := ⟨_, rfl⟩
    have cs := fun w T => Span_any c L y i a b 0 w (.inl ⟨uo, ha, hb', rfl⟩) hm T
    obtain ⟨l, hl⟩ : ∃ l, l = decide (LevOk M) := ⟨_, rfl⟩
    have cl := fun w => isLevel_any M l w hl
    have O : l = false ∨ (l = true ∧ decide (M < L) = true) := by
      rw [hl]
      by_cases h : LevOk M
      · refine .inr ⟨decide_eq_true h, decide_eq_true ?_⟩
        unfold LevOk at h; omega
      · exact .inl (decide_eq_false h)
    clear uo mm ha hb' hl
    rcases O with rfl | ⟨rfl, dl⟩
    all_goals
      go_enter Tryz.func160, Tryz.ntmps160
      go_upto_region 1 with fail
      generalize (((w.alloc (.cells #[.string c.nm, .int .i64 c.k, .int .i64 c.d, .int .i64 c.m, .int .i64 c.s, .int .i64 c.sh, .int .i64 c.p0, .int .i64 c.p1, .int .i64 c.p2, .int .i64 c.cy, .int .i64 c.ex, .int .i64 c.fi, .int .i64 c.la, .int .i64 c.po] 24)).alloc (.cells #[.int .i64 L, .int .i64 y, .int .i64 i] 26)).alloc (.cells #[.int .i64 0, .int .i64 0, .int .i64 0] 26)).alloc (.cells #[.int .i64 0, .int .i64 0, .int .i64 0] 26) = W0 at *
      obtain ⟨_, c0, c1, c2, c3, c4, c5, c6, c7, c8, c9, c10, c11, c12, c13⟩ := id C
      obtain ⟨_, u0, u1, u2, fu0, fu1, fu2⟩ := id U
      obtain ⟨_, r0, r1, r2, g0, g1, g2⟩ := id K
      obtain ⟨_, n0, n1, n2, h0, h1, h2⟩ := id N
      go_wp2_with fail
      refine (cs _ T).mono ?_
      rintro e w3 ⟨rfl, hb⟩
      replace C := C.kept hb
      replace B := bthen B hb
      replace T := T.kept hb
      replace U := U.kept hb
      replace K := K.kept hb
      replace N := N.kept hb
      clear hb c0 c1 c2 c3 c4 c5 c6 c7 c8 c9 c10 c11 c12 c13 u0 u1 u2 fu0 fu1 fu2 r0 r1 r2 g0 g1 g2 n0 n1 n2 h0 h1 h2
      obtain ⟨_, c0, c1, c2, c3, c4, c5, c6, c7, c8, c9, c10, c11, c12, c13⟩ := id C
      obtain ⟨_, u0, u1, u2, fu0, fu1, fu2⟩ := id U
      obtain ⟨_, r0, r1, r2, g0, g1, g2⟩ := id K
      obtain ⟨_, n0, n1, n2, h0, h1, h2⟩ := id N
      have S := Pr.Two.new w3 (.int .i64 a) (.int .i64 b) 34
      replace C := C.alloc (.cells #[.int .i64 a, .int .i64 b] 34)
      replace T := T.alloc (.cells #[.int .i64 a, .int .i64 b] 34)
      replace U := U.alloc (.cells #[.int .i64 a, .int .i64 b] 34)
      replace K := K.alloc (.cells #[.int .i64 a, .int .i64 b] 34)
      replace N := N.alloc (.cells #[.int .i64 a, .int .i64 b] 34)
      replace B := balloc B (.cells #[.int .i64 a, .int .i64 b] 34)
      clear c0 c1 c2 c3 c4 c5 c6 c7 c8 c9 c10 c11 c12 c13 u0 u1 u2 fu0 fu1 fu2 r0 r1 r2 g0 g1 g2 n0 n1 n2 h0 h1 h2
      obtain ⟨_, c0, c1, c2, c3, c4, c5, c6, c7, c8, c9, c10, c11, c12, c13⟩ := id C
      obtain ⟨_, u0, u1, u2, fu0, fu1, fu2⟩ := id U
      obtain ⟨_, r0, r1, r2, g0, g1, g2⟩ := id K
      obtain ⟨_, n0, n1, n2, h0, h1, h2⟩ := id N
      obtain ⟨_, s0, s1, q0, q1⟩ := id S
      go_wp2_with fail
      refine (cl _).mono ?_
      rintro e w4 ⟨rfl, hb⟩
      replace C := C.kept hb
      replace B := bthen B hb
      replace T := T.kept hb
      replace U := U.kept hb
      replace K := K.kept hb
      replace N := N.kept hb
      replace S := S.kept hb
      clear hb c0 c1 c2 c3 c4 c5 c6 c7 c8 c9 c10 c11 c12 c13 u0 u1 u2 fu0 fu1 fu2 r0 r1 r2 g0 g1 g2 n0 n1 n2 h0 h1 h2 s0 s1 q0 q1
      obtain ⟨_, c0, c1, c2, c3, c4, c5, c6, c7, c8, c9, c10, c11, c12, c13⟩ := id C
      obtain ⟨_, u0, u1, u2, fu0, fu1, fu2⟩ := id U
      obtain ⟨_, r0, r1, r2, g0, g1, g2⟩ := id K
      obtain ⟨_, n0, n1, n2, h0, h1, h2⟩ := id N
      obtain ⟨_, s0, s1, q0, q1⟩ := id S
      go_wp2
      refine bodyPost_ret (v := .tuple #[.agg #[.int .i64 0, .int .i64 0, .int .i64 0], .agg #[.int .i64 0, .int .i64 0, .int .i64 0], .int .i64 1]) (by simp [results, Tryz.results160, go_sem, *]) rfl ⟨rfl, ?_⟩
      exact bset (bset (bset (bset (bset (bset B (by omega) _ _) (by omega) _ _) (by omega) _ _) (by omega) _ _) (by omega) _ _) (by omega) _ _
  · have cs := fun w T => Span_any c L y i 0 0 er w (.inr ⟨no, ck, rfl, rfl⟩) hm T
    have O := spana_no ck (fun q => no ((uchka_ok ck).1 q))
    clear no ck
    rcases O with rfl | rfl | rfl
    all_goals
      go_enter Tryz.func160, Tryz.ntmps160
      go_upto_region 1 with fail
      generalize (((w.alloc (.cells #[.string c.nm, .int .i64 c.k, .int .i64 c.d, .int .i64 c.m, .int .i64 c.s, .int .i64 c.sh, .int .i64 c.p0, .int .i64 c.p1, .int .i64 c.p2, .int .i64 c.cy, .int .i64 c.ex, .int .i64 c.fi, .int .i64 c.la, .int .i64 c.po] 24)).alloc (.cells #[.int .i64 L, .int .i64 y, .int .i64 i] 26)).alloc (.cells #[.int .i64 0, .int .i64 0, .int .i64 0] 26)).alloc (.cells #[.int .i64 0, .int .i64 0, .int .i64 0] 26) = W0 at *
      obtain ⟨_, c0, c1, c2, c3, c4, c5, c6, c7, c8, c9, c10, c11, c12, c13⟩ := id C
      obtain ⟨_, u0, u1, u2, fu0, fu1, fu2⟩ := id U
      obtain ⟨_, r0, r1, r2, g0, g1, g2⟩ := id K
      obtain ⟨_, n0, n1, n2, h0, h1, h2⟩ := id N
      go_wp2_with fail
      refine (cs _ T).mono ?_
      rintro e w5 ⟨rfl, hb⟩
      replace C := C.kept hb
      replace B := bthen B hb
      replace T := T.kept hb
      replace U := U.kept hb
      replace K := K.kept hb
      replace N := N.kept hb
      clear hb c0 c1 c2 c3 c4 c5 c6 c7 c8 c9 c10 c11 c12 c13 u0 u1 u2 fu0 fu1 fu2 r0 r1 r2 g0 g1 g2 n0 n1 n2 h0 h1 h2
      obtain ⟨_, c0, c1, c2, c3, c4, c5, c6, c7, c8, c9, c10, c11, c12, c13⟩ := id C
      obtain ⟨_, u0, u1, u2, fu0, fu1, fu2⟩ := id U
      obtain ⟨_, r0, r1, r2, g0, g1, g2⟩ := id K
      obtain ⟨_, n0, n1, n2, h0, h1, h2⟩ := id N
      go_wp2
      refine bodyPost_ret (v := .tuple #[.agg #[.int .i64 0, .int .i64 0, .int .i64 0], .agg #[.int .i64 0, .int .i64 0, .int .i64 0], .int .i64 _]) (by simp [results, Tryz.results160, go_sem, *]) rfl ⟨rfl, ?_⟩
      exact balloc (bset (bset (bset (bset (bset (bset B (by omega) _ _) (by omega) _ _) (by omega) _ _) (by omega) _ _) (by omega) _ _) (by omega) _ _) _

end Go.Proofs.YtkfogmaogfgcgaaGreatDoor.Ip

