/- What at of package unit comes to. -/
import Derived.Test.YtjiifmdjhdhabaaGreatDoorJI
namespace Go.Proofs.YtjiifmdjhdhabaaGreatDoor.Ip
set_option linter.unusedSimpArgs false
set_option linter.unusedVariables false
open Go.RowKit Go.Proofs.YtjiifmdjhdhabaaGreatDoor.Bn Go.Proofs.YtjiifmdjhdhabaaGreatDoor.Bx Go.Proofs.YtjiifmdjhdhabaaGreatDoor.Cp Go.Proofs.YtjiifmdjhdhabaaGreatDoor.Am Go.Proofs.YtjiifmdjhdhabaaGreatDoor.Fp Go.Proofs.YtjiifmdjhdhabaaGreatDoor.Ap Go.Proofs.YtjiifmdjhdhabaaGreatDoor.Cm Go.Proofs.YtjiifmdjhdhabaaGreatDoor.Em Go.Proofs.YtjiifmdjhdhabaaGreatDoor.Ep Go.Proofs.YtjiifmdjhdhabaaGreatDoor.Rk Go.Proofs.YtjiifmdjhdhabaaGreatDoor.Hp

set_option maxHeartbeats 2000000

set_option maxRecDepth 100000 in
theorem fat1_any (c : CalZ) (y L d : Int) (i b1 b2 b3 : Nat) (r : Bool) (w : World) (ok : CalOk c) (y0 : 1601 ≤ y) (y1 : y ≤ 9997) (hL : LevOk L) (hi : (i : Int) < ucount c y L) (hr : r = decide (d ≤ uend c y L ((i : Int) + 1))) (C : FisIn w b1 c y) (hq : w.cell? ⟨b2, 0, none⟩ = some (.int .i64 L)) (hd : w.cell? ⟨b3, 0, none⟩ = some (.int .i64 d)) (hm : c.nm.size ≤ maxLen) (T : FTab w) :
    Calls Tryz.prog 52 #[.int .i64 (i : Int), .pointer (some ⟨b1, 0, none⟩), .pointer (some ⟨b2, 0, none⟩), .pointer (some ⟨b3, 0, none⟩)] w fun e w' => e = .returned (.bool r) ∧ Below w.heap.size w w' := by
  have ub := ucount_bd (L := L) ok.1 y0 y1
  obtain ⟨a, ha⟩ : ∃ a, a = uend c y L (i : Int) + 1 := ⟨_, rfl⟩
  obtain ⟨b, hb'⟩ : ∃ b, b = uend c y L ((i : Int) + 1) := ⟨_, rfl⟩
  have cs := fun w T => fspan_any c y L ((i : Int) + 1) a b w ok y0 y1 hL (by omega) (by omega) (by rw [ha, show (i : Int) + 1 - 1 = i by omega]) hb' hm T
  rw [← hb'] at hr
  have i0 : (0 : Int) ≤ (i : Int) := by omega
  have i1 : (i : Int) ≤ 60 := by omega
  have hw : IntKind.i64.wrap ((i : Int) + 1) = (i : Int) + 1 := by rw [IntWalk.i64_in _ (by omega)]
  clear ok hi hb' ha ub hL
  obtain ⟨⟨_, c0, c1, c2, c3, c4, c5, c6, c7, c8, c9, c10, c11, c12, c13⟩, c14⟩ := id C
  go_enter Tryz.func52, Tryz.ntmps52
  go_upto_region 1 with fail
  have qX := fun d os => Calls.regrown_of (cs (Go.Sort.grow (redrawn w d) os) (T.kept (below_regrown w d os)))
  have k0 := cell_regrown c0
  have k1 := cell_regrown c1
  have k2 := cell_regrown c2
  have k3 := cell_regrown c3
  have k4 := cell_regrown c4
  have k5 := cell_regrown c5
  have k6 := cell_regrown c6
  have k7 := cell_regrown c7
  have k8 := cell_regrown c8
  have k9 := cell_regrown c9
  have k10 := cell_regrown c10
  have k11 := cell_regrown c11
  have k12 := cell_regrown c12
  have k13 := cell_regrown c13
  have k14 := cell_regrown c14
  have kq := cell_regrown hq
  have kd := cell_regrown hd
  refine wp_region_quiet_below (by kernel_rfl) (by kernel_rfl) ?_
  repeat (quiet_step (exact qX _ _))
  refine wpQuiet_nil ?_
  intro _ hw'
  obtain ⟨⟨dq, osq⟩, hw''⟩ := hw'
  subst hw''
  have hb := below_regrown w dq osq
  generalize Go.Sort.grow (redrawn w dq) osq = w9 at hb ⊢
  go_wp2
  go_ret
  exact ⟨by rw [hr]; simp, hb⟩

set_option maxRecDepth 100000 in
theorem fat_any (c : CalZ) (y L d j : Int) (w : World) (ok : CalOk c) (y0 : 1601 ≤ y) (y1 : y ≤ 9997) (hL : LevOk L) (hj : InU c y L d j) (hm : c.nm.size ≤ maxLen) (T : FTab w) :
    Calls Tryz.prog 25 #[.agg #[.string c.nm, .int .i64 c.k, .int .i64 c.d, .int .i64 c.m, .int .i64 c.s, .int .i64 c.sh, .int .i64 c.p0, .int .i64 c.p1, .int .i64 c.p2, .int .i64 c.cy, .int .i64 c.ex, .int .i64 c.fi, .int .i64 c.la, .int .i64 c.po, .int .i64 y], .int .i64 L, .int .i64 d] w fun e w' => e = .returned (.agg #[.int .i64 L, .int .i64 y, .int .i64 j]) ∧ Below w.heap.size w w' := by
  have C := FisIn.new w c y 47
  have B := balloc (Below.refl _ w) (.cells #[.string c.nm, .int .i64 c.k, .int .i64 c.d, .int .i64 c.m, .int .i64 c.s, .int .i64 c.sh, .int .i64 c.p0, .int .i64 c.p1, .int .i64 c.p2, .int .i64 c.cy, .int .i64 c.ex, .int .i64 c.fi, .int .i64 c.la, .int .i64 c.po, .int .i64 y] 47)
  replace T := T.alloc (.cells #[.string c.nm, .int .i64 c.k, .int .i64 c.d, .int .i64 c.m, .int .i64 c.s, .int .i64 c.sh, .int .i64 c.p0, .int .i64 c.p1, .int .i64 c.p2, .int .i64 c.cy, .int .i64 c.ex, .int .i64 c.fi, .int .i64 c.la, .int .i64 c.po, .int .i64 y] 47)
  have ub := ucount_bd (L := L) ok.1 y0 y1
  obtain ⟨n, hn⟩ : ∃ n : Nat, (n : Int) = ucount c y L := ⟨(ucount c y L).toNat, by omega⟩
  obtain ⟨r, hr⟩ : ∃ r : Nat, (r : Int) = j - 1 := ⟨(j - 1).toNat, by have := hj.1; omega⟩
  have jb := hj.2.1
  have j0 := hj.1
  have cc := fun w T => fcount_any c y L (n : Int) w ok y0 y1 hL hn hm T
  have K0 := (FisIn.new w c y 47)
  have hz : ((((w.alloc (.cells #[.string c.nm, .int .i64 c.k, .int .i64 c.d, .int .i64 c.m, .int .i64 c.s, .int .i64 c.sh, .int .i64 c.p0, .int .i64 c.p1, .int .i64 c.p2, .int .i64 c.cy, .int .i64 c.ex, .int .i64 c.fi, .int .i64 c.la, .int .i64 c.po, .int .i64 y] 47)).alloc (.cells #[.int .i64 L] 3)).alloc (.cells #[.int .i64 d] 3)).alloc (.cells #[.int .i64 0, .int .i64 0, .int .i64 0] 26)).heap.size = w.heap.size + 4 := by simp
  have CS : Hid (∀ W, Below (w.heap.size + 4) ((((w.alloc (.cells #[.string c.nm, .int .i64 c.k, .int .i64 c.d, .int .i64 c.m, .int .i64 c.s, .int .i64 c.sh, .int .i64 c.p0, .int .i64 c.p1, .int .i64 c.p2, .int .i64 c.cy, .int .i64 c.ex, .int .i64 c.fi, .int .i64 c.la, .int .i64 c.po, .int .i64 y] 47)).alloc (.cells #[.int .i64 L] 3)).alloc (.cells #[.int .i64 d] 3)).alloc (.cells #[.int .i64 0, .int .i64 0, .int .i64 0] 26)) W → Calls Tryz.prog 51 #[.int .i64 (n : Int), .func (.func 52) #[] #[.pointer (some ⟨w.heap.size, 0, none⟩), .pointer (some ⟨w.heap.size + 1, 0, none⟩), .pointer (some ⟨w.heap.size + 2, 0, none⟩)]] W fun e w' => e = .returned (.int .i64 (r : Int)) ∧ Below W.heap.size W w') :=
    Lib.hid (fun W hW => by
      refine search_any n r _ _ W (by omega) (by omega) (fun _ _ => by rfl) (fun W2 i hb hi => ?_)
      have B3 : Below ((((w.alloc (.cells #[.string c.nm, .int .i64 c.k, .int .i64 c.d, .int .i64 c.m, .int .i64 c.s, .int .i64 c.sh, .int .i64 c.p0, .int .i64 c.p1, .int .i64 c.p2, .int .i64 c.cy, .int .i64 c.ex, .int .i64 c.fi, .int .i64 c.la, .int .i64 c.po, .int .i64 y] 47)).alloc (.cells #[.int .i64 L] 3)).alloc (.cells #[.int .i64 d] 3)).alloc (.cells #[.int .i64 0, .int .i64 0, .int .i64 0] 26)).heap.size ((((w.alloc (.cells #[.string c.nm, .int .i64 c.k, .int .i64 c.d, .int .i64 c.m, .int .i64 c.s, .int .i64 c.sh, .int .i64 c.p0, .int .i64 c.p1, .int .i64 c.p2, .int .i64 c.cy, .int .i64 c.ex, .int .i64 c.fi, .int .i64 c.la, .int .i64 c.po, .int .i64 y] 47)).alloc (.cells #[.int .i64 L] 3)).alloc (.cells #[.int .i64 d] 3)).alloc (.cells #[.int .i64 0, .int .i64 0, .int .i64 0] 26)) W2 := by rw [hz]; exact hW.trans (hb.mono (by have := hW.size; rw [hz] at this; exact this))
      have e := inu_lt (j := (i : Int) + 1) ok.1 y0 y1 hL hj (by omega) (by omega)
      rw [show decide (r ≤ i) = decide (d ≤ uend c y L ((i : Int) + 1)) from decide_eq_decide.2 (by omega)]
      exact fat1_any c y L d i w.heap.size (w.heap.size + 1) (w.heap.size + 2) _ W2 ok y0 y1 hL (by omega) rfl ((((K0.alloc _).alloc _).alloc _).kept B3) ((B3.cell (p := ⟨w.heap.size + 1, 0, none⟩) (by rw [hz]; show w.heap.size + 1 < _; omega)).trans (by simp [go_sem])) ((B3.cell (p := ⟨w.heap.size + 2, 0, none⟩) (by rw [hz]; show w.heap.size + 2 < _; omega)).trans (by simp [go_sem])) hm ((((T.alloc _).alloc _).alloc _).kept B3))
  have U := Go.Proofs.YtjiifmdjhdhabaaGreatDoor.Bx.Tri.new (((w.alloc (.cells #[.string c.nm, .int .i64 c.k, .int .i64 c.d, .int .i64 c.m, .int .i64 c.s, .int .i64 c.sh, .int .i64 c.p0, .int .i64 c.p1, .int .i64 c.p2, .int .i64 c.cy, .int .i64 c.ex, .int .i64 c.fi, .int .i64 c.la, .int .i64 c.po, .int .i64 y] 47)).alloc (.cells #[.int .i64 L] 3)).alloc (.cells #[.int .i64 d] 3)) (.int .i64 0) (.int .i64 0) (.int .i64 0) 26
  have hz3 : (((w.alloc (.cells #[.string c.nm, .int .i64 c.k, .int .i64 c.d, .int .i64 c.m, .int .i64 c.s, .int .i64 c.sh, .int .i64 c.p0, .int .i64 c.p1, .int .i64 c.p2, .int .i64 c.cy, .int .i64 c.ex, .int .i64 c.fi, .int .i64 c.la, .int .i64 c.po, .int .i64 y] 47)).alloc (.cells #[.int .i64 L] 3)).alloc (.cells #[.int .i64 d] 3)).heap.size = w.heap.size + 3 := by simp
  rw [hz3] at U
  replace C := ((C.alloc (.cells #[.int .i64 L] 3)).alloc (.cells #[.int .i64 d] 3)).alloc (.cells #[.int .i64 0, .int .i64 0, .int .i64 0] 26)
  replace B := balloc (balloc (balloc B (.cells #[.int .i64 L] 3)) (.cells #[.int .i64 d] 3)) (.cells #[.int .i64 0, .int .i64 0, .int .i64 0] 26)
  replace T := ((T.alloc (.cells #[.int .i64 L] 3)).alloc (.cells #[.int .i64 d] 3)).alloc (.cells #[.int .i64 0, .int .i64 0, .int .i64 0] 26)
  have l1 : ((((w.alloc (.cells #[.string c.nm, .int .i64 c.k, .int .i64 c.d, .int .i64 c.m, .int .i64 c.s, .int .i64 c.sh, .int .i64 c.p0, .int .i64 c.p1, .int .i64 c.p2, .int .i64 c.cy, .int .i64 c.ex, .int .i64 c.fi, .int .i64 c.la, .int .i64 c.po, .int .i64 y] 47)).alloc (.cells #[.int .i64 L] 3)).alloc (.cells #[.int .i64 d] 3)).alloc (.cells #[.int .i64 0, .int .i64 0, .int .i64 0] 26)).cell? ⟨w.heap.size + 1, 0, none⟩ = some (.int .i64 L) := by simp [go_sem]
  have l2 : ((((w.alloc (.cells #[.string c.nm, .int .i64 c.k, .int .i64 c.d, .int .i64 c.m, .int .i64 c.s, .int .i64 c.sh, .int .i64 c.p0, .int .i64 c.p1, .int .i64 c.p2, .int .i64 c.cy, .int .i64 c.ex, .int .i64 c.fi, .int .i64 c.la, .int .i64 c.po, .int .i64 y] 47)).alloc (.cells #[.int .i64 L] 3)).alloc (.cells #[.int .i64 d] 3)).alloc (.cells #[.int .i64 0, .int .i64 0, .int .i64 0] 26)).cell? ⟨w.heap.size + 2, 0, none⟩ = some (.int .i64 d) := by simp [go_sem]
  have r0 : (0 : Int) ≤ r := by omega
  have r1 : (r : Int) ≤ 60 := by omega
  have ej : (r : Int) + 1 = j := by omega
  clear ok ub hn hr jb j0 K0 hj hL hz3
  go_enter Tryz.func25, Tryz.ntmps25
  go_upto_region 1 with fail
  generalize ((((w.alloc (.cells #[.string c.nm, .int .i64 c.k, .int .i64 c.d, .int .i64 c.m, .int .i64 c.s, .int .i64 c.sh, .int .i64 c.p0, .int .i64 c.p1, .int .i64 c.p2, .int .i64 c.cy, .int .i64 c.ex, .int .i64 c.fi, .int .i64 c.la, .int .i64 c.po, .int .i64 y] 47)).alloc (.cells #[.int .i64 L] 3)).alloc (.cells #[.int .i64 d] 3)).alloc (.cells #[.int .i64 0, .int .i64 0, .int .i64 0] 26)) = W0 at *
  obtain ⟨⟨_, c0, c1, c2, c3, c4, c5, c6, c7, c8, c9, c10, c11, c12, c13⟩, c14⟩ := id C
  go_wp2_with fail
  refine (cc _ T).mono ?_
  rintro e w1 ⟨rfl, hb⟩
  have cs := CS.out w1 (by rw [← hz]; exact hb)
  have q1 := (hb.cell (p := ⟨w.heap.size + 1, 0, none⟩) (by rw [hz]; show w.heap.size + 1 < _; omega)).trans l1
  replace B := bthen B hb
  replace C := C.kept hb
  replace U := U.kept hb
  have l9 : w.heap.size + 1 < w1.heap.size := by have := hb.size; omega
  clear cc CS l1 l2 T hb hz
  clear c0 c1 c2 c3 c4 c5 c6 c7 c8 c9 c10 c11 c12 c13 c14 
  go_wp2_with fail
  refine cs.mono ?_
  rintro e w2 ⟨rfl, hb2⟩
  replace C := C.kept hb2
  replace U := U.kept hb2
  replace B := bthen B hb2
  replace q1 := (hb2.cell (p := ⟨w.heap.size + 1, 0, none⟩) l9).trans q1
  clear hb2 cs
  obtain ⟨⟨_, c0, c1, c2, c3, c4, c5, c6, c7, c8, c9, c10, c11, c12, c13⟩, c14⟩ := id C
  obtain ⟨_, u0, u1, u2, fu0, fu1, fu2⟩ := id U
  go_wp2
  trace_state
  refine bodyPost_ret (v := .agg #[.int .i64 L, .int .i64 y, .int .i64 j]) (by simp [results, Tryz.results25, go_sem, *]) rfl ⟨rfl, ?_⟩
  exact bset (bset (bset B (by omega) _ _) (by omega) _ _) (by omega) _ _

end Go.Proofs.YtjiifmdjhdhabaaGreatDoor.Ip
