/- What span and at of package unit come to. -/
import Derived.Test.YtaiodjgpojfekaaDoorIcode4
namespace Go.Proofs.YtaiodjgpojfekaaDoor.Ip
set_option linter.unusedSimpArgs false
set_option linter.unusedVariables false
open Go.RowKit Go.Proofs.YtaiodjgpojfekaaDoor.Bn Go.Proofs.YtaiodjgpojfekaaDoor.Bx Go.Proofs.YtaiodjgpojfekaaDoor.Cp Go.Proofs.YtaiodjgpojfekaaDoor.Am Go.Proofs.YtaiodjgpojfekaaDoor.Fp Go.Proofs.YtaiodjgpojfekaaDoor.Ap Go.Proofs.YtaiodjgpojfekaaDoor.Cm Go.Proofs.YtaiodjgpojfekaaDoor.Em Go.Proofs.YtaiodjgpojfekaaDoor.Ep Go.Proofs.YtaiodjgpojfekaaDoor.Rk Go.Proofs.YtaiodjgpojfekaaDoor.Hp

set_option maxHeartbeats 2000000

@[go_sem] theorem store_nilFunc {a : Addr} {P : Program} {w : World} (m : Mode) : (store a .nilFunc m).run P w = stored P w a .nilFunc m := run_store P w a _ m rfl
@[go_sem] theorem store_func {a : Addr} {P : Program} {w : World} (f : Fn) (x y : Array Value) (m : Mode) : (store a (.func f x y) m).run P w = stored P w a (.func f x y) m := run_store P w a _ m rfl
theorem uend_1 {c : CalZ} {y i : Int} (i0 : 1 ≤ i) (i1 : i ≤ ucount c y 1) : uend c y 1 (i - 1) = pend c y 0 ∧ uend c y 1 i = pend c y (per c) := by
  have e : ucount c y 1 = 1 := by simp [ucount]
  rw [e] at i1
  obtain rfl : i = 1 := by omega
  constructor <;> simp [uend]
theorem uend_2 (c : CalZ) (y i : Int) : uend c y 2 i = pend c y (per c * (2 * i) / 4) := by simp [uend]
theorem uend_3 (c : CalZ) (y i : Int) : uend c y 3 i = pend c y (per c * i / 4) := by simp [uend]
theorem uend_4 (c : CalZ) (y i : Int) : uend c y 4 i = pend c y i := by simp [uend]
theorem uend_5 (c : CalZ) (y i : Int) : uend c y 5 i = wend c y i := by simp [uend]
theorem ucount_is (c : CalZ) (y : Int) : ucount c y 1 = 1 ∧ ucount c y 2 = 2 ∧ ucount c y 3 = 4 ∧ ucount c y 4 = per c ∧ ucount c y 5 = nwk c y := by simp [ucount]

set_option maxRecDepth 100000 in
theorem fspan_any (c : CalZ) (y L i a b : Int) (w : World) (ok : CalOk c) (y0 : 1601 ≤ y) (y1 : y ≤ 9997) (hL : LevOk L) (i0 : 1 ≤ i) (i1 : i ≤ ucount c y L) (ha : a = uend c y L (i - 1) + 1) (hb' : b = uend c y L i) (hm : c.nm.size ≤ maxLen) (T : FTab w) :
    Calls Tryd.prog 65 #[.agg #[.string c.nm, .int .i64 c.k, .int .i64 c.d, .int .i64 c.m, .int .i64 c.s, .int .i64 c.sh, .int .i64 c.p0, .int .i64 c.p1, .int .i64 c.p2, .int .i64 c.cy, .int .i64 c.ex, .int .i64 c.fi, .int .i64 c.la, .int .i64 c.po, .int .i64 y], .int .i64 L, .int .i64 i] w fun e w' => e = .returned (.agg #[.int .i64 a, .int .i64 b]) ∧ Below w.heap.size w w' := by
  have C := FisIn.new w c y 68
  have B := balloc (Below.refl _ w) (.cells #[.string c.nm, .int .i64 c.k, .int .i64 c.d, .int .i64 c.m, .int .i64 c.s, .int .i64 c.sh, .int .i64 c.p0, .int .i64 c.p1, .int .i64 c.p2, .int .i64 c.cy, .int .i64 c.ex, .int .i64 c.fi, .int .i64 c.la, .int .i64 c.po, .int .i64 y] 68)
  replace T := T.alloc (.cells #[.string c.nm, .int .i64 c.k, .int .i64 c.d, .int .i64 c.m, .int .i64 c.s, .int .i64 c.sh, .int .i64 c.p0, .int .i64 c.p1, .int .i64 c.p2, .int .i64 c.cy, .int .i64 c.ex, .int .i64 c.fi, .int .i64 c.la, .int .i64 c.po, .int .i64 y] 68)
  have O : L = 1 ∨ L = 2 ∨ L = 3 ∨ L = 4 ∨ L = 5 := by unfold LevOk at hL; omega
  have uc := ucount_is c y
  have ub := ucount_bd (L := L) ok.1 y0 y1
  have i60 : i ≤ 60 := by omega
  clear ub
  rcases O with rfl | rfl | rfl | rfl | rfl
  · have cx := fun w T => fyear_any c y i a b w ok y0 y1 (by rw [ha, (uend_1 i0 i1).1]) (by rw [hb', (uend_1 i0 i1).2]) hm T
    clear ok hL i1 ha hb'
    have K := Go.Proofs.YtaiodjgpojfekaaDoor.Pr.Two.new (w.alloc (.cells #[.string c.nm, .int .i64 c.k, .int .i64 c.d, .int .i64 c.m, .int .i64 c.s, .int .i64 c.sh, .int .i64 c.p0, .int .i64 c.p1, .int .i64 c.p2, .int .i64 c.cy, .int .i64 c.ex, .int .i64 c.fi, .int .i64 c.la, .int .i64 c.po, .int .i64 y] 68)) (.int .i64 0) (.int .i64 0) 40
    replace C := C.alloc (.cells #[.int .i64 0, .int .i64 0] 40)
    replace B := balloc B (.cells #[.int .i64 0, .int .i64 0] 40)
    replace T := T.alloc (.cells #[.int .i64 0, .int .i64 0] 40)
    have zz : ((w.alloc (.cells #[.string c.nm, .int .i64 c.k, .int .i64 c.d, .int .i64 c.m, .int .i64 c.s, .int .i64 c.sh, .int .i64 c.p0, .int .i64 c.p1, .int .i64 c.p2, .int .i64 c.cy, .int .i64 c.ex, .int .i64 c.fi, .int .i64 c.la, .int .i64 c.po, .int .i64 y] 68)).alloc (.cells #[.int .i64 0, .int .i64 0] 40)).heap.size = w.heap.size + 2 := by simp
    rw [World.size_alloc] at K
    go_enter Tryd.func65, Tryd.ntmps65
    go_upto_region 1 with fail
    generalize (w.alloc (.cells #[.string c.nm, .int .i64 c.k, .int .i64 c.d, .int .i64 c.m, .int .i64 c.s, .int .i64 c.sh, .int .i64 c.p0, .int .i64 c.p1, .int .i64 c.p2, .int .i64 c.cy, .int .i64 c.ex, .int .i64 c.fi, .int .i64 c.la, .int .i64 c.po, .int .i64 y] 68)).alloc (.cells #[.int .i64 0, .int .i64 0] 40) = W0 at *
    obtain ⟨⟨_, c0, c1, c2, c3, c4, c5, c6, c7, c8, c9, c10, c11, c12, c13⟩, c14⟩ := id C
    obtain ⟨_, r0, r1, g0, g1⟩ := id K
    clear zz
    go_wp2
    have FB := Go.Proofs.YtaiodjgpojfekaaDoor.Bn.Box.new W0 #[.nilFunc, .func (.func 92) #[] #[], .func (.func 93) #[] #[], .func (.func 94) #[] #[], .func (.func 95) #[] #[], .func (.func 96) #[] #[]] 111
    replace C := C.alloc (.cells #[.nilFunc, .func (.func 92) #[] #[], .func (.func 93) #[] #[], .func (.func 94) #[] #[], .func (.func 95) #[] #[], .func (.func 96) #[] #[]] 111)
    replace K := K.alloc (.cells #[.nilFunc, .func (.func 92) #[] #[], .func (.func 93) #[] #[], .func (.func 94) #[] #[], .func (.func 95) #[] #[], .func (.func 96) #[] #[]] 111)
    replace B := balloc B (.cells #[.nilFunc, .func (.func 92) #[] #[], .func (.func 93) #[] #[], .func (.func 94) #[] #[], .func (.func 95) #[] #[], .func (.func 96) #[] #[]] 111)
    replace T := T.alloc (.cells #[.nilFunc, .func (.func 92) #[] #[], .func (.func 93) #[] #[], .func (.func 94) #[] #[], .func (.func 95) #[] #[], .func (.func 96) #[] #[]] 111)
    generalize W0.alloc (.cells #[.nilFunc, .func (.func 92) #[] #[], .func (.func 93) #[] #[], .func (.func 94) #[] #[], .func (.func 95) #[] #[], .func (.func 96) #[] #[]] 111) = W8 at *
    clear c0 c1 c2 c3 c4 c5 c6 c7 c8 c9 c10 c11 c12 c13 c14 r0 r1 g0 g1
    obtain ⟨⟨_, c0, c1, c2, c3, c4, c5, c6, c7, c8, c9, c10, c11, c12, c13⟩, c14⟩ := id C
    have v1 := FB.cell 1 _ rfl
    have kv := cell_regrown v1
    have qX := fun d os => Calls.regrown_of (cx (Go.Sort.grow (redrawn W8 d) os) (T.kept (below_regrown W8 d os)))
    have k0 := cell_regrown c0
    have k1 := cell_regrown c1
    have k2 := cell_regrown c2
    have k3 := cell_regrown c3
    have k4 := cell_regrown c4
    have k5 := cell_regrown c5
    have k6 := cell_regrown c6
    have k7 := cell_regrown c7
    have k8 := cell_regrown c8
    have k9 := cell_regrown c9
    have k10 := cell_regrown c10
    have k11 := cell_regrown c11
    have k12 := cell_regrown c12
    have k13 := cell_regrown c13
    have k14 := cell_regrown c14
    refine Go.Proofs.YtaiodjgpojfekaaDoor.Qt.wp_region_below_tail 6 (by kernel_rfl) (by kernel_rfl) ?_
    simp only [List.take_succ_cons, List.take_zero, List.drop_succ_cons, List.drop_zero]
    repeat (quiet_step (exact qX _ _))
    refine wpQuiet_nil ?_
    intro _ hw'
    obtain ⟨⟨dq, osq⟩, hw''⟩ := hw'
    subst hw''
    have hb := below_regrown W8 dq osq
    generalize Go.Sort.grow (redrawn W8 dq) osq = w9 at hb ⊢
    replace K := K.kept hb
    replace B := bthen B hb
    obtain ⟨_, r0, r1, g0, g1⟩ := id K
    go_wp2
    refine bodyPost_ret (v := .agg #[.int .i64 a, .int .i64 b]) (by simp [results, Tryd.results65, go_sem, *]) rfl ⟨rfl, ?_⟩
    exact bset (bset B (by omega) _ _) (by omega) _ _
  · have cx := fun w T => fhalf_any c y i a b w ok y0 y1 i0 (by omega) (by rw [ha, uend_2]) (by rw [hb', uend_2]) hm T
    clear ok hL i1 ha hb'
    have K := Go.Proofs.YtaiodjgpojfekaaDoor.Pr.Two.new (w.alloc (.cells #[.string c.nm, .int .i64 c.k, .int .i64 c.d, .int .i64 c.m, .int .i64 c.s, .int .i64 c.sh, .int .i64 c.p0, .int .i64 c.p1, .int .i64 c.p2, .int .i64 c.cy, .int .i64 c.ex, .int .i64 c.fi, .int .i64 c.la, .int .i64 c.po, .int .i64 y] 68)) (.int .i64 0) (.int .i64 0) 40
    replace C := C.alloc (.cells #[.int .i64 0, .int .i64 0] 40)
    replace B := balloc B (.cells #[.int .i64 0, .int .i64 0] 40)
    replace T := T.alloc (.cells #[.int .i64 0, .int .i64 0] 40)
    have zz : ((w.alloc (.cells #[.string c.nm, .int .i64 c.k, .int .i64 c.d, .int .i64 c.m, .int .i64 c.s, .int .i64 c.sh, .int .i64 c.p0, .int .i64 c.p1, .int .i64 c.p2, .int .i64 c.cy, .int .i64 c.ex, .int .i64 c.fi, .int .i64 c.la, .int .i64 c.po, .int .i64 y] 68)).alloc (.cells #[.int .i64 0, .int .i64 0] 40)).heap.size = w.heap.size + 2 := by simp
    rw [World.size_alloc] at K
    go_enter Tryd.func65, Tryd.ntmps65
    go_upto_region 1 with fail
    generalize (w.alloc (.cells #[.string c.nm, .int .i64 c.k, .int .i64 c.d, .int .i64 c.m, .int .i64 c.s, .int .i64 c.sh, .int .i64 c.p0, .int .i64 c.p1, .int .i64 c.p2, .int .i64 c.cy, .int .i64 c.ex, .int .i64 c.fi, .int .i64 c.la, .int .i64 c.po, .int .i64 y] 68)).alloc (.cells #[.int .i64 0, .int .i64 0] 40) = W0 at *
    obtain ⟨⟨_, c0, c1, c2, c3, c4, c5, c6, c7, c8, c9, c10, c11, c12, c13⟩, c14⟩ := id C
    obtain ⟨_, r0, r1, g0, g1⟩ := id K
    clear zz
    go_wp2
    have FB := Go.Proofs.YtaiodjgpojfekaaDoor.Bn.Box.new W0 #[.nilFunc, .func (.func 92) #[] #[], .func (.func 93) #[] #[], .func (.func 94) #[] #[], .func (.func 95) #[] #[], .func (.func 96) #[] #[]] 111
    replace C := C.alloc (.cells #[.nilFunc, .func (.func 92) #[] #[], .func (.func 93) #[] #[], .func (.func 94) #[] #[], .func (.func 95) #[] #[], .func (.func 96) #[] #[]] 111)
    replace K := K.alloc (.cells #[.nilFunc, .func (.func 92) #[] #[], .func (.func 93) #[] #[], .func (.func 94) #[] #[], .func (.func 95) #[] #[], .func (.func 96) #[] #[]] 111)
    replace B := balloc B (.cells #[.nilFunc, .func (.func 92) #[] #[], .func (.func 93) #[] #[], .func (.func 94) #[] #[], .func (.func 95) #[] #[], .func (.func 96) #[] #[]] 111)
    replace T := T.alloc (.cells #[.nilFunc, .func (.func 92) #[] #[], .func (.func 93) #[] #[], .func (.func 94) #[] #[], .func (.func 95) #[] #[], .func (.func 96) #[] #[]] 111)
    generalize W0.alloc (.cells #[.nilFunc, .func (.func 92) #[] #[], .func (.func 93) #[] #[], .func (.func 94) #[] #[], .func (.func 95) #[] #[], .func (.func 96) #[] #[]] 111) = W8 at *
    clear c0 c1 c2 c3 c4 c5 c6 c7 c8 c9 c10 c11 c12 c13 c14 r0 r1 g0 g1
    obtain ⟨⟨_, c0, c1, c2, c3, c4, c5, c6, c7, c8, c9, c10, c11, c12, c13⟩, c14⟩ := id C
    have v1 := FB.cell 2 _ rfl
    have kv := cell_regrown v1
    have qX := fun d os => Calls.regrown_of (cx (Go.Sort.grow (redrawn W8 d) os) (T.kept (below_regrown W8 d os)))
    have k0 := cell_regrown c0
    have k1 := cell_regrown c1
    have k2 := cell_regrown c2
    have k3 := cell_regrown c3
    have k4 := cell_regrown c4
    have k5 := cell_regrown c5
    have k6 := cell_regrown c6
    have k7 := cell_regrown c7
    have k8 := cell_regrown c8
    have k9 := cell_regrown c9
    have k10 := cell_regrown c10
    have k11 := cell_regrown c11
    have k12 := cell_regrown c12
    have k13 := cell_regrown c13
    have k14 := cell_regrown c14
    refine Go.Proofs.YtaiodjgpojfekaaDoor.Qt.wp_region_below_tail 6 (by kernel_rfl) (by kernel_rfl) ?_
    simp only [List.take_succ_cons, List.take_zero, List.drop_succ_cons, List.drop_zero]
    repeat (quiet_step (exact qX _ _))
    refine wpQuiet_nil ?_
    intro _ hw'
    obtain ⟨⟨dq, osq⟩, hw''⟩ := hw'
    subst hw''
    have hb := below_regrown W8 dq osq
    generalize Go.Sort.grow (redrawn W8 dq) osq = w9 at hb ⊢
    replace K := K.kept hb
    replace B := bthen B hb
    obtain ⟨_, r0, r1, g0, g1⟩ := id K
    go_wp2
    refine bodyPost_ret (v := .agg #[.int .i64 a, .int .i64 b]) (by simp [results, Tryd.results65, go_sem, *]) rfl ⟨rfl, ?_⟩
    exact bset (bset B (by omega) _ _) (by omega) _ _
  · have cx := fun w T => fquarter_any c y i a b w ok y0 y1 i0 (by omega) (by rw [ha, uend_3]) (by rw [hb', uend_3]) hm T
    clear ok hL i1 ha hb'
    have K := Go.Proofs.YtaiodjgpojfekaaDoor.Pr.Two.new (w.alloc (.cells #[.string c.nm, .int .i64 c.k, .int .i64 c.d, .int .i64 c.m, .int .i64 c.s, .int .i64 c.sh, .int .i64 c.p0, .int .i64 c.p1, .int .i64 c.p2, .int .i64 c.cy, .int .i64 c.ex, .int .i64 c.fi, .int .i64 c.la, .int .i64 c.po, .int .i64 y] 68)) (.int .i64 0) (.int .i64 0) 40
    replace C := C.alloc (.cells #[.int .i64 0, .int .i64 0] 40)
    replace B := balloc B (.cells #[.int .i64 0, .int .i64 0] 40)
    replace T := T.alloc (.cells #[.int .i64 0, .int .i64 0] 40)
    have zz : ((w.alloc (.cells #[.string c.nm, .int .i64 c.k, .int .i64 c.d, .int .i64 c.m, .int .i64 c.s, .int .i64 c.sh, .int .i64 c.p0, .int .i64 c.p1, .int .i64 c.p2, .int .i64 c.cy, .int .i64 c.ex, .int .i64 c.fi, .int .i64 c.la, .int .i64 c.po, .int .i64 y] 68)).alloc (.cells #[.int .i64 0, .int .i64 0] 40)).heap.size = w.heap.size + 2 := by simp
    rw [World.size_alloc] at K
    go_enter Tryd.func65, Tryd.ntmps65
    go_upto_region 1 with fail
    generalize (w.alloc (.cells #[.string c.nm, .int .i64 c.k, .int .i64 c.d, .int .i64 c.m, .int .i64 c.s, .int .i64 c.sh, .int .i64 c.p0, .int .i64 c.p1, .int .i64 c.p2, .int .i64 c.cy, .int .i64 c.ex, .int .i64 c.fi, .int .i64 c.la, .int .i64 c.po, .int .i64 y] 68)).alloc (.cells #[.int .i64 0, .int .i64 0] 40) = W0 at *
    obtain ⟨⟨_, c0, c1, c2, c3, c4, c5, c6, c7, c8, c9, c10, c11, c12, c13⟩, c14⟩ := id C
    obtain ⟨_, r0, r1, g0, g1⟩ := id K
    clear zz
    go_wp2
    have FB := Go.Proofs.YtaiodjgpojfekaaDoor.Bn.Box.new W0 #[.nilFunc, .func (.func 92) #[] #[], .func (.func 93) #[] #[], .func (.func 94) #[] #[], .func (.func 95) #[] #[], .func (.func 96) #[] #[]] 111
    replace C := C.alloc (.cells #[.nilFunc, .func (.func 92) #[] #[], .func (.func 93) #[] #[], .func (.func 94) #[] #[], .func (.func 95) #[] #[], .func (.func 96) #[] #[]] 111)
    replace K := K.alloc (.cells #[.nilFunc, .func (.func 92) #[] #[], .func (.func 93) #[] #[], .func (.func 94) #[] #[], .func (.func 95) #[] #[], .func (.func 96) #[] #[]] 111)
    replace B := balloc B (.cells #[.nilFunc, .func (.func 92) #[] #[], .func (.func 93) #[] #[], .func (.func 94) #[] #[], .func (.func 95) #[] #[], .func (.func 96) #[] #[]] 111)
    replace T := T.alloc (.cells #[.nilFunc, .func (.func 92) #[] #[], .func (.func 93) #[] #[], .func (.func 94) #[] #[], .func (.func 95) #[] #[], .func (.func 96) #[] #[]] 111)
    generalize W0.alloc (.cells #[.nilFunc, .func (.func 92) #[] #[], .func (.func 93) #[] #[], .func (.func 94) #[] #[], .func (.func 95) #[] #[], .func (.func 96) #[] #[]] 111) = W8 at *
    clear c0 c1 c2 c3 c4 c5 c6 c7 c8 c9 c10 c11 c12 c13 c14 r0 r1 g0 g1
    obtain ⟨⟨_, c0, c1, c2, c3, c4, c5, c6, c7, c8, c9, c10, c11, c12, c13⟩, c14⟩ := id C
    have v1 := FB.cell 3 _ rfl
    have kv := cell_regrown v1
    have qX := fun d os => Calls.regrown_of (cx (Go.Sort.grow (redrawn W8 d) os) (T.kept (below_regrown W8 d os)))
    have k0 := cell_regrown c0
    have k1 := cell_regrown c1
    have k2 := cell_regrown c2
    have k3 := cell_regrown c3
    have k4 := cell_regrown c4
    have k5 := cell_regrown c5
    have k6 := cell_regrown c6
    have k7 := cell_regrown c7
    have k8 := cell_regrown c8
    have k9 := cell_regrown c9
    have k10 := cell_regrown c10
    have k11 := cell_regrown c11
    have k12 := cell_regrown c12
    have k13 := cell_regrown c13
    have k14 := cell_regrown c14
    refine Go.Proofs.YtaiodjgpojfekaaDoor.Qt.wp_region_below_tail 6 (by kernel_rfl) (by kernel_rfl) ?_
    simp only [List.take_succ_cons, List.take_zero, List.drop_succ_cons, List.drop_zero]
    repeat (quiet_step (exact qX _ _))
    refine wpQuiet_nil ?_
    intro _ hw'
    obtain ⟨⟨dq, osq⟩, hw''⟩ := hw'
    subst hw''
    have hb := below_regrown W8 dq osq
    generalize Go.Sort.grow (redrawn W8 dq) osq = w9 at hb ⊢
    replace K := K.kept hb
    replace B := bthen B hb
    obtain ⟨_, r0, r1, g0, g1⟩ := id K
    go_wp2
    refine bodyPost_ret (v := .agg #[.int .i64 a, .int .i64 b]) (by simp [results, Tryd.results65, go_sem, *]) rfl ⟨rfl, ?_⟩
    exact bset (bset B (by omega) _ _) (by omega) _ _
  · have cx := fun w T => fperiod_any c y i a b w ok y0 y1 i0 (by omega) (by rw [ha, uend_4]) (by rw [hb', uend_4]) hm T
    clear ok hL i1 ha hb'
    have K := Go.Proofs.YtaiodjgpojfekaaDoor.Pr.Two.new (w.alloc (.cells #[.string c.nm, .int .i64 c.k, .int .i64 c.d, .int .i64 c.m, .int .i64 c.s, .int .i64 c.sh, .int .i64 c.p0, .int .i64 c.p1, .int .i64 c.p2, .int .i64 c.cy, .int .i64 c.ex, .int .i64 c.fi, .int .i64 c.la, .int .i64 c.po, .int .i64 y] 68)) (.int .i64 0) (.int .i64 0) 40
    replace C := C.alloc (.cells #[.int .i64 0, .int .i64 0] 40)
    replace B := balloc B (.cells #[.int .i64 0, .int .i64 0] 40)
    replace T := T.alloc (.cells #[.int .i64 0, .int .i64 0] 40)
    have zz : ((w.alloc (.cells #[.string c.nm, .int .i64 c.k, .int .i64 c.d, .int .i64 c.m, .int .i64 c.s, .int .i64 c.sh, .int .i64 c.p0, .int .i64 c.p1, .int .i64 c.p2, .int .i64 c.cy, .int .i64 c.ex, .int .i64 c.fi, .int .i64 c.la, .int .i64 c.po, .int .i64 y] 68)).alloc (.cells #[.int .i64 0, .int .i64 0] 40)).heap.size = w.heap.size + 2 := by simp
    rw [World.size_alloc] at K
    go_enter Tryd.func65, Tryd.ntmps65
    go_upto_region 1 with fail
    generalize (w.alloc (.cells #[.string c.nm, .int .i64 c.k, .int .i64 c.d, .int .i64 c.m, .int .i64 c.s, .int .i64 c.sh, .int .i64 c.p0, .int .i64 c.p1, .int .i64 c.p2, .int .i64 c.cy, .int .i64 c.ex, .int .i64 c.fi, .int .i64 c.la, .int .i64 c.po, .int .i64 y] 68)).alloc (.cells #[.int .i64 0, .int .i64 0] 40) = W0 at *
    obtain ⟨⟨_, c0, c1, c2, c3, c4, c5, c6, c7, c8, c9, c10, c11, c12, c13⟩, c14⟩ := id C
    obtain ⟨_, r0, r1, g0, g1⟩ := id K
    clear zz
    go_wp2
    have FB := Go.Proofs.YtaiodjgpojfekaaDoor.Bn.Box.new W0 #[.nilFunc, .func (.func 92) #[] #[], .func (.func 93) #[] #[], .func (.func 94) #[] #[], .func (.func 95) #[] #[], .func (.func 96) #[] #[]] 111
    replace C := C.alloc (.cells #[.nilFunc, .func (.func 92) #[] #[], .func (.func 93) #[] #[], .func (.func 94) #[] #[], .func (.func 95) #[] #[], .func (.func 96) #[] #[]] 111)
    replace K := K.alloc (.cells #[.nilFunc, .func (.func 92) #[] #[], .func (.func 93) #[] #[], .func (.func 94) #[] #[], .func (.func 95) #[] #[], .func (.func 96) #[] #[]] 111)
    replace B := balloc B (.cells #[.nilFunc, .func (.func 92) #[] #[], .func (.func 93) #[] #[], .func (.func 94) #[] #[], .func (.func 95) #[] #[], .func (.func 96) #[] #[]] 111)
    replace T := T.alloc (.cells #[.nilFunc, .func (.func 92) #[] #[], .func (.func 93) #[] #[], .func (.func 94) #[] #[], .func (.func 95) #[] #[], .func (.func 96) #[] #[]] 111)
    generalize W0.alloc (.cells #[.nilFunc, .func (.func 92) #[] #[], .func (.func 93) #[] #[], .func (.func 94) #[] #[], .func (.func 95) #[] #[], .func (.func 96) #[] #[]] 111) = W8 at *
    clear c0 c1 c2 c3 c4 c5 c6 c7 c8 c9 c10 c11 c12 c13 c14 r0 r1 g0 g1
    obtain ⟨⟨_, c0, c1, c2, c3, c4, c5, c6, c7, c8, c9, c10, c11, c12, c13⟩, c14⟩ := id C
    have v1 := FB.cell 4 _ rfl
    have kv := cell_regrown v1
    have qX := fun d os => Calls.regrown_of (cx (Go.Sort.grow (redrawn W8 d) os) (T.kept (below_regrown W8 d os)))
    have k0 := cell_regrown c0
    have k1 := cell_regrown c1
    have k2 := cell_regrown c2
    have k3 := cell_regrown c3
    have k4 := cell_regrown c4
    have k5 := cell_regrown c5
    have k6 := cell_regrown c6
    have k7 := cell_regrown c7
    have k8 := cell_regrown c8
    have k9 := cell_regrown c9
    have k10 := cell_regrown c10
    have k11 := cell_regrown c11
    have k12 := cell_regrown c12
    have k13 := cell_regrown c13
    have k14 := cell_regrown c14
    refine Go.Proofs.YtaiodjgpojfekaaDoor.Qt.wp_region_below_tail 6 (by kernel_rfl) (by kernel_rfl) ?_
    simp only [List.take_succ_cons, List.take_zero, List.drop_succ_cons, List.drop_zero]
    repeat (quiet_step (exact qX _ _))
    refine wpQuiet_nil ?_
    intro _ hw'
    obtain ⟨⟨dq, osq⟩, hw''⟩ := hw'
    subst hw''
    have hb := below_regrown W8 dq osq
    generalize Go.Sort.grow (redrawn W8 dq) osq = w9 at hb ⊢
    replace K := K.kept hb
    replace B := bthen B hb
    obtain ⟨_, r0, r1, g0, g1⟩ := id K
    go_wp2
    refine bodyPost_ret (v := .agg #[.int .i64 a, .int .i64 b]) (by simp [results, Tryd.results65, go_sem, *]) rfl ⟨rfl, ?_⟩
    exact bset (bset B (by omega) _ _) (by omega) _ _
  · have cx := fun w T => fweek_any c y i a b w ok y0 y1 i0 (by omega) (by rw [ha, uend_5]) (by rw [hb', uend_5]) hm T
    clear ok hL i1 ha hb'
    have K := Go.Proofs.YtaiodjgpojfekaaDoor.Pr.Two.new (w.alloc (.cells #[.string c.nm, .int .i64 c.k, .int .i64 c.d, .int .i64 c.m, .int .i64 c.s, .int .i64 c.sh, .int .i64 c.p0, .int .i64 c.p1, .int .i64 c.p2, .int .i64 c.cy, .int .i64 c.ex, .int .i64 c.fi, .int .i64 c.la, .int .i64 c.po, .int .i64 y] 68)) (.int .i64 0) (.int .i64 0) 40
    replace C := C.alloc (.cells #[.int .i64 0, .int .i64 0] 40)
    replace B := balloc B (.cells #[.int .i64 0, .int .i64 0] 40)
    replace T := T.alloc (.cells #[.int .i64 0, .int .i64 0] 40)
    have zz : ((w.alloc (.cells #[.string c.nm, .int .i64 c.k, .int .i64 c.d, .int .i64 c.m, .int .i64 c.s, .int .i64 c.sh, .int .i64 c.p0, .int .i64 c.p1, .int .i64 c.p2, .int .i64 c.cy, .int .i64 c.ex, .int .i64 c.fi, .int .i64 c.la, .int .i64 c.po, .int .i64 y] 68)).alloc (.cells #[.int .i64 0, .int .i64 0] 40)).heap.size = w.heap.size + 2 := by simp
    rw [World.size_alloc] at K
    go_enter Tryd.func65, Tryd.ntmps65
    go_upto_region 1 with fail
    generalize (w.alloc (.cells #[.string c.nm, .int .i64 c.k, .int .i64 c.d, .int .i64 c.m, .int .i64 c.s, .int .i64 c.sh, .int .i64 c.p0, .int .i64 c.p1, .int .i64 c.p2, .int .i64 c.cy, .int .i64 c.ex, .int .i64 c.fi, .int .i64 c.la, .int .i64 c.po, .int .i64 y] 68)).alloc (.cells #[.int .i64 0, .int .i64 0] 40) = W0 at *
    obtain ⟨⟨_, c0, c1, c2, c3, c4, c5, c6, c7, c8, c9, c10, c11, c12, c13⟩, c14⟩ := id C
    obtain ⟨_, r0, r1, g0, g1⟩ := id K
    clear zz
    go_wp2
    have FB := Go.Proofs.YtaiodjgpojfekaaDoor.Bn.Box.new W0 #[.nilFunc, .func (.func 92) #[] #[], .func (.func 93) #[] #[], .func (.func 94) #[] #[], .func (.func 95) #[] #[], .func (.func 96) #[] #[]] 111
    replace C := C.alloc (.cells #[.nilFunc, .func (.func 92) #[] #[], .func (.func 93) #[] #[], .func (.func 94) #[] #[], .func (.func 95) #[] #[], .func (.func 96) #[] #[]] 111)
    replace K := K.alloc (.cells #[.nilFunc, .func (.func 92) #[] #[], .func (.func 93) #[] #[], .func (.func 94) #[] #[], .func (.func 95) #[] #[], .func (.func 96) #[] #[]] 111)
    replace B := balloc B (.cells #[.nilFunc, .func (.func 92) #[] #[], .func (.func 93) #[] #[], .func (.func 94) #[] #[], .func (.func 95) #[] #[], .func (.func 96) #[] #[]] 111)
    replace T := T.alloc (.cells #[.nilFunc, .func (.func 92) #[] #[], .func (.func 93) #[] #[], .func (.func 94) #[] #[], .func (.func 95) #[] #[], .func (.func 96) #[] #[]] 111)
    generalize W0.alloc (.cells #[.nilFunc, .func (.func 92) #[] #[], .func (.func 93) #[] #[], .func (.func 94) #[] #[], .func (.func 95) #[] #[], .func (.func 96) #[] #[]] 111) = W8 at *
    clear c0 c1 c2 c3 c4 c5 c6 c7 c8 c9 c10 c11 c12 c13 c14 r0 r1 g0 g1
    obtain ⟨⟨_, c0, c1, c2, c3, c4, c5, c6, c7, c8, c9, c10, c11, c12, c13⟩, c14⟩ := id C
    have v1 := FB.cell 5 _ rfl
    have kv := cell_regrown v1
    have qX := fun d os => Calls.regrown_of (cx (Go.Sort.grow (redrawn W8 d) os) (T.kept (below_regrown W8 d os)))
    have k0 := cell_regrown c0
    have k1 := cell_regrown c1
    have k2 := cell_regrown c2
    have k3 := cell_regrown c3
    have k4 := cell_regrown c4
    have k5 := cell_regrown c5
    have k6 := cell_regrown c6
    have k7 := cell_regrown c7
    have k8 := cell_regrown c8
    have k9 := cell_regrown c9
    have k10 := cell_regrown c10
    have k11 := cell_regrown c11
    have k12 := cell_regrown c12
    have k13 := cell_regrown c13
    have k14 := cell_regrown c14
    refine Go.Proofs.YtaiodjgpojfekaaDoor.Qt.wp_region_below_tail 6 (by kernel_rfl) (by kernel_rfl) ?_
    simp only [List.take_succ_cons, List.take_zero, List.drop_succ_cons, List.drop_zero]
    repeat (quiet_step (exact qX _ _))
    refine wpQuiet_nil ?_
    intro _ hw'
    obtain ⟨⟨dq, osq⟩, hw''⟩ := hw'
    subst hw''
    have hb := below_regrown W8 dq osq
    generalize Go.Sort.grow (redrawn W8 dq) osq = w9 at hb ⊢
    replace K := K.kept hb
    replace B := bthen B hb
    obtain ⟨_, r0, r1, g0, g1⟩ := id K
    go_wp2
    refine bodyPost_ret (v := .agg #[.int .i64 a, .int .i64 b]) (by simp [results, Tryd.results65, go_sem, *]) rfl ⟨rfl, ?_⟩
    exact bset (bset B (by omega) _ _) (by omega) _ _

end Go.Proofs.YtaiodjgpojfekaaDoor.Ip
