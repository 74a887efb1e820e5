/- What quarter, half, monthOf and week of package unit come to. -/
import Derived.Test.YtaiodjgpojfekaaDoorIcode2
namespace Go.Proofs.YtaiodjgpojfekaaDoor.Ip
set_option linter.unusedSimpArgs false
set_option linter.unusedVariables false
open Go.RowKit Go.Proofs.YtaiodjgpojfekaaDoor.Bn Go.Proofs.YtaiodjgpojfekaaDoor.Bx Go.Proofs.YtaiodjgpojfekaaDoor.Cp Go.Proofs.YtaiodjgpojfekaaDoor.Am Go.Proofs.YtaiodjgpojfekaaDoor.Fp Go.Proofs.YtaiodjgpojfekaaDoor.Ap Go.Proofs.YtaiodjgpojfekaaDoor.Cm Go.Proofs.YtaiodjgpojfekaaDoor.Em Go.Proofs.YtaiodjgpojfekaaDoor.Ep Go.Proofs.YtaiodjgpojfekaaDoor.Rk Go.Proofs.YtaiodjgpojfekaaDoor.Hp

set_option maxHeartbeats 2000000

set_option maxRecDepth 100000 in
theorem fquarter_any (c : CalZ) (y q a b : Int) (w : World) (ok : CalOk c) (y0 : 1601 ≤ y) (y1 : y ≤ 9997) (q0 : 1 ≤ q) (q1 : q ≤ 4) (ha : a = pend c y (per c * (q - 1) / 4) + 1) (hb' : b = pend c y (per c * q / 4)) (hm : c.nm.size ≤ maxLen) (T : FTab w) :
    Calls Tryd.prog 94 #[.agg #[.string c.nm, .int .i64 c.k, .int .i64 c.d, .int .i64 c.m, .int .i64 c.s, .int .i64 c.sh, .int .i64 c.p0, .int .i64 c.p1, .int .i64 c.p2, .int .i64 c.cy, .int .i64 c.ex, .int .i64 c.fi, .int .i64 c.la, .int .i64 c.po, .int .i64 y], .int .i64 q] w fun e w' => e = .returned (.agg #[.int .i64 a, .int .i64 b]) ∧ Below w.heap.size w w' := by
  have C := FisIn.new w c y 68
  have B := balloc (Below.refl _ w) (.cells #[.string c.nm, .int .i64 c.k, .int .i64 c.d, .int .i64 c.m, .int .i64 c.s, .int .i64 c.sh, .int .i64 c.p0, .int .i64 c.p1, .int .i64 c.p2, .int .i64 c.cy, .int .i64 c.ex, .int .i64 c.fi, .int .i64 c.la, .int .i64 c.po, .int .i64 y] 68)
  replace T := T.alloc (.cells #[.string c.nm, .int .i64 c.k, .int .i64 c.d, .int .i64 c.m, .int .i64 c.s, .int .i64 c.sh, .int .i64 c.p0, .int .i64 c.p1, .int .i64 c.p2, .int .i64 c.cy, .int .i64 c.ex, .int .i64 c.fi, .int .i64 c.la, .int .i64 c.po, .int .i64 y] 68)
  have qa := quarter_at ok.1 (q - 1) (by omega) (by omega)
  have qb := quarter_at ok.1 q (by omega) (by omega)
  have qs := qa.2.2.2.2 (by omega)
  rw [show q - 1 + 1 = q by omega] at qs
  have pb := per_bd ok.1
  obtain ⟨u, hu⟩ : ∃ u, u = per c * (q - 1) / 4 := ⟨_, rfl⟩
  obtain ⟨v, hv⟩ : ∃ v, v = per c * q / 4 := ⟨_, rfl⟩
  rw [← hu] at ha qa qs
  rw [← hv] at hb' qb qs
  obtain ⟨x, hx⟩ : ∃ x, x = pend c y (u + 1) := ⟨_, rfl⟩
  obtain ⟨z, hz⟩ : ∃ z, z = pend c y (v - 1) + 1 := ⟨_, rfl⟩
  have ct1 := fun w T => periodsTo_any c y (q - 1) u w ok y0 y1 (by omega) (by omega) hu hm T
  have ct2 := fun w T => fperiod_any c y (u + 1) a x w ok y0 y1 (by omega) (by omega) (by rw [ha, show u + 1 - 1 = u by omega]) hx hm T
  have ct3 := fun w T => periodsTo_any c y q v w ok y0 y1 (by omega) (by omega) hv hm T
  have ct4 := fun w T => fperiod_any c y v z b w ok y0 y1 (by omega) (by omega) hz hb' hm T
  have u0 : 0 ≤ u ∧ u ≤ 52 := by omega
  have v0 : 0 ≤ v ∧ v ≤ 52 := by omega
  obtain ⟨u0, u1⟩ := u0
  obtain ⟨v0, v1⟩ := v0
  clear ok ha hb' qa qb qs pb hu hv hx hz
  have hw1 : IntKind.i64.wrap (q - 1) = q - 1 := by rw [IntWalk.i64_in _ (by omega)]
  have hw2 : IntKind.i64.wrap (u + 1) = u + 1 := by rw [IntWalk.i64_in _ (by omega)]
  have K := Go.Proofs.YtaiodjgpojfekaaDoor.Pr.Two.new (w.alloc (.cells #[.string c.nm, .int .i64 c.k, .int .i64 c.d, .int .i64 c.m, .int .i64 c.s, .int .i64 c.sh, .int .i64 c.p0, .int .i64 c.p1, .int .i64 c.p2, .int .i64 c.cy, .int .i64 c.ex, .int .i64 c.fi, .int .i64 c.la, .int .i64 c.po, .int .i64 y] 68)) (.int .i64 0) (.int .i64 0) 40
  replace C := C.alloc (.cells #[.int .i64 0, .int .i64 0] 40)
  replace B := balloc B (.cells #[.int .i64 0, .int .i64 0] 40)
  replace T := T.alloc (.cells #[.int .i64 0, .int .i64 0] 40)
  have zz : ((w.alloc (.cells #[.string c.nm, .int .i64 c.k, .int .i64 c.d, .int .i64 c.m, .int .i64 c.s, .int .i64 c.sh, .int .i64 c.p0, .int .i64 c.p1, .int .i64 c.p2, .int .i64 c.cy, .int .i64 c.ex, .int .i64 c.fi, .int .i64 c.la, .int .i64 c.po, .int .i64 y] 68)).alloc (.cells #[.int .i64 0, .int .i64 0] 40)).heap.size = w.heap.size + 2 := by simp
  rw [World.size_alloc] at K
  go_enter Tryd.func94, Tryd.ntmps94
  go_upto_region 1 with fail
  generalize (w.alloc (.cells #[.string c.nm, .int .i64 c.k, .int .i64 c.d, .int .i64 c.m, .int .i64 c.s, .int .i64 c.sh, .int .i64 c.p0, .int .i64 c.p1, .int .i64 c.p2, .int .i64 c.cy, .int .i64 c.ex, .int .i64 c.fi, .int .i64 c.la, .int .i64 c.po, .int .i64 y] 68)).alloc (.cells #[.int .i64 0, .int .i64 0] 40) = W0 at *
  obtain ⟨⟨_, c0, c1, c2, c3, c4, c5, c6, c7, c8, c9, c10, c11, c12, c13⟩, c14⟩ := id C
  obtain ⟨_, r0, r1, g0, g1⟩ := id K
  have qA := fun d os => Calls.regrown_of (ct1 (Go.Sort.grow (redrawn W0 d) os) (T.kept (below_regrown W0 d os)))
  have qB := fun d os => Calls.regrown_of (ct2 (Go.Sort.grow (redrawn W0 d) os) (T.kept (below_regrown W0 d os)))
  have qC := fun d os => Calls.regrown_of (ct3 (Go.Sort.grow (redrawn W0 d) os) (T.kept (below_regrown W0 d os)))
  have qD := fun d os => Calls.regrown_of (ct4 (Go.Sort.grow (redrawn W0 d) os) (T.kept (below_regrown W0 d os)))
  have k0 := cell_regrown c0
  have k1 := cell_regrown c1
  have k2 := cell_regrown c2
  have k3 := cell_regrown c3
  have k4 := cell_regrown c4
  have k5 := cell_regrown c5
  have k6 := cell_regrown c6
  have k7 := cell_regrown c7
  have k8 := cell_regrown c8
  have k9 := cell_regrown c9
  have k10 := cell_regrown c10
  have k11 := cell_regrown c11
  have k12 := cell_regrown c12
  have k13 := cell_regrown c13
  have k14 := cell_regrown c14
  go_wp2
  refine Go.Proofs.YtaiodjgpojfekaaDoor.Qt.wp_region_below_tail 15 (by kernel_rfl) (by kernel_rfl) ?_
  simp only [List.take_succ_cons, List.take_zero, List.drop_succ_cons, List.drop_zero]
  repeat (quiet_step (first | (with_reducible exact qA _ _) | (with_reducible exact qB _ _) | (with_reducible exact qC _ _) | (with_reducible exact qD _ _)))
  refine wpQuiet_nil ?_
  intro _ hw'
  obtain ⟨⟨dq, osq⟩, hw''⟩ := hw'
  subst hw''
  have hb := below_regrown W0 dq osq
  generalize Go.Sort.grow (redrawn W0 dq) osq = w9 at hb ⊢
  replace K := K.kept hb
  replace B := bthen B hb
  obtain ⟨_, r0, r1, g0, g1⟩ := id K
  go_wp2
  refine bodyPost_ret (v := .agg #[.int .i64 a, .int .i64 b]) (by simp [results, Tryd.results94, go_sem, *]) rfl ⟨rfl, ?_⟩
  exact bset (bset B (by omega) _ _) (by omega) _ _

set_option maxRecDepth 100000 in
theorem fhalf_any (c : CalZ) (y q a b : Int) (w : World) (ok : CalOk c) (y0 : 1601 ≤ y) (y1 : y ≤ 9997) (q0 : 1 ≤ q) (q1 : q ≤ 2) (ha : a = pend c y (per c * (2 * (q - 1)) / 4) + 1) (hb' : b = pend c y (per c * (2 * q) / 4)) (hm : c.nm.size ≤ maxLen) (T : FTab w) :
    Calls Tryd.prog 93 #[.agg #[.string c.nm, .int .i64 c.k, .int .i64 c.d, .int .i64 c.m, .int .i64 c.s, .int .i64 c.sh, .int .i64 c.p0, .int .i64 c.p1, .int .i64 c.p2, .int .i64 c.cy, .int .i64 c.ex, .int .i64 c.fi, .int .i64 c.la, .int .i64 c.po, .int .i64 y], .int .i64 q] w fun e w' => e = .returned (.agg #[.int .i64 a, .int .i64 b]) ∧ Below w.heap.size w w' := by
  have C := FisIn.new w c y 68
  have B := balloc (Below.refl _ w) (.cells #[.string c.nm, .int .i64 c.k, .int .i64 c.d, .int .i64 c.m, .int .i64 c.s, .int .i64 c.sh, .int .i64 c.p0, .int .i64 c.p1, .int .i64 c.p2, .int .i64 c.cy, .int .i64 c.ex, .int .i64 c.fi, .int .i64 c.la, .int .i64 c.po, .int .i64 y] 68)
  replace T := T.alloc (.cells #[.string c.nm, .int .i64 c.k, .int .i64 c.d, .int .i64 c.m, .int .i64 c.s, .int .i64 c.sh, .int .i64 c.p0, .int .i64 c.p1, .int .i64 c.p2, .int .i64 c.cy, .int .i64 c.ex, .int .i64 c.fi, .int .i64 c.la, .int .i64 c.po, .int .i64 y] 68)
  obtain ⟨x, hx⟩ : ∃ x, x = pend c y (per c * (q * 2 - 2 + 1) / 4) := ⟨_, rfl⟩
  obtain ⟨z, hz⟩ : ∃ z, z = pend c y (per c * (q * 2 - 1) / 4) + 1 := ⟨_, rfl⟩
  have ct1 := fun w T => fquarter_any c y (q * 2 - 2 + 1) a x w ok y0 y1 (by omega) (by omega) (by rw [ha, show q * 2 - 2 + 1 - 1 = 2 * (q - 1) by omega]) hx hm T
  have ct2 := fun w T => fquarter_any c y (q * 2) z b w ok y0 y1 (by omega) (by omega) hz (by rw [hb', show q * 2 = 2 * q by omega]) hm T
  clear ok ha hb' hx hz
  have hw1 : IntKind.i64.wrap (q * 2 - 2) = q * 2 - 2 := by rw [IntWalk.i64_in _ (by omega)]
  have hw2 : IntKind.i64.wrap (q * 2 - 2 + 1) = q * 2 - 2 + 1 := by rw [IntWalk.i64_in _ (by omega)]
  have K := Go.Proofs.YtaiodjgpojfekaaDoor.Pr.Two.new (w.alloc (.cells #[.string c.nm, .int .i64 c.k, .int .i64 c.d, .int .i64 c.m, .int .i64 c.s, .int .i64 c.sh, .int .i64 c.p0, .int .i64 c.p1, .int .i64 c.p2, .int .i64 c.cy, .int .i64 c.ex, .int .i64 c.fi, .int .i64 c.la, .int .i64 c.po, .int .i64 y] 68)) (.int .i64 0) (.int .i64 0) 40
  replace C := C.alloc (.cells #[.int .i64 0, .int .i64 0] 40)
  replace B := balloc B (.cells #[.int .i64 0, .int .i64 0] 40)
  replace T := T.alloc (.cells #[.int .i64 0, .int .i64 0] 40)
  have zz : ((w.alloc (.cells #[.string c.nm, .int .i64 c.k, .int .i64 c.d, .int .i64 c.m, .int .i64 c.s, .int .i64 c.sh, .int .i64 c.p0, .int .i64 c.p1, .int .i64 c.p2, .int .i64 c.cy, .int .i64 c.ex, .int .i64 c.fi, .int .i64 c.la, .int .i64 c.po, .int .i64 y] 68)).alloc (.cells #[.int .i64 0, .int .i64 0] 40)).heap.size = w.heap.size + 2 := by simp
  rw [World.size_alloc] at K
  go_enter Tryd.func93, Tryd.ntmps93
  go_upto_region 1 with fail
  generalize (w.alloc (.cells #[.string c.nm, .int .i64 c.k, .int .i64 c.d, .int .i64 c.m, .int .i64 c.s, .int .i64 c.sh, .int .i64 c.p0, .int .i64 c.p1, .int .i64 c.p2, .int .i64 c.cy, .int .i64 c.ex, .int .i64 c.fi, .int .i64 c.la, .int .i64 c.po, .int .i64 y] 68)).alloc (.cells #[.int .i64 0, .int .i64 0] 40) = W0 at *
  obtain ⟨⟨_, c0, c1, c2, c3, c4, c5, c6, c7, c8, c9, c10, c11, c12, c13⟩, c14⟩ := id C
  obtain ⟨_, r0, r1, g0, g1⟩ := id K
  have qA := fun d os => Calls.regrown_of (ct1 (Go.Sort.grow (redrawn W0 d) os) (T.kept (below_regrown W0 d os)))
  have qB := fun d os => Calls.regrown_of (ct2 (Go.Sort.grow (redrawn W0 d) os) (T.kept (below_regrown W0 d os)))
  have k0 := cell_regrown c0
  have k1 := cell_regrown c1
  have k2 := cell_regrown c2
  have k3 := cell_regrown c3
  have k4 := cell_regrown c4
  have k5 := cell_regrown c5
  have k6 := cell_regrown c6
  have k7 := cell_regrown c7
  have k8 := cell_regrown c8
  have k9 := cell_regrown c9
  have k10 := cell_regrown c10
  have k11 := cell_regrown c11
  have k12 := cell_regrown c12
  have k13 := cell_regrown c13
  have k14 := cell_regrown c14
  go_wp2
  refine Go.Proofs.YtaiodjgpojfekaaDoor.Qt.wp_region_below_tail 11 (by kernel_rfl) (by kernel_rfl) ?_
  simp only [List.take_succ_cons, List.take_zero, List.drop_succ_cons, List.drop_zero]
  repeat (quiet_step (first | (with_reducible exact qA _ _) | (with_reducible exact qB _ _)))
  refine wpQuiet_nil ?_
  intro _ hw'
  obtain ⟨⟨dq, osq⟩, hw''⟩ := hw'
  subst hw''
  have hb := below_regrown W0 dq osq
  generalize Go.Sort.grow (redrawn W0 dq) osq = w9 at hb ⊢
  replace K := K.kept hb
  replace B := bthen B hb
  obtain ⟨_, r0, r1, g0, g1⟩ := id K
  go_wp2
  refine bodyPost_ret (v := .agg #[.int .i64 a, .int .i64 b]) (by simp [results, Tryd.results93, go_sem, *]) rfl ⟨rfl, ?_⟩
  exact bset (bset B (by omega) _ _) (by omega) _ _

end Go.Proofs.YtaiodjgpojfekaaDoor.Ip
