/- What period, quarter and half of package unit come to. -/
import Derived.Test.YtaiodjgpojfekaaDoorIcode
namespace Go.Proofs.YtaiodjgpojfekaaDoor.Ip
set_option linter.unusedSimpArgs false
set_option linter.unusedVariables false
open Go.RowKit Go.Proofs.YtaiodjgpojfekaaDoor.Bn Go.Proofs.YtaiodjgpojfekaaDoor.Bx Go.Proofs.YtaiodjgpojfekaaDoor.Cp Go.Proofs.YtaiodjgpojfekaaDoor.Am Go.Proofs.YtaiodjgpojfekaaDoor.Fp Go.Proofs.YtaiodjgpojfekaaDoor.Ap Go.Proofs.YtaiodjgpojfekaaDoor.Cm Go.Proofs.YtaiodjgpojfekaaDoor.Em Go.Proofs.YtaiodjgpojfekaaDoor.Ep Go.Proofs.YtaiodjgpojfekaaDoor.Rk Go.Proofs.YtaiodjgpojfekaaDoor.Hp

set_option maxHeartbeats 2000000

@[go_sem] theorem span_f0 (a b : Int) (w : World) : Sem.run Tryd.prog (Instr.field 40 (.agg #[.int .i64 a, .int .i64 b]) 0) w = .ok (.int .i64 a) w := by kernel_rfl
@[go_sem] theorem span_f1 (a b : Int) (w : World) : Sem.run Tryd.prog (Instr.field 40 (.agg #[.int .i64 a, .int .i64 b]) 1) w = .ok (.int .i64 b) w := by kernel_rfl

set_option maxRecDepth 100000 in
theorem fperiod_any (c : CalZ) (y p a b : Int) (w : World) (ok : CalOk c) (y0 : 1601 ≤ y) (y1 : y ≤ 9997) (p0 : 1 ≤ p) (p1 : p ≤ per c) (ha : a = pend c y (p - 1) + 1) (hb' : b = pend c y p) (hm : c.nm.size ≤ maxLen) (T : FTab w) :
    Calls Tryd.prog 95 #[.agg #[.string c.nm, .int .i64 c.k, .int .i64 c.d, .int .i64 c.m, .int .i64 c.s, .int .i64 c.sh, .int .i64 c.p0, .int .i64 c.p1, .int .i64 c.p2, .int .i64 c.cy, .int .i64 c.ex, .int .i64 c.fi, .int .i64 c.la, .int .i64 c.po, .int .i64 y], .int .i64 p] w fun e w' => e = .returned (.agg #[.int .i64 a, .int .i64 b]) ∧ Below w.heap.size w w' := by
  have C := FisIn.new w c y 68
  have B := balloc (Below.refl _ w) (.cells #[.string c.nm, .int .i64 c.k, .int .i64 c.d, .int .i64 c.m, .int .i64 c.s, .int .i64 c.sh, .int .i64 c.p0, .int .i64 c.p1, .int .i64 c.p2, .int .i64 c.cy, .int .i64 c.ex, .int .i64 c.fi, .int .i64 c.la, .int .i64 c.po, .int .i64 y] 68)
  replace T := T.alloc (.cells #[.string c.nm, .int .i64 c.k, .int .i64 c.d, .int .i64 c.m, .int .i64 c.s, .int .i64 c.sh, .int .i64 c.p0, .int .i64 c.p1, .int .i64 c.p2, .int .i64 c.cy, .int .i64 c.ex, .int .i64 c.fi, .int .i64 c.la, .int .i64 c.po, .int .i64 y] 68)
  have pb := per_bd ok.1
  obtain ⟨n, hn⟩ : ∃ n : Nat, (n : Int) = per c := ⟨(per c).toNat, by omega⟩
  have n1 : n ≤ 52 := by omega
  have n0 : 12 ≤ n := by omega
  have ce := fun w T => Ends_ok c y n w ok y0 y1 hn hm T
  have bd := pend_bd ok.1 y0 y1 (p := p - 1) (by omega) (by omega)
  by_cases q : p = 1
  · subst q
    obtain ⟨z, hz⟩ : ∃ z, z = pend c y (per c) := ⟨_, rfl⟩
    have cy := fun w T => fyear_any c y 1 a z w ok y0 y1 ha hz hm T
    have hu : some (Value.int .i64 (fend c y 0)) = some (Value.int .i64 b) := by rw [hb']; unfold fend; simp
    have n2 : 0 < n := by omega
    clear ok pb hn bd ha hb' hz p0 p1
    have K := Go.Proofs.YtaiodjgpojfekaaDoor.Pr.Two.new (w.alloc (.cells #[.string c.nm, .int .i64 c.k, .int .i64 c.d, .int .i64 c.m, .int .i64 c.s, .int .i64 c.sh, .int .i64 c.p0, .int .i64 c.p1, .int .i64 c.p2, .int .i64 c.cy, .int .i64 c.ex, .int .i64 c.fi, .int .i64 c.la, .int .i64 c.po, .int .i64 y] 68)) (.int .i64 0) (.int .i64 0) 40
    replace C := C.alloc (.cells #[.int .i64 0, .int .i64 0] 40)
    replace B := balloc B (.cells #[.int .i64 0, .int .i64 0] 40)
    replace T := T.alloc (.cells #[.int .i64 0, .int .i64 0] 40)
    have zz : ((w.alloc (.cells #[.string c.nm, .int .i64 c.k, .int .i64 c.d, .int .i64 c.m, .int .i64 c.s, .int .i64 c.sh, .int .i64 c.p0, .int .i64 c.p1, .int .i64 c.p2, .int .i64 c.cy, .int .i64 c.ex, .int .i64 c.fi, .int .i64 c.la, .int .i64 c.po, .int .i64 y] 68)).alloc (.cells #[.int .i64 0, .int .i64 0] 40)).heap.size = w.heap.size + 2 := by simp
    rw [World.size_alloc] at K
    go_enter Tryd.func95, Tryd.ntmps95
    go_upto_region 1 with fail
    generalize (w.alloc (.cells #[.string c.nm, .int .i64 c.k, .int .i64 c.d, .int .i64 c.m, .int .i64 c.s, .int .i64 c.sh, .int .i64 c.p0, .int .i64 c.p1, .int .i64 c.p2, .int .i64 c.cy, .int .i64 c.ex, .int .i64 c.fi, .int .i64 c.la, .int .i64 c.po, .int .i64 y] 68)).alloc (.cells #[.int .i64 0, .int .i64 0] 40) = W0 at *
    obtain ⟨⟨_, c0, c1, c2, c3, c4, c5, c6, c7, c8, c9, c10, c11, c12, c13⟩, c14⟩ := id C
    obtain ⟨_, r0, r1, g0, g1⟩ := id K
    go_wp2_with fail
    refine (ce _ T).mono ?_
    rintro e w1 ⟨gR, capR, rfl, R, hgR, hb⟩
    replace C := C.kept hb
    replace B := bthen B hb
    replace T := T.kept hb
    replace K := K.kept hb
    clear hb hgR r0 r1 g0 g1 c0 c1 c2 c3 c4 c5 c6 c7 c8 c9 c10 c11 c12 c13 c14
    obtain ⟨⟨_, c0, c1, c2, c3, c4, c5, c6, c7, c8, c9, c10, c11, c12, c13⟩, c14⟩ := id C
    obtain ⟨_, r0, r1, g0, g1⟩ := id K
    have rc := (R.c 0 (by omega)).trans hu
    have qY := fun d os => Calls.regrown_of (cy (Go.Sort.grow (redrawn w1 d) os) (T.kept (below_regrown w1 d os)))
    have k0 := cell_regrown c0
    have k1 := cell_regrown c1
    have k2 := cell_regrown c2
    have k3 := cell_regrown c3
    have k4 := cell_regrown c4
    have k5 := cell_regrown c5
    have k6 := cell_regrown c6
    have k7 := cell_regrown c7
    have k8 := cell_regrown c8
    have k9 := cell_regrown c9
    have k10 := cell_regrown c10
    have k11 := cell_regrown c11
    have k12 := cell_regrown c12
    have k13 := cell_regrown c13
    have k14 := cell_regrown c14
    have kr := cell_regrown rc
    clear ce cy R hu
    go_wp2
    refine Go.Proofs.YtaiodjgpojfekaaDoor.Qt.wp_region_below_tail 7 (by kernel_rfl) (by kernel_rfl) ?_
    simp only [List.take_succ_cons, List.take_zero, List.drop_succ_cons, List.drop_zero]
    repeat (quiet_step (exact qY _ _))
    refine wpQuiet_nil ?_
    intro _ hw'
    obtain ⟨⟨dq, osq⟩, hw''⟩ := hw'
    subst hw''
    have hb := below_regrown w1 dq osq
    generalize Go.Sort.grow (redrawn w1 dq) osq = w9 at hb ⊢
    replace K := K.kept hb
    replace B := bthen B hb
    obtain ⟨_, r0, r1, g0, g1⟩ := id K
    go_wp2
    refine bodyPost_ret (v := .agg #[.int .i64 a, .int .i64 b]) (by simp [results, Tryd.results95, go_sem, *]) rfl ⟨rfl, ?_⟩
    exact bset (bset B (by omega) _ _) (by omega) _ _
  · obtain ⟨x, hx⟩ : ∃ x : Nat, (x : Int) = p - 2 := ⟨(p - 2).toNat, by omega⟩
    obtain ⟨f, hf⟩ : ∃ f, f = a - 1 := ⟨_, rfl⟩
    have hu : some (Value.int .i64 (fend c y x)) = some (Value.int .i64 f) := by rw [hf, ha]; unfold fend; rw [hx, show p - 2 + 1 = p - 1 by omega]; simp
    have hv : some (Value.int .i64 (fend c y (x + 1))) = some (Value.int .i64 b) := by rw [hb']; unfold fend; rw [show ((x + 1 : Nat) : Int) = p - 1 by omega, show p - 1 + 1 = p by omega]
    have dq : (p == 1) = false := beq_eq_false_iff_ne.2 q
    have hw1 : IntKind.i64.wrap (p - 2) = (x : Int) := by rw [IntWalk.i64_in _ (by omega)]; omega
    have hw2 : IntKind.i64.wrap (p - 1) = ((x + 1 : Nat) : Int) := by rw [IntWalk.i64_in _ (by omega)]; omega
    have hw3 : IntKind.i64.wrap (f + 1) = a := by rw [IntWalk.i64_in _ (by omega)]; omega
    have xn : x + 1 < n := by omega
    have xn1 : x < n := by omega
    have b0 : (0 : Int) ≤ (x : Int) := by omega
    have b1 : (x : Int) < (n : Int) := by omega
    have b2 : (0 : Int) ≤ (x : Int) + 1 := by omega
    have b3 : (x : Int) + 1 < (n : Int) := by omega
    clear ok pb hn bd ha hb' hx hf q
    have K := Go.Proofs.YtaiodjgpojfekaaDoor.Pr.Two.new (w.alloc (.cells #[.string c.nm, .int .i64 c.k, .int .i64 c.d, .int .i64 c.m, .int .i64 c.s, .int .i64 c.sh, .int .i64 c.p0, .int .i64 c.p1, .int .i64 c.p2, .int .i64 c.cy, .int .i64 c.ex, .int .i64 c.fi, .int .i64 c.la, .int .i64 c.po, .int .i64 y] 68)) (.int .i64 0) (.int .i64 0) 40
    replace C := C.alloc (.cells #[.int .i64 0, .int .i64 0] 40)
    replace B := balloc B (.cells #[.int .i64 0, .int .i64 0] 40)
    replace T := T.alloc (.cells #[.int .i64 0, .int .i64 0] 40)
    have zz : ((w.alloc (.cells #[.string c.nm, .int .i64 c.k, .int .i64 c.d, .int .i64 c.m, .int .i64 c.s, .int .i64 c.sh, .int .i64 c.p0, .int .i64 c.p1, .int .i64 c.p2, .int .i64 c.cy, .int .i64 c.ex, .int .i64 c.fi, .int .i64 c.la, .int .i64 c.po, .int .i64 y] 68)).alloc (.cells #[.int .i64 0, .int .i64 0] 40)).heap.size = w.heap.size + 2 := by simp
    rw [World.size_alloc] at K
    go_enter Tryd.func95, Tryd.ntmps95
    go_upto_region 1 with fail
    generalize (w.alloc (.cells #[.string c.nm, .int .i64 c.k, .int .i64 c.d, .int .i64 c.m, .int .i64 c.s, .int .i64 c.sh, .int .i64 c.p0, .int .i64 c.p1, .int .i64 c.p2, .int .i64 c.cy, .int .i64 c.ex, .int .i64 c.fi, .int .i64 c.la, .int .i64 c.po, .int .i64 y] 68)).alloc (.cells #[.int .i64 0, .int .i64 0] 40) = W0 at *
    obtain ⟨⟨_, c0, c1, c2, c3, c4, c5, c6, c7, c8, c9, c10, c11, c12, c13⟩, c14⟩ := id C
    obtain ⟨_, r0, r1, g0, g1⟩ := id K
    go_wp2_with fail
    refine (ce _ T).mono ?_
    rintro e w2 ⟨gR, capR, rfl, R, hgR, hb⟩
    replace C := C.kept hb
    replace B := bthen B hb
    replace T := T.kept hb
    replace K := K.kept hb
    clear hb hgR r0 r1 g0 g1 c0 c1 c2 c3 c4 c5 c6 c7 c8 c9 c10 c11 c12 c13 c14
    obtain ⟨⟨_, c0, c1, c2, c3, c4, c5, c6, c7, c8, c9, c10, c11, c12, c13⟩, c14⟩ := id C
    obtain ⟨_, r0, r1, g0, g1⟩ := id K
    have rc := (R.c x xn1).trans hu
    have rd := (R.c (x + 1) xn).trans hv
    have k0 := cell_regrown c0
    have k1 := cell_regrown c1
    have k2 := cell_regrown c2
    have k3 := cell_regrown c3
    have k4 := cell_regrown c4
    have k5 := cell_regrown c5
    have k6 := cell_regrown c6
    have k7 := cell_regrown c7
    have k8 := cell_regrown c8
    have k9 := cell_regrown c9
    have k10 := cell_regrown c10
    have k11 := cell_regrown c11
    have k12 := cell_regrown c12
    have k13 := cell_regrown c13
    have k14 := cell_regrown c14
    have kr := cell_regrown rc
    have ks := cell_regrown rd
    clear ce R hu hv
    go_wp2
    refine Go.Proofs.YtaiodjgpojfekaaDoor.Qt.wp_region_below_tail 12 (by kernel_rfl) (by kernel_rfl) ?_
    simp only [List.take_succ_cons, List.take_zero, List.drop_succ_cons, List.drop_zero]
    repeat (quiet_step (fail))
    refine wpQuiet_nil ?_
    intro _ hw'
    obtain ⟨⟨dq, osq⟩, hw''⟩ := hw'
    subst hw''
    have hb := below_regrown w2 dq osq
    generalize Go.Sort.grow (redrawn w2 dq) osq = w9 at hb ⊢
    replace K := K.kept hb
    replace B := bthen B hb
    obtain ⟨_, r0, r1, g0, g1⟩ := id K
    go_wp2
    refine bodyPost_ret (v := .agg #[.int .i64 a, .int .i64 b]) (by simp [results, Tryd.results95, go_sem, *]) rfl ⟨rfl, ?_⟩
    exact bset (bset B (by omega) _ _) (by omega) _ _

end Go.Proofs.YtaiodjgpojfekaaDoor.Ip
