/- What the policies of package comp come to. -/
import Derived.Test.YtmagdlcikcgelaaDoorMcode
import Derived.Maps.OwnOps
namespace Go.Proofs.YtmagdlcikcgelaaDoor.Mp
set_option linter.unusedSimpArgs false
set_option linter.unusedVariables false
open Go.RowKit Go.Maps Go.Proofs.YtmagdlcikcgelaaDoor.Bn Go.Proofs.YtmagdlcikcgelaaDoor.Bx Go.Proofs.YtmagdlcikcgelaaDoor.Cp Go.Proofs.YtmagdlcikcgelaaDoor.Am Go.Proofs.YtmagdlcikcgelaaDoor.Fp Go.Proofs.YtmagdlcikcgelaaDoor.Ap Go.Proofs.YtmagdlcikcgelaaDoor.Cm Go.Proofs.YtmagdlcikcgelaaDoor.Em Go.Proofs.YtmagdlcikcgelaaDoor.Ep Go.Proofs.YtmagdlcikcgelaaDoor.Rk Go.Proofs.YtmagdlcikcgelaaDoor.Hp

set_option maxHeartbeats 16000000

set_option maxRecDepth 100000 in
theorem pol2_any (c : CalZ) (y t x n m : Int) (b1 b2 b3 : Nat) (w : World) (ok : CalOk c) (k6 : c.k ≠ 6) (y0 : 1601 ≤ y) (y1 : y ≤ 9997) (t0 : 1601 ≤ t) (t1 : t ≤ 9997) (x0 : 0 ≤ x) (x1 : x ≤ 60) (hn : n = nweeks c y) (hm' : m = nweeks c t)
    (C : CalIn w b1 c) (h2 : w.cell? ⟨b2, 0, none⟩ = some (.int .i64 t)) (h3 : w.cell? ⟨b3, 0, none⟩ = some (.int .i64 y)) (hm : c.nm.size ≤ maxLen) (T : FTab w) :
    Calls Tryd.prog 109 #[.int .i64 x, .pointer (some ⟨b1, 0, none⟩), .pointer (some ⟨b2, 0, none⟩), .pointer (some ⟨b3, 0, none⟩)] w fun e w' => e = .returned (.tuple #[.int .i64 (x + m - n), .int .i64 0]) ∧ Below w.heap.size w w' := by
  have nn := (nweeks_01 ok.1 k6 y0 (by omega)).1
  have mm := (nweeks_01 ok.1 k6 t0 (by omega)).1
  have cn := fun w T => weeksOf_any c y n w ok k6 y0 y1 hn hm T
  have cm := fun w T => weeksOf_any c t m w ok k6 t0 t1 hm' hm T
  have bn : 52 ≤ n ∧ n ≤ 53 ∧ 52 ≤ m ∧ m ≤ 53 := by omega
  obtain ⟨n0, n1, m0, m1⟩ := bn
  have e1 : IntKind.i64.wrap (x + m) = x + m := by rw [IntWalk.i64_in _ (by omega)]
  have e2 : IntKind.i64.wrap (x + m - n) = x + m - n := by rw [IntWalk.i64_in _ (by omega)]
  clear ok k6 y0 y1 t0 t1 hn hm' nn mm
  obtain ⟨_, c0, c1, c2, c3, c4, c5, c6, c7, c8, c9, c10, c11, c12, c13⟩ := id C
  go_enter Tryd.func109, Tryd.ntmps109
  go_upto_region 1 with fail
  have qN := fun d os => Calls.regrown_of (cn (Go.Sort.grow (redrawn w d) os) (T.kept (below_regrown w d os)))
  have qM := fun d os => Calls.regrown_of (cm (Go.Sort.grow (redrawn w d) os) (T.kept (below_regrown w d os)))
  have k0 := cell_regrown c0
  have k1 := cell_regrown c1
  have k2 := cell_regrown c2
  have k3 := cell_regrown c3
  have k4 := cell_regrown c4
  have k5 := cell_regrown c5
  have k6 := cell_regrown c6
  have k7 := cell_regrown c7
  have k8 := cell_regrown c8
  have k9 := cell_regrown c9
  have k10 := cell_regrown c10
  have k11 := cell_regrown c11
  have k12 := cell_regrown c12
  have k13 := cell_regrown c13
  have kt := cell_regrown h2
  have ky := cell_regrown h3
  refine wp_region_quiet_below (by kernel_rfl) (by kernel_rfl) ?_
  repeat (quiet_step (first | with_reducible exact qM _ _ | with_reducible exact qN _ _))
  refine wpQuiet_nil ?_
  intro _ hw'
  obtain ⟨⟨dq, osq⟩, hw''⟩ := hw'
  subst hw''
  have hb := below_regrown w dq osq
  generalize Go.Sort.grow (redrawn w dq) osq = w9 at hb ⊢
  go_wp2
  go_ret2
  exact ⟨by simp [e1, e2], hb⟩

set_option maxRecDepth 100000 in
theorem pol3_any (c : CalZ) (y t x a b v er : Int) (b1 b2 b3 : Nat) (w : World) (ok : CalOk c) (k6 : c.k ≠ 6) (y0 : 1601 ≤ y) (y1 : y ≤ 9997) (t0 : 1601 ≤ t) (t1 : t ≤ 9997) (x0 : 0 ≤ x) (x1 : x ≤ 60) (ha : a = addw c y) (hb' : b = addw c t) (R : DropA x a b v er)
    (C : CalIn w b1 c) (h2 : w.cell? ⟨b2, 0, none⟩ = some (.int .i64 y)) (h3 : w.cell? ⟨b3, 0, none⟩ = some (.int .i64 t)) (hm : c.nm.size ≤ maxLen) (T : FTab w) :
    Calls Tryd.prog 110 #[.int .i64 x, .pointer (some ⟨b1, 0, none⟩), .pointer (some ⟨b2, 0, none⟩), .pointer (some ⟨b3, 0, none⟩)] w fun e w' => e = .returned (.tuple #[.int .i64 v, .int .i64 er]) ∧ Below w.heap.size w w' := by
  have cn := fun w T => addedTo_any c y a w ok k6 y0 y1 ha hm T
  have cm := fun w T => addedTo_any c t b w ok k6 t0 t1 hb' hm T
  have cd := fun w => drop_any x a b v er w x0 x1 R
  clear ok k6 y0 y1 t0 t1 ha hb' R
  obtain ⟨_, c0, c1, c2, c3, c4, c5, c6, c7, c8, c9, c10, c11, c12, c13⟩ := id C
  go_enter Tryd.func110, Tryd.ntmps110
  go_upto_region 1 with fail
  have qN := fun d os => Calls.regrown_of (cn (Go.Sort.grow (redrawn w d) os) (T.kept (below_regrown w d os)))
  have qM := fun d os => Calls.regrown_of (cm (Go.Sort.grow (redrawn w d) os) (T.kept (below_regrown w d os)))
  have qD := fun d os => Calls.regrown_of (cd (Go.Sort.grow (redrawn w d) os))
  have k0 := cell_regrown c0
  have k1 := cell_regrown c1
  have k2 := cell_regrown c2
  have k3 := cell_regrown c3
  have k4 := cell_regrown c4
  have k5 := cell_regrown c5
  have k6 := cell_regrown c6
  have k7 := cell_regrown c7
  have k8 := cell_regrown c8
  have k9 := cell_regrown c9
  have k10 := cell_regrown c10
  have k11 := cell_regrown c11
  have k12 := cell_regrown c12
  have k13 := cell_regrown c13
  have kt := cell_regrown h2
  have ky := cell_regrown h3
  refine wp_region_quiet_below (by kernel_rfl) (by kernel_rfl) ?_
  repeat (quiet_step (first | with_reducible exact qD _ _ | with_reducible exact qM _ _ | with_reducible exact qN _ _))
  refine wpQuiet_nil ?_
  intro _ hw'
  obtain ⟨⟨dq, osq⟩, hw''⟩ := hw'
  subst hw''
  have hb := below_regrown w dq osq
  generalize Go.Sort.grow (redrawn w dq) osq = w9 at hb ⊢
  go_wp2
  go_ret2
  exact ⟨by simp, hb⟩

end Go.Proofs.YtmagdlcikcgelaaDoor.Mp
