/- Texts that are joined: Mcode, Mpol, Mweek, Mwk, Mday. -/
import Derived.Test.YtkfogmaogfgcgaaGreatDoorQaJP
import Derived.Test.YtkfogmaogfgcgaaGreatDoorQaJW
import Derived.Maps.OwnOps
import Derived.Test.YtkfogmaogfgcgaaGreatDoorQaDcode
import Derived.Deep.RegionWith
namespace Go.Proofs.YtkfogmaogfgcgaaGreatDoor.Mp
set_option linter.unusedSimpArgs false
set_option linter.unusedVariables false
open Go.RowKit Go.Maps Bn Bx Cp Am Fp Ap Cm Em Ep Rk Hp

set_option maxHeartbeats 2000000

instance (c : CalZ) (y : Int) : Decidable (Served c y) := by unfold Served; exact inferInstance

set_option maxRecDepth 100000 in
theorem isServed_any (c : CalZ) (y : Int) (r : Bool) (w : World) (hr : r = decide (Served c y)) :
    Calls Tryz.prog 93 #[.agg #[.string c.nm, .int .i64 c.k, .int .i64 c.d, .int .i64 c.m, .int .i64 c.s, .int .i64 c.sh, .int .i64 c.p0, .int .i64 c.p1, .int .i64 c.p2, .int .i64 c.cy, .int .i64 c.ex, .int .i64 c.fi, .int .i64 c.la, .int .i64 c.po], .int .i64 y] w fun e w' => e = .returned (.bool r) ∧ Below w.heap.size w w' := by
  have C := CalIn.new w c 24
  have B := balloc (Below.refl _ w) (.cells #[.string c.nm, .int .i64 c.k, .int .i64 c.d, .int .i64 c.m, .int .i64 c.s, .int .i64 c.sh, .int .i64 c.p0, .int .i64 c.p1, .int .i64 c.p2, .int .i64 c.cy, .int .i64 c.ex, .int .i64 c.fi, .int .i64 c.la, .int .i64 c.po] 24)
  have O : (decide (c.fi ≤ y) = false ∧ r = false) ∨ (decide (c.fi ≤ y) = true ∧ decide (y ≤ c.la) = false ∧ r = false) ∨ (decide (c.fi ≤ y) = true ∧ decide (y ≤ c.la) = true ∧ r = true) := by
    subst hr
    by_cases h : c.fi ≤ y
    · by_cases k : y ≤ c.la
      · exact .inr (.inr ⟨decide_eq_true h, decide_eq_true k, decide_eq_true ⟨h, k⟩⟩)
      · exact .inr (.inl ⟨decide_eq_true h, decide_eq_false k, decide_eq_false (fun q => k q.2)⟩)
    · exact .inl ⟨decide_eq_false h, decide_eq_false (fun q => h q.1)⟩
  clear hr
  rcases O with ⟨d0, rfl⟩ | ⟨d0, d1, rfl⟩ | ⟨d0, d1, rfl⟩
  all_goals
    go_enter Tryz.func93, Tryz.ntmps93
    go_upto_region 1 with fail
    generalize w.alloc (.cells #[.string c.nm, .int .i64 c.k, .int .i64 c.d, .int .i64 c.m, .int .i64 c.s, .int .i64 c.sh, .int .i64 c.p0, .int .i64 c.p1, .int .i64 c.p2, .int .i64 c.cy, .int .i64 c.ex, .int .i64 c.fi, .int .i64 c.la, .int .i64 c.po] 24) = W0 at *
    obtain ⟨_, c0, c1, c2, c3, c4, c5, c6, c7, c8, c9, c10, c11, c12, c13⟩ := id C
    go_wp2
    go_ret
    exact ⟨by simp, B⟩

set_option maxRecDepth 100000 in
theorem weeksOf_any (c : CalZ) (y v : Int) (w : World) (ok : CalOk c) (k6 : c.k ≠ 6) (y0 : 1601 ≤ y) (y1 : y ≤ 9997) (hv : v = nweeks c y) (hm : c.nm.size ≤ maxLen) (T : FTab w) :
    Calls Tryz.prog 94 #[.agg #[.string c.nm, .int .i64 c.k, .int .i64 c.d, .int .i64 c.m, .int .i64 c.s, .int .i64 c.sh, .int .i64 c.p0, .int .i64 c.p1, .int .i64 c.p2, .int .i64 c.cy, .int .i64 c.ex, .int .i64 c.fi, .int .i64 c.la, .int .i64 c.po], .int .i64 y] w fun e w' => e = .returned (.int .i64 v) ∧ Below w.heap.size w w' := by
  have C := CalIn.new w c 24
  have B := balloc (Below.refl _ w) (.cells #[.string c.nm, .int .i64 c.k, .int .i64 c.d, .int .i64 c.m, .int .i64 c.s, .int .i64 c.sh, .int .i64 c.p0, .int .i64 c.p1, .int .i64 c.p2, .int .i64 c.cy, .int .i64 c.ex, .int .i64 c.fi, .int .i64 c.la, .int .i64 c.po] 24)
  replace T := T.alloc (.cells #[.string c.nm, .int .i64 c.k, .int .i64 c.d, .int .i64 c.m, .int .i64 c.s, .int .i64 c.sh, .int .i64 c.p0, .int .i64 c.p1, .int .i64 c.p2, .int .i64 c.cy, .int .i64 c.ex, .int .i64 c.fi, .int .i64 c.la, .int .i64 c.po] 24)
  have cw := fun w T => Weeks_any c y v 0 w (.inl ⟨ok, k6, y0, y1, hv, rfl⟩) hm T
  clear ok k6 y0 y1 hv
  go_enter Tryz.func94, Tryz.ntmps94
  go_upto_region 1 with fail
  generalize w.alloc (.cells #[.string c.nm, .int .i64 c.k, .int .i64 c.d, .int .i64 c.m, .int .i64 c.s, .int .i64 c.sh, .int .i64 c.p0, .int .i64 c.p1, .int .i64 c.p2, .int .i64 c.cy, .int .i64 c.ex, .int .i64 c.fi, .int .i64 c.la, .int .i64 c.po] 24) = W0 at *
  obtain ⟨_, c0, c1, c2, c3, c4, c5, c6, c7, c8, c9, c10, c11, c12, c13⟩ := id C
  go_wp2_with fail
  refine (cw _ T).mono ?_
  rintro e w1 ⟨rfl, hb⟩
  replace C := C.kept hb
  replace B := bthen B hb
  replace T := T.kept hb
  clear hb c0 c1 c2 c3 c4 c5 c6 c7 c8 c9 c10 c11 c12 c13
  obtain ⟨_, c0, c1, c2, c3, c4, c5, c6, c7, c8, c9, c10, c11, c12, c13⟩ := id C
  go_wp2
  go_ret
  exact ⟨rfl, B⟩

set_option maxRecDepth 100000 in
theorem addedTo_any (c : CalZ) (y v : Int) (w : World) (ok : CalOk c) (k6 : c.k ≠ 6) (y0 : 1601 ≤ y) (y1 : y ≤ 9997) (hv : v = addw c y) (hm : c.nm.size ≤ maxLen) (T : FTab w) :
    Calls Tryz.prog 153 #[.agg #[.string c.nm, .int .i64 c.k, .int .i64 c.d, .int .i64 c.m, .int .i64 c.s, .int .i64 c.sh, .int .i64 c.p0, .int .i64 c.p1, .int .i64 c.p2, .int .i64 c.cy, .int .i64 c.ex, .int .i64 c.fi, .int .i64 c.la, .int .i64 c.po], .int .i64 y] w fun e w' => e = .returned (.int .i64 v) ∧ Below w.heap.size w w' := by
  have C := CalIn.new w c 24
  have B := balloc (Below.refl _ w) (.cells #[.string c.nm, .int .i64 c.k, .int .i64 c.d, .int .i64 c.m, .int .i64 c.s, .int .i64 c.sh, .int .i64 c.p0, .int .i64 c.p1, .int .i64 c.p2, .int .i64 c.cy, .int .i64 c.ex, .int .i64 c.fi, .int .i64 c.la, .int .i64 c.po] 24)
  replace T := T.alloc (.cells #[.string c.nm, .int .i64 c.k, .int .i64 c.d, .int .i64 c.m, .int .i64 c.s, .int .i64 c.sh, .int .i64 c.p0, .int .i64 c.p1, .int .i64 c.p2, .int .i64 c.cy, .int .i64 c.ex, .int .i64 c.fi, .int .i64 c.la, .int .i64 c.po] 24)
  have cw := fun w T => Added_any c y v 0 w (by rw [hv]; exact added_is ok k6 y0 y1) hm T
  clear ok k6 y0 y1 hv
  go_enter Tryz.func153, Tryz.ntmps153
  go_upto_region 1 with fail
  generalize w.alloc (.cells #[.string c.nm, .int .i64 c.k, .int .i64 c.d, .int .i64 c.m, .int .i64 c.s, .int .i64 c.sh, .int .i64 c.p0, .int .i64 c.p1, .int .i64 c.p2, .int .i64 c.cy, .int .i64 c.ex, .int .i64 c.fi, .int .i64 c.la, .int .i64 c.po] 24) = W0 at *
  obtain ⟨_, c0, c1, c2, c3, c4, c5, c6, c7, c8, c9, c10, c11, c12, c13⟩ := id C
  go_wp2_with fail
  refine (cw _ T).mono ?_
  rintro e w1 ⟨rfl, hb⟩
  replace C := C.kept hb
  replace B := bthen B hb
  replace T := T.kept hb
  clear hb c0 c1 c2 c3 c4 c5 c6 c7 c8 c9 c10 c11 c12 c13
  obtain ⟨_, c0, c1, c2, c3, c4, c5, c6, c7, c8, c9, c10, c11, c12, c13⟩ := id C
  go_wp2
  go_ret
  exact ⟨rfl, B⟩

theorem drop_any (x a b v er : Int) (w : World) (x0 : 0 ≤ x) (x1 : x ≤ 60) (R : DropA x a b v er) :
    Calls Tryz.prog 152 #[.int .i64 x, .int .i64 a, .int .i64 b] w fun e w' => e = .returned (.tuple #[.int .i64 v, .int .i64 er]) ∧ Below w.heap.size w w' := by
  rcases R with ⟨rfl, rfl, rfl, rfl⟩ | ⟨rfl, h, rfl, rfl⟩ | ⟨h, hv, rfl⟩
  · go_enter Tryz.func152, Tryz.ntmps152
    go_wp2
    go_ret2
    exact ⟨rfl, Below.refl _ _⟩
  · have d : (v == 0) = false := beq_eq_false_iff_ne.2 h
    go_enter Tryz.func152, Tryz.ntmps152
    go_wp2
    go_ret2
    exact ⟨rfl, Below.refl _ _⟩
  · have d : (x == a) = false := beq_eq_false_iff_ne.2 h
    clear h
    by_cases a0 : 0 < a
    · by_cases a1 : a < x
      · have e1 : (if 0 < a ∧ a < x then x - 1 else x) = x - 1 := if_pos ⟨a0, a1⟩
        unfold dropA at hv
        rw [e1] at hv
        by_cases b0 : 0 < b
        · by_cases b1 : b ≤ x - 1
          · rw [if_pos ⟨b0, b1⟩] at hv
            subst hv
            clear e1
            go_enter Tryz.func152, Tryz.ntmps152
            go_wp2
            go_ret2
            exact ⟨by simp, Below.refl _ _⟩
          · rw [if_neg (fun q => b1 q.2)] at hv
            subst hv
            clear e1
            go_enter Tryz.func152, Tryz.ntmps152
            go_wp2
            go_ret2
            exact ⟨by simp, Below.refl _ _⟩
        · rw [if_neg (fun q => b0 q.1)] at hv
          subst hv
          clear e1
          go_enter Tryz.func152, Tryz.ntmps152
          go_wp2
          go_ret2
          exact ⟨by simp, Below.refl _ _⟩
      · have e1 : (if 0 < a ∧ a < x then x - 1 else x) = x := if_neg (fun q => a1 q.2)
        unfold dropA at hv
        rw [e1] at hv
        by_cases b0 : 0 < b
        · by_cases b1 : b ≤ x
          · rw [if_pos ⟨b0, b1⟩] at hv
            subst hv
            clear e1
            go_enter Tryz.func152, Tryz.ntmps152
            go_wp2
            go_ret2
            exact ⟨by simp, Below.refl _ _⟩
          · rw [if_neg (fun q => b1 q.2)] at hv
            subst hv
            clear e1
            go_enter Tryz.func152, Tryz.ntmps152
            go_wp2
            go_ret2
            exact ⟨by simp, Below.refl _ _⟩
        · rw [if_neg (fun q => b0 q.1)] at hv
          subst hv
          clear e1
          go_enter Tryz.func152, Tryz.ntmps152
          go_wp2
          go_ret2
          exact ⟨by simp, Below.refl _ _⟩
    · have e1 : (if 0 < a ∧ a < x then x - 1 else x) = x := if_neg (fun q => a0 q.1)
      unfold dropA at hv
      rw [e1] at hv
      by_cases b0 : 0 < b
      · by_cases b1 : b ≤ x
        · rw [if_pos ⟨b0, b1⟩] at hv
          subst hv
          clear e1
          go_enter Tryz.func152, Tryz.ntmps152
          go_wp2
          go_ret2
          exact ⟨by simp, Below.refl _ _⟩
        · rw [if_neg (fun q => b1 q.2)] at hv
          subst hv
          clear e1
          go_enter Tryz.func152, Tryz.ntmps152
          go_wp2
          go_ret2
          exact ⟨by simp, Below.refl _ _⟩
      · rw [if_neg (fun q => b0 q.1)] at hv
        subst hv
        clear e1
        go_enter Tryz.func152, Tryz.ntmps152
        go_wp2
        go_ret2
        exact ⟨by simp, Below.refl _ _⟩

theorem pol1_any (x : Int) (w : World) :
    Calls Tryz.prog 149 #[.int .i64 x] w fun e w' => e = .returned (.tuple #[.int .i64 x, .int .i64 0]) ∧ Below w.heap.size w w' := by
  go_enter Tryz.func149, Tryz.ntmps149
  go_wp2
  go_ret2
  exact ⟨rfl, Below.refl _ _⟩

end Go.Proofs.YtkfogmaogfgcgaaGreatDoor.Mp

namespace Go.Proofs.YtkfogmaogfgcgaaGreatDoor.Mp
set_option linter.unusedSimpArgs false
set_option linter.unusedVariables false
open Go.RowKit Go.Maps Bn Bx Cp Am Fp Ap Cm Em Ep Rk Hp

set_option maxHeartbeats 16000000

set_option maxRecDepth 100000 in
theorem pol2_any (c : CalZ) (y t x n m : Int) (b1 b2 b3 : Nat) (w : World) (ok : CalOk c) (k6 : c.k ≠ 6) (y0 : 1601 ≤ y) (y1 : y ≤ 9997) (t0 : 1601 ≤ t) (t1 : t ≤ 9997) (x0 : 0 ≤ x) (x1 : x ≤ 60) (hn : n = nweeks c y) (hm' : m = nweeks c t)
    (C : CalIn w b1 c) (h2 : w.cell? ⟨b2, 0, none⟩ = some (.int .i64 t)) (h3 : w.cell? ⟨b3, 0, none⟩ = some (.int .i64 y)) (hm : c.nm.size ≤ maxLen) (T : FTab w) :
    Calls Tryz.prog 150 #[.int .i64 x, .pointer (some ⟨b1, 0, none⟩), .pointer (some ⟨b2, 0, none⟩), .pointer (some ⟨b3, 0, none⟩)] w fun e w' => e = .returned (.tuple #[.int .i64 (x + m - n), .int .i64 0]) ∧ Below w.heap.size w w' := by
  have nn := (nweeks_01 ok.1 k6 y0 (by omega)).1
  have mm := (nweeks_01 ok.1 k6 t0 (by omega)).1
  have cn := fun w T => weeksOf_any c y n w ok k6 y0 y1 hn hm T
  have cm := fun w T => weeksOf_any c t m w ok k6 t0 t1 hm' hm T
  have bn : 52 ≤ n ∧ n ≤ 53 ∧ 52 ≤ m ∧ m ≤ 53 := by omega
  obtain ⟨n0, n1, m0, m1⟩ := bn
  have e1 : IntKind.i64.wrap (x + m) = x + m := by rw [IntWalk.i64_in _ (by omega)]
  have e2 : IntKind.i64.wrap (x + m - n) = x + m - n := by rw [IntWalk.i64_in _ (by omega)]
  clear ok k6 y0 y1 t0 t1 hn hm' nn mm
  obtain ⟨_, c0, c1, c2, c3, c4, c5, c6, c7, c8, c9, c10, c11, c12, c13⟩ := id C
  go_enter Tryz.func150, Tryz.ntmps150
  go_upto_region 1 with fail
  have qN := fun d os => Calls.regrown_of (cn (Go.Sort.grow (redrawn w d) os) (T.kept (below_regrown w d os)))
  have qM := fun d os => Calls.regrown_of (cm (Go.Sort.grow (redrawn w d) os) (T.kept (below_regrown w d os)))
  have k0 := cell_regrown c0
  have k1 := cell_regrown c1
  have k2 := cell_regrown c2
  have k3 := cell_regrown c3
  have k4 := cell_regrown c4
  have k5 := cell_regrown c5
  have k6 := cell_regrown c6
  have k7 := cell_regrown c7
  have k8 := cell_regrown c8
  have k9 := cell_regrown c9
  have k10 := cell_regrown c10
  have k11 := cell_regrown c11
  have k12 := cell_regrown c12
  have k13 := cell_regrown c13
  have kt := cell_regrown h2
  have ky := cell_regrown h3
  refine wp_region_quiet_below (by kernel_rfl) (by kernel_rfl) ?_
  repeat (quiet_step (first | with_reducible exact qM _ _ | with_reducible exact qN _ _))
  refine wpQuiet_nil ?_
  intro _ hw'
  obtain ⟨⟨dq, osq⟩, hw''⟩ := hw'
  subst hw''
  have hb := below_regrown w dq osq
  generalize Go.Sort.grow (redrawn w dq) osq = w9 at hb ⊢
  go_wp2
  go_ret2
  exact ⟨by simp [e1, e2], hb⟩

set_option maxRecDepth 100000 in
theorem pol3_any (c : CalZ) (y t x a b v er : Int) (b1 b2 b3 : Nat) (w : World) (ok : CalOk c) (k6 : c.k ≠ 6) (y0 : 1601 ≤ y) (y1 : y ≤ 9997) (t0 : 1601 ≤ t) (t1 : t ≤ 9997) (x0 : 0 ≤ x) (x1 : x ≤ 60) (ha : a = addw c y) (hb' : b = addw c t) (R : DropA x a b v er)
    (C : CalIn w b1 c) (h2 : w.cell? ⟨b2, 0, none⟩ = some (.int .i64 y)) (h3 : w.cell? ⟨b3, 0, none⟩ = some (.int .i64 t)) (hm : c.nm.size ≤ maxLen) (T : FTab w) :
    Calls Tryz.prog 151 #[.int .i64 x, .pointer (some ⟨b1, 0, none⟩), .pointer (some ⟨b2, 0, none⟩), .pointer (some ⟨b3, 0, none⟩)] w fun e w' => e = .returned (.tuple #[.int .i64 v, .int .i64 er]) ∧ Below w.heap.size w w' := by
  have cn := fun w T => addedTo_any c y a w ok k6 y0 y1 ha hm T
  have cm := fun w T => addedTo_any c t b w ok k6 t0 t1 hb' hm T
  have cd := fun w => drop_any x a b v er w x0 x1 R
  clear ok k6 y0 y1 t0 t1 ha hb' R
  obtain ⟨_, c0, c1, c2, c3, c4, c5, c6, c7, c8, c9, c10, c11, c12, c13⟩ := id C
  go_enter Tryz.func151, Tryz.ntmps151
  go_upto_region 1 with fail
  have qN := fun d os => Calls.regrown_of (cn (Go.Sort.grow (redrawn w d) os) (T.kept (below_regrown w d os)))
  have qM := fun d os => Calls.regrown_of (cm (Go.Sort.grow (redrawn w d) os) (T.kept (below_regrown w d os)))
  have qD := fun d os => Calls.regrown_of (cd (Go.Sort.grow (redrawn w d) os))
  have k0 := cell_regrown c0
  have k1 := cell_regrown c1
  have k2 := cell_regrown c2
  have k3 := cell_regrown c3
  have k4 := cell_regrown c4
  have k5 := cell_regrown c5
  have k6 := cell_regrown c6
  have k7 := cell_regrown c7
  have k8 := cell_regrown c8
  have k9 := cell_regrown c9
  have k10 := cell_regrown c10
  have k11 := cell_regrown c11
  have k12 := cell_regrown c12
  have k13 := cell_regrown c13
  have kt := cell_regrown h2
  have ky := cell_regrown h3
  refine wp_region_quiet_below (by kernel_rfl) (by kernel_rfl) ?_
  repeat (quiet_step (first | with_reducible exact qD _ _ | with_reducible exact qM _ _ | with_reducible exact qN _ _))
  refine wpQuiet_nil ?_
  intro _ hw'
  obtain ⟨⟨dq, osq⟩, hw''⟩ := hw'
  subst hw''
  have hb := below_regrown w dq osq
  generalize Go.Sort.grow (redrawn w dq) osq = w9 at hb ⊢
  go_wp2
  go_ret2
  exact ⟨by simp, hb⟩

end Go.Proofs.YtkfogmaogfgcgaaGreatDoor.Mp

namespace Go.Proofs.YtkfogmaogfgcgaaGreatDoor.Mp
set_option linter.unusedSimpArgs false
set_option linter.unusedVariables false
open Go.RowKit Go.Maps Bn Bx Cp Am Fp Ap Cm Em Ep Rk Hp Dp

set_option maxHeartbeats 8000000

theorem wpList_insert_any {H : Type} {P : Program} (w : World) {ops : Array Oper} {rest : List Oper} {o : Oper} {a : Act} {Q : Exit → Act → World → Prop}
    (hg : o.guard = none) (m x v : Operand) (t : TypeId) (hop : o.op = Op.insert t m x v)
    (k e : TypeId) (K : Keyed P k) (ht : P.underlying t = some (.map k e)) (R : Value → Option (DataW H × List MemPlace)) (b n : Nat) (D : DataW H)
    (hm : a.eval m = .map (some b)) (hown : w.ownsMap P k R b n D) (hn : n < maxLen) (key val : Value) (kl : Lit) (hx : a.eval x = key) (hv : a.eval v = val) (hkey : keyOf P k key = some kl)
    (d : DataW H) (ps : List MemPlace) (hval : R val = some (d, ps))
    (hK : ∀ w', w'.ownsMap P k R b (n + 1) (D.put kl d) → w.grownBy w' (some b) → wpList P ops Q rest (a.put o.dst undef) w') :
    wpList P ops Q (o :: rest) a w := by
  refine wpList_plain hg fun K' hK' => ?_
  obtain ⟨w', hrun, r1, r2⟩ := hown.update K ht hn hkey hval
  unfold Oper.wp
  simp [execOp, hop, hm, hx, hv, hrun, Result.andThen]
  exact hK' _ _ (hK w' r1 r2)

def HR : Value → Option (DataW Value × List MemPlace) := fun v => some (.held v, [])
def pol1V : Value := .func (.func 149) #[] #[]
def pol2V (s : Nat) : Value := .func (.func 150) #[] #[.pointer (some ⟨s, 0, none⟩), .pointer (some ⟨s + 2, 0, none⟩), .pointer (some ⟨s + 1, 0, none⟩)]
def pol3V (s : Nat) : Value := .func (.func 151) #[] #[.pointer (some ⟨s, 0, none⟩), .pointer (some ⟨s + 1, 0, none⟩), .pointer (some ⟨s + 2, 0, none⟩)]
def polD (s : Nat) : DataW Value := (((DataW.map []).put (.int .i64 1) (.held pol1V)).put (.int .i64 2) (.held (pol2V s))).put (.int .i64 3) (.held (pol3V s))
def Pols (w : World) (b s : Nat) : Prop := w.ownsMap Tryz.prog 3 HR b 3 (polD s)
theorem lawInt : Keyed Tryz.prog 3 := int_keyed Tryz.underlying3
theorem zeroF (w : World) : (zeroValue 116).run Tryz.prog w = .ok .nilFunc w := by kernel_rfl
theorem Pols.look {w : World} {b s : Nat} (h : Pols w b s) (p : Int) (V : Value) (hp : (Lit.int .i64 p).wf = true) (hV : (polD s).atKey (.int .i64 p) (.held .nilFunc) = .held V) :
    (Instr.lookup 117 (.map (some b)) (.int .i64 p) false).run Tryz.prog w = .ok V w := by
  obtain ⟨v, ps, hrun, hv⟩ := World.ownsMap.lookup h lawInt Tryz.underlying117 (zeroF w) (zd := .held .nilFunc) (zp := []) rfl (keyOf_int_mk Tryz.underlying3 hp)
  have e := congrArg Prod.fst (Option.some.inj hv)
  rw [hV] at e
  have e2 : v = V := by simpa using e
  rw [hrun, e2]

def PolsRes (c : CalZ) (y t : Int) (w : World) (e : Ending) (w' : World) : Prop :=
  ∃ b, e = .returned (.map (some b)) ∧ Pols w' b w.heap.size ∧ CalIn w' w.heap.size c ∧ Cel w' (w.heap.size + 1) (.int .i64 y) ∧ Cel w' (w.heap.size + 2) (.int .i64 t) ∧ Below w.heap.size w w'

set_option maxRecDepth 100000 in
theorem policies_any (c : CalZ) (y t : Int) (w : World) : Calls Tryz.prog 95 #[.agg #[.string c.nm, .int .i64 c.k, .int .i64 c.d, .int .i64 c.m, .int .i64 c.s, .int .i64 c.sh, .int .i64 c.p0, .int .i64 c.p1, .int .i64 c.p2, .int .i64 c.cy, .int .i64 c.ex, .int .i64 c.fi, .int .i64 c.la, .int .i64 c.po], .int .i64 y, .int .i64 t] w fun e w' => PolsRes c y t w e w' := by
  have hmm := @run_makeMap Tryz.prog
  have C := CalIn.new w c 24
  have B := balloc (balloc (balloc (Below.refl _ w) (.cells #[.string c.nm, .int .i64 c.k, .int .i64 c.d, .int .i64 c.m, .int .i64 c.s, .int .i64 c.sh, .int .i64 c.p0, .int .i64 c.p1, .int .i64 c.p2, .int .i64 c.cy, .int .i64 c.ex, .int .i64 c.fi, .int .i64 c.la, .int .i64 c.po] 24)) (.cells #[.int .i64 y] 3)) (.cells #[.int .i64 t] 3)
  have Y := Cel.new (w.alloc (.cells #[.string c.nm, .int .i64 c.k, .int .i64 c.d, .int .i64 c.m, .int .i64 c.s, .int .i64 c.sh, .int .i64 c.p0, .int .i64 c.p1, .int .i64 c.p2, .int .i64 c.cy, .int .i64 c.ex, .int .i64 c.fi, .int .i64 c.la, .int .i64 c.po] 24)) (.int .i64 y) 3
  have Z := Cel.new ((w.alloc (.cells #[.string c.nm, .int .i64 c.k, .int .i64 c.d, .int .i64 c.m, .int .i64 c.s, .int .i64 c.sh, .int .i64 c.p0, .int .i64 c.p1, .int .i64 c.p2, .int .i64 c.cy, .int .i64 c.ex, .int .i64 c.fi, .int .i64 c.la, .int .i64 c.po] 24)).alloc (.cells #[.int .i64 y] 3)) (.int .i64 t) 3
  have z1 : (w.alloc (.cells #[.string c.nm, .int .i64 c.k, .int .i64 c.d, .int .i64 c.m, .int .i64 c.s, .int .i64 c.sh, .int .i64 c.p0, .int .i64 c.p1, .int .i64 c.p2, .int .i64 c.cy, .int .i64 c.ex, .int .i64 c.fi, .int .i64 c.la, .int .i64 c.po] 24)).heap.size = w.heap.size + 1 := by simp
  have z2 : ((w.alloc (.cells #[.string c.nm, .int .i64 c.k, .int .i64 c.d, .int .i64 c.m, .int .i64 c.s, .int .i64 c.sh, .int .i64 c.p0, .int .i64 c.p1, .int .i64 c.p2, .int .i64 c.cy, .int .i64 c.ex, .int .i64 c.fi, .int .i64 c.la, .int .i64 c.po] 24)).alloc (.cells #[.int .i64 y] 3)).heap.size = w.heap.size + 2 := by simp
  rw [z1] at Y
  rw [z2] at Z
  replace C := (C.alloc (.cells #[.int .i64 y] 3)).alloc (.cells #[.int .i64 t] 3)
  replace Y := Y.alloc (.cells #[.int .i64 t] 3)
  clear z1 z2
  go_enter Tryz.func95, Tryz.ntmps95
  go_upto_region 1 with fail
  generalize ((w.alloc (.cells #[.string c.nm, .int .i64 c.k, .int .i64 c.d, .int .i64 c.m, .int .i64 c.s, .int .i64 c.sh, .int .i64 c.p0, .int .i64 c.p1, .int .i64 c.p2, .int .i64 c.cy, .int .i64 c.ex, .int .i64 c.fi, .int .i64 c.la, .int .i64 c.po] 24)).alloc (.cells #[.int .i64 y] 3)).alloc (.cells #[.int .i64 t] 3) = W0 at *
  have hown0 : (W0.alloc (.map #[] 0)).ownsMap Tryz.prog 3 HR W0.heap.size 0 (.map []) := World.ownsMap_made _ _ _ _
  go_wp2_with (first
    | (refine wpList_insert_any _ rfl _ _ _ 117 rfl 3 116 lawInt Tryz.underlying117 _ W0.heap.size 2 _ rfl hown2 (by unfold maxLen; omega) _ _ _ rfl rfl (keyOf_int_mk Tryz.underlying3 (by decide)) _ [] rfl ?_; intro w3 hown3 hgr3)
    | (refine wpList_insert_any _ rfl _ _ _ 117 rfl 3 116 lawInt Tryz.underlying117 _ W0.heap.size 1 _ rfl hown1 (by unfold maxLen; omega) _ _ _ rfl rfl (keyOf_int_mk Tryz.underlying3 (by decide)) _ [] rfl ?_; intro w2 hown2 hgr2)
    | (refine wpList_insert_any _ rfl _ _ _ 117 rfl 3 116 lawInt Tryz.underlying117 _ W0.heap.size 0 _ rfl hown0 (by unfold maxLen; omega) _ _ _ rfl rfl (keyOf_int_mk Tryz.underlying3 (by decide)) _ [] rfl ?_; intro w1 hown1 hgr1))
  have hB : Below W0.heap.size W0 w3 := ((((Below.refl _ W0).alloc (Nat.le_refl _) _).grown hgr1 (by simp) (fun j hj => by cases hj; exact Nat.le_refl _)).grown hgr2 (by have := hgr1.size; simp at this; omega) (fun j hj => by cases hj; exact Nat.le_refl _)).grown hgr3 (by have := hgr1.size; have := hgr2.size; simp at *; omega) (fun j hj => by cases hj; exact Nat.le_refl _)
  have HP : PolsRes c y t w (.returned (.map (some W0.heap.size))) w3 := ⟨_, rfl, hown3, C.kept hB, Y.kept hB, Z.kept hB, bthen B hB⟩
  go_ret
  exact HP

end Go.Proofs.YtkfogmaogfgcgaaGreatDoor.Mp

namespace Go.Proofs.YtkfogmaogfgcgaaGreatDoor.Mp
set_option linter.unusedSimpArgs false
set_option linter.unusedVariables false
open Go.RowKit Go.Maps Bn Bx Cp Am Fp Ap Cm Em Ep Rk Hp Dp

set_option maxHeartbeats 16000000

theorem polD_1 (s : Nat) : (polD s).atKey (.int .i64 1) (.held .nilFunc) = .held pol1V := by rfl
theorem polD_2 (s : Nat) : (polD s).atKey (.int .i64 2) (.held .nilFunc) = .held (pol2V s) := by rfl
theorem polD_3 (s : Nat) : (polD s).atKey (.int .i64 3) (.held .nilFunc) = .held (pol3V s) := by rfl
set_option maxRecDepth 100000 in
theorem week_1 (c : CalZ) (y t x v : Int) (hv : v = x) (w : World) (ok : CalOk c) (k6 : c.k ≠ 6) (sy : Served c y) (st : Served c t) (x0 : 1 ≤ x) (x1 : x ≤ nweeks c y) (po : c.po = 1) (hm : c.nm.size ≤ maxLen) (T : FTab w) :
    Calls Tryz.prog 57 #[.agg #[.string c.nm, .int .i64 c.k, .int .i64 c.d, .int .i64 c.m, .int .i64 c.s, .int .i64 c.sh, .int .i64 c.p0, .int .i64 c.p1, .int .i64 c.p2, .int .i64 c.cy, .int .i64 c.ex, .int .i64 c.fi, .int .i64 c.la, .int .i64 c.po], .int .i64 y, .int .i64 t, .int .i64 x] w fun e w' => e = .returned (.tuple #[.int .i64 v, .int .i64 0]) ∧ Below w.heap.size w w' := by
  have C := CalIn.new w c 24
  have B := balloc (Below.refl _ w) (.cells #[.string c.nm, .int .i64 c.k, .int .i64 c.d, .int .i64 c.m, .int .i64 c.s, .int .i64 c.sh, .int .i64 c.p0, .int .i64 c.p1, .int .i64 c.p2, .int .i64 c.cy, .int .i64 c.ex, .int .i64 c.fi, .int .i64 c.la, .int .i64 c.po] 24)
  replace T := T.alloc (.cells #[.string c.nm, .int .i64 c.k, .int .i64 c.d, .int .i64 c.m, .int .i64 c.s, .int .i64 c.sh, .int .i64 c.p0, .int .i64 c.p1, .int .i64 c.p2, .int .i64 c.cy, .int .i64 c.ex, .int .i64 c.fi, .int .i64 c.la, .int .i64 c.po] 24)
  have ck := fun w T => Check_any c 0 w (.inl ⟨ok, rfl⟩) hm T
  have cy := fun w => isServed_any c y true w (decide_eq_true sy).symm
  have ct := fun w => isServed_any c t true w (decide_eq_true st).symm
  have by' := served_told ok sy
  have bt := served_told ok st
  have d6 : (c.k == 6) = false := beq_eq_false_iff_ne.2 k6
  obtain ⟨n, hn⟩ : ∃ n, n = nweeks c y := ⟨_, rfl⟩
  obtain ⟨m, hm'⟩ : ∃ m, m = nweeks c t := ⟨_, rfl⟩
  have nb := (nweeks_01 ok.1 k6 (y := y) (by omega) (by omega)).1
  have cn := fun w T => weeksOf_any c y n w ok k6 (by omega) (by omega) hn hm T
  have cp := fun w => policies_any c y t w
  rw [← hn] at x1 nb
  have x2 : x ≤ 60 := by omega
  have hpo := Lib.hid po
  have q1 := fun w => pol1_any x w
  subst hv
  clear po ok k6 sy st hn hm' nb by' bt
  go_enter Tryz.func57, Tryz.ntmps57
  go_upto_region 1 with fail
  generalize w.alloc (.cells #[.string c.nm, .int .i64 c.k, .int .i64 c.d, .int .i64 c.m, .int .i64 c.s, .int .i64 c.sh, .int .i64 c.p0, .int .i64 c.p1, .int .i64 c.p2, .int .i64 c.cy, .int .i64 c.ex, .int .i64 c.fi, .int .i64 c.la, .int .i64 c.po] 24) = W0 at *
  obtain ⟨_, c0, c1, c2, c3, c4, c5, c6, c7, c8, c9, c10, c11, c12, c13⟩ := id C
  go_wp2_with fail
  refine (ck _ T).mono ?_
  rintro e w1 ⟨rfl, hb⟩
  replace C := C.kept hb
  replace B := bthen B hb
  replace T := T.kept hb
  clear hb c0 c1 c2 c3 c4 c5 c6 c7 c8 c9 c10 c11 c12 c13
  obtain ⟨_, c0, c1, c2, c3, c4, c5, c6, c7, c8, c9, c10, c11, c12, c13⟩ := id C
  go_wp2_with fail
  refine (cy _).mono ?_
  rintro e w2 ⟨rfl, hb⟩
  replace C := C.kept hb
  replace B := bthen B hb
  replace T := T.kept hb
  clear hb c0 c1 c2 c3 c4 c5 c6 c7 c8 c9 c10 c11 c12 c13
  obtain ⟨_, c0, c1, c2, c3, c4, c5, c6, c7, c8, c9, c10, c11, c12, c13⟩ := id C
  go_wp2_with fail
  refine (ct _).mono ?_
  rintro e w3 ⟨rfl, hb⟩
  replace C := C.kept hb
  replace B := bthen B hb
  replace T := T.kept hb
  clear hb c0 c1 c2 c3 c4 c5 c6 c7 c8 c9 c10 c11 c12 c13
  obtain ⟨_, c0, c1, c2, c3, c4, c5, c6, c7, c8, c9, c10, c11, c12, c13⟩ := id C
  go_wp2_with fail
  refine (cn _ T).mono ?_
  rintro e w4 ⟨rfl, hb⟩
  replace C := C.kept hb
  replace B := bthen B hb
  replace T := T.kept hb
  clear hb c0 c1 c2 c3 c4 c5 c6 c7 c8 c9 c10 c11 c12 c13
  obtain ⟨_, c0, c1, c2, c3, c4, c5, c6, c7, c8, c9, c10, c11, c12, c13⟩ := id C
  go_upto_region 10 with fail
  go_region_with (first
    | (go_at_call 95; refine (cp _).mono ?_; rintro e w30 ⟨m9, rfl, P9, C9, Y9, Z9, hb⟩; have hb' := bthen (show Below w4.heap.size w4 _ from by first | exact Below.refl _ _ | exact (Below.refl _ _).drew | exact ((Below.refl _ _).drew).drew) hb; have Ck := C.kept hb'; have T9 := T.kept hb'; have l9 := P9.look c.po pol1V (by rw [hpo.out]; decide) (by rw [hpo.out]; exact polD_1 _); unfold pol1V at l9; obtain ⟨_, k0, k1, k2, k3, k4, k5, k6, k7, k8, k9, k10, k11, k12, k13⟩ := id Ck)
    | (go_at_call 149; refine (q1 _).mono ?_; rintro e w31 ⟨rfl, hb2⟩))
  all_goals
    go_wp2
    go_ret2
    exact ⟨rfl, bthen (bthen B hb') hb2⟩

set_option maxRecDepth 100000 in
theorem week_2 (c : CalZ) (y t x v : Int) (hv : v = x + nweeks c t - nweeks c y) (w : World) (ok : CalOk c) (k6 : c.k ≠ 6) (sy : Served c y) (st : Served c t) (x0 : 1 ≤ x) (x1 : x ≤ nweeks c y) (po : c.po = 2) (hm : c.nm.size ≤ maxLen) (T : FTab w) :
    Calls Tryz.prog 57 #[.agg #[.string c.nm, .int .i64 c.k, .int .i64 c.d, .int .i64 c.m, .int .i64 c.s, .int .i64 c.sh, .int .i64 c.p0, .int .i64 c.p1, .int .i64 c.p2, .int .i64 c.cy, .int .i64 c.ex, .int .i64 c.fi, .int .i64 c.la, .int .i64 c.po], .int .i64 y, .int .i64 t, .int .i64 x] w fun e w' => e = .returned (.tuple #[.int .i64 v, .int .i64 0]) ∧ Below w.heap.size w w' := by
  have C := CalIn.new w c 24
  have B := balloc (Below.refl _ w) (.cells #[.string c.nm, .int .i64 c.k, .int .i64 c.d, .int .i64 c.m, .int .i64 c.s, .int .i64 c.sh, .int .i64 c.p0, .int .i64 c.p1, .int .i64 c.p2, .int .i64 c.cy, .int .i64 c.ex, .int .i64 c.fi, .int .i64 c.la, .int .i64 c.po] 24)
  replace T := T.alloc (.cells #[.string c.nm, .int .i64 c.k, .int .i64 c.d, .int .i64 c.m, .int .i64 c.s, .int .i64 c.sh, .int .i64 c.p0, .int .i64 c.p1, .int .i64 c.p2, .int .i64 c.cy, .int .i64 c.ex, .int .i64 c.fi, .int .i64 c.la, .int .i64 c.po] 24)
  have ck := fun w T => Check_any c 0 w (.inl ⟨ok, rfl⟩) hm T
  have cy := fun w => isServed_any c y true w (decide_eq_true sy).symm
  have ct := fun w => isServed_any c t true w (decide_eq_true st).symm
  have by' := served_told ok sy
  have bt := served_told ok st
  have d6 : (c.k == 6) = false := beq_eq_false_iff_ne.2 k6
  obtain ⟨n, hn⟩ : ∃ n, n = nweeks c y := ⟨_, rfl⟩
  obtain ⟨m, hm'⟩ : ∃ m, m = nweeks c t := ⟨_, rfl⟩
  have nb := (nweeks_01 ok.1 k6 (y := y) (by omega) (by omega)).1
  have cn := fun w T => weeksOf_any c y n w ok k6 (by omega) (by omega) hn hm T
  have cp := fun w => policies_any c y t w
  rw [← hn] at x1 nb
  have x2 : x ≤ 60 := by omega
  have hpo := Lib.hid po
  have q2 := fun w (b : Nat) T => fun (b1 b2 b3 : Nat) C h2 h3 => pol2_any c y t x n m b1 b2 b3 w ok k6 (by omega) (by omega) (by omega) (by omega) (by omega) x2 hn hm' C h2 h3 hm T
  rw [← hn, ← hm'] at hv
  subst hv
  clear po ok k6 sy st hn hm' nb by' bt
  go_enter Tryz.func57, Tryz.ntmps57
  go_upto_region 1 with fail
  generalize w.alloc (.cells #[.string c.nm, .int .i64 c.k, .int .i64 c.d, .int .i64 c.m, .int .i64 c.s, .int .i64 c.sh, .int .i64 c.p0, .int .i64 c.p1, .int .i64 c.p2, .int .i64 c.cy, .int .i64 c.ex, .int .i64 c.fi, .int .i64 c.la, .int .i64 c.po] 24) = W0 at *
  obtain ⟨_, c0, c1, c2, c3, c4, c5, c6, c7, c8, c9, c10, c11, c12, c13⟩ := id C
  go_wp2_with fail
  refine (ck _ T).mono ?_
  rintro e w1 ⟨rfl, hb⟩
  replace C := C.kept hb
  replace B := bthen B hb
  replace T := T.kept hb
  clear hb c0 c1 c2 c3 c4 c5 c6 c7 c8 c9 c10 c11 c12 c13
  obtain ⟨_, c0, c1, c2, c3, c4, c5, c6, c7, c8, c9, c10, c11, c12, c13⟩ := id C
  go_wp2_with fail
  refine (cy _).mono ?_
  rintro e w2 ⟨rfl, hb⟩
  replace C := C.kept hb
  replace B := bthen B hb
  replace T := T.kept hb
  clear hb c0 c1 c2 c3 c4 c5 c6 c7 c8 c9 c10 c11 c12 c13
  obtain ⟨_, c0, c1, c2, c3, c4, c5, c6, c7, c8, c9, c10, c11, c12, c13⟩ := id C
  go_wp2_with fail
  refine (ct _).mono ?_
  rintro e w3 ⟨rfl, hb⟩
  replace C := C.kept hb
  replace B := bthen B hb
  replace T := T.kept hb
  clear hb c0 c1 c2 c3 c4 c5 c6 c7 c8 c9 c10 c11 c12 c13
  obtain ⟨_, c0, c1, c2, c3, c4, c5, c6, c7, c8, c9, c10, c11, c12, c13⟩ := id C
  go_wp2_with fail
  refine (cn _ T).mono ?_
  rintro e w4 ⟨rfl, hb⟩
  replace C := C.kept hb
  replace B := bthen B hb
  replace T := T.kept hb
  clear hb c0 c1 c2 c3 c4 c5 c6 c7 c8 c9 c10 c11 c12 c13
  obtain ⟨_, c0, c1, c2, c3, c4, c5, c6, c7, c8, c9, c10, c11, c12, c13⟩ := id C
  go_upto_region 10 with fail
  go_region_with (first
    | (go_at_call 95; refine (cp _).mono ?_; rintro e w30 ⟨m9, rfl, P9, C9, Y9, Z9, hb⟩; have hb' := bthen (show Below w4.heap.size w4 _ from by first | exact Below.refl _ _ | exact (Below.refl _ _).drew | exact ((Below.refl _ _).drew).drew) hb; have Ck := C.kept hb'; have T9 := T.kept hb'; have l9 := P9.look c.po (pol2V _) (by rw [hpo.out]; decide) (by rw [hpo.out]; exact polD_2 _); unfold pol2V at l9; obtain ⟨_, k0, k1, k2, k3, k4, k5, k6, k7, k8, k9, k10, k11, k12, k13⟩ := id Ck)
    | (go_at_call 150; refine (q2 _ 0 T9 _ _ _ C9 Z9.c Y9.c).mono ?_; rintro e w31 ⟨rfl, hb2⟩))
  all_goals
    go_wp2
    go_ret2
    exact ⟨rfl, bthen (bthen B hb') hb2⟩

set_option maxRecDepth 100000 in
theorem week_3 (c : CalZ) (y t x v : Int) (er : Int) (D : DropA x (addw c y) (addw c t) v er) (w : World) (ok : CalOk c) (k6 : c.k ≠ 6) (sy : Served c y) (st : Served c t) (x0 : 1 ≤ x) (x1 : x ≤ nweeks c y) (po : c.po = 3) (hm : c.nm.size ≤ maxLen) (T : FTab w) :
    Calls Tryz.prog 57 #[.agg #[.string c.nm, .int .i64 c.k, .int .i64 c.d, .int .i64 c.m, .int .i64 c.s, .int .i64 c.sh, .int .i64 c.p0, .int .i64 c.p1, .int .i64 c.p2, .int .i64 c.cy, .int .i64 c.ex, .int .i64 c.fi, .int .i64 c.la, .int .i64 c.po], .int .i64 y, .int .i64 t, .int .i64 x] w fun e w' => e = .returned (.tuple #[.int .i64 v, .int .i64 er]) ∧ Below w.heap.size w w' := by
  have C := CalIn.new w c 24
  have B := balloc (Below.refl _ w) (.cells #[.string c.nm, .int .i64 c.k, .int .i64 c.d, .int .i64 c.m, .int .i64 c.s, .int .i64 c.sh, .int .i64 c.p0, .int .i64 c.p1, .int .i64 c.p2, .int .i64 c.cy, .int .i64 c.ex, .int .i64 c.fi, .int .i64 c.la, .int .i64 c.po] 24)
  replace T := T.alloc (.cells #[.string c.nm, .int .i64 c.k, .int .i64 c.d, .int .i64 c.m, .int .i64 c.s, .int .i64 c.sh, .int .i64 c.p0, .int .i64 c.p1, .int .i64 c.p2, .int .i64 c.cy, .int .i64 c.ex, .int .i64 c.fi, .int .i64 c.la, .int .i64 c.po] 24)
  have ck := fun w T => Check_any c 0 w (.inl ⟨ok, rfl⟩) hm T
  have cy := fun w => isServed_any c y true w (decide_eq_true sy).symm
  have ct := fun w => isServed_any c t true w (decide_eq_true st).symm
  have by' := served_told ok sy
  have bt := served_told ok st
  have d6 : (c.k == 6) = false := beq_eq_false_iff_ne.2 k6
  obtain ⟨n, hn⟩ : ∃ n, n = nweeks c y := ⟨_, rfl⟩
  obtain ⟨m, hm'⟩ : ∃ m, m = nweeks c t := ⟨_, rfl⟩
  have nb := (nweeks_01 ok.1 k6 (y := y) (by omega) (by omega)).1
  have cn := fun w T => weeksOf_any c y n w ok k6 (by omega) (by omega) hn hm T
  have cp := fun w => policies_any c y t w
  rw [← hn] at x1 nb
  have x2 : x ≤ 60 := by omega
  have hpo := Lib.hid po
  have q3 := fun w (b : Nat) T => fun (b1 b2 b3 : Nat) C h2 h3 => pol3_any c y t x (addw c y) (addw c t) v er b1 b2 b3 w ok k6 (by omega) (by omega) (by omega) (by omega) (by omega) x2 rfl rfl D C h2 h3 hm T
  clear D
  clear po ok k6 sy st hn hm' nb by' bt
  go_enter Tryz.func57, Tryz.ntmps57
  go_upto_region 1 with fail
  generalize w.alloc (.cells #[.string c.nm, .int .i64 c.k, .int .i64 c.d, .int .i64 c.m, .int .i64 c.s, .int .i64 c.sh, .int .i64 c.p0, .int .i64 c.p1, .int .i64 c.p2, .int .i64 c.cy, .int .i64 c.ex, .int .i64 c.fi, .int .i64 c.la, .int .i64 c.po] 24) = W0 at *
  obtain ⟨_, c0, c1, c2, c3, c4, c5, c6, c7, c8, c9, c10, c11, c12, c13⟩ := id C
  go_wp2_with fail
  refine (ck _ T).mono ?_
  rintro e w1 ⟨rfl, hb⟩
  replace C := C.kept hb
  replace B := bthen B hb
  replace T := T.kept hb
  clear hb c0 c1 c2 c3 c4 c5 c6 c7 c8 c9 c10 c11 c12 c13
  obtain ⟨_, c0, c1, c2, c3, c4, c5, c6, c7, c8, c9, c10, c11, c12, c13⟩ := id C
  go_wp2_with fail
  refine (cy _).mono ?_
  rintro e w2 ⟨rfl, hb⟩
  replace C := C.kept hb
  replace B := bthen B hb
  replace T := T.kept hb
  clear hb c0 c1 c2 c3 c4 c5 c6 c7 c8 c9 c10 c11 c12 c13
  obtain ⟨_, c0, c1, c2, c3, c4, c5, c6, c7, c8, c9, c10, c11, c12, c13⟩ := id C
  go_wp2_with fail
  refine (ct _).mono ?_
  rintro e w3 ⟨rfl, hb⟩
  replace C := C.kept hb
  replace B := bthen B hb
  replace T := T.kept hb
  clear hb c0 c1 c2 c3 c4 c5 c6 c7 c8 c9 c10 c11 c12 c13
  obtain ⟨_, c0, c1, c2, c3, c4, c5, c6, c7, c8, c9, c10, c11, c12, c13⟩ := id C
  go_wp2_with fail
  refine (cn _ T).mono ?_
  rintro e w4 ⟨rfl, hb⟩
  replace C := C.kept hb
  replace B := bthen B hb
  replace T := T.kept hb
  clear hb c0 c1 c2 c3 c4 c5 c6 c7 c8 c9 c10 c11 c12 c13
  obtain ⟨_, c0, c1, c2, c3, c4, c5, c6, c7, c8, c9, c10, c11, c12, c13⟩ := id C
  go_upto_region 10 with fail
  go_region_with (first
    | (go_at_call 95; refine (cp _).mono ?_; rintro e w30 ⟨m9, rfl, P9, C9, Y9, Z9, hb⟩; have hb' := bthen (show Below w4.heap.size w4 _ from by first | exact Below.refl _ _ | exact (Below.refl _ _).drew | exact ((Below.refl _ _).drew).drew) hb; have Ck := C.kept hb'; have T9 := T.kept hb'; have l9 := P9.look c.po (pol3V _) (by rw [hpo.out]; decide) (by rw [hpo.out]; exact polD_3 _); unfold pol3V at l9; obtain ⟨_, k0, k1, k2, k3, k4, k5, k6, k7, k8, k9, k10, k11, k12, k13⟩ := id Ck)
    | (go_at_call 151; refine (q3 _ 0 T9 _ _ _ C9 Y9.c Z9.c).mono ?_; rintro e w31 ⟨rfl, hb2⟩))
  all_goals
    go_wp2
    go_ret2
    exact ⟨rfl, bthen (bthen B hb') hb2⟩

set_option maxRecDepth 100000 in
theorem week_ns (c : CalZ) (y t x : Int) (w : World) (ok : CalOk c) (k6 : c.k ≠ 6) (ns : ¬ (Served c y ∧ Served c t)) (hm : c.nm.size ≤ maxLen) (T : FTab w) :
    Calls Tryz.prog 57 #[.agg #[.string c.nm, .int .i64 c.k, .int .i64 c.d, .int .i64 c.m, .int .i64 c.s, .int .i64 c.sh, .int .i64 c.p0, .int .i64 c.p1, .int .i64 c.p2, .int .i64 c.cy, .int .i64 c.ex, .int .i64 c.fi, .int .i64 c.la, .int .i64 c.po], .int .i64 y, .int .i64 t, .int .i64 x] w fun e w' => e = .returned (.tuple #[.int .i64 0, .int .i64 11]) ∧ Below w.heap.size w w' := by
  have C := CalIn.new w c 24
  have B := balloc (Below.refl _ w) (.cells #[.string c.nm, .int .i64 c.k, .int .i64 c.d, .int .i64 c.m, .int .i64 c.s, .int .i64 c.sh, .int .i64 c.p0, .int .i64 c.p1, .int .i64 c.p2, .int .i64 c.cy, .int .i64 c.ex, .int .i64 c.fi, .int .i64 c.la, .int .i64 c.po] 24)
  replace T := T.alloc (.cells #[.string c.nm, .int .i64 c.k, .int .i64 c.d, .int .i64 c.m, .int .i64 c.s, .int .i64 c.sh, .int .i64 c.p0, .int .i64 c.p1, .int .i64 c.p2, .int .i64 c.cy, .int .i64 c.ex, .int .i64 c.fi, .int .i64 c.la, .int .i64 c.po] 24)
  have ck := fun w T => Check_any c 0 w (.inl ⟨ok, rfl⟩) hm T
  have d6 : (c.k == 6) = false := beq_eq_false_iff_ne.2 k6
  by_cases sy : Served c y
  · have st : ¬ Served c t := fun q => ns ⟨sy, q⟩
    have cy := fun w => isServed_any c y true w (decide_eq_true sy).symm
    have ct := fun w => isServed_any c t false w (decide_eq_false st).symm
    clear ok k6 ns sy st
    go_enter Tryz.func57, Tryz.ntmps57
    go_upto_region 1 with fail
    generalize w.alloc (.cells #[.string c.nm, .int .i64 c.k, .int .i64 c.d, .int .i64 c.m, .int .i64 c.s, .int .i64 c.sh, .int .i64 c.p0, .int .i64 c.p1, .int .i64 c.p2, .int .i64 c.cy, .int .i64 c.ex, .int .i64 c.fi, .int .i64 c.la, .int .i64 c.po] 24) = W0 at *
    obtain ⟨_, c0, c1, c2, c3, c4, c5, c6, c7, c8, c9, c10, c11, c12, c13⟩ := id C
    go_wp2_with fail
    refine (ck _ T).mono ?_
    rintro e w1 ⟨rfl, hb⟩
    replace C := C.kept hb
    replace B := bthen B hb
    replace T := T.kept hb
    clear hb c0 c1 c2 c3 c4 c5 c6 c7 c8 c9 c10 c11 c12 c13
    obtain ⟨_, c0, c1, c2, c3, c4, c5, c6, c7, c8, c9, c10, c11, c12, c13⟩ := id C
    go_wp2_with fail
    refine (cy _).mono ?_
    rintro e w2 ⟨rfl, hb⟩
    replace C := C.kept hb
    replace B := bthen B hb
    replace T := T.kept hb
    clear hb c0 c1 c2 c3 c4 c5 c6 c7 c8 c9 c10 c11 c12 c13
    obtain ⟨_, c0, c1, c2, c3, c4, c5, c6, c7, c8, c9, c10, c11, c12, c13⟩ := id C
    go_wp2_with fail
    refine (ct _).mono ?_
    rintro e w3 ⟨rfl, hb⟩
    replace C := C.kept hb
    replace B := bthen B hb
    replace T := T.kept hb
    clear hb c0 c1 c2 c3 c4 c5 c6 c7 c8 c9 c10 c11 c12 c13
    obtain ⟨_, c0, c1, c2, c3, c4, c5, c6, c7, c8, c9, c10, c11, c12, c13⟩ := id C
    go_wp2
    go_ret2
    exact ⟨rfl, B⟩
  · have cy := fun w => isServed_any c y false w (decide_eq_false sy).symm
    clear ok k6 ns sy
    go_enter Tryz.func57, Tryz.ntmps57
    go_upto_region 1 with fail
    generalize w.alloc (.cells #[.string c.nm, .int .i64 c.k, .int .i64 c.d, .int .i64 c.m, .int .i64 c.s, .int .i64 c.sh, .int .i64 c.p0, .int .i64 c.p1, .int .i64 c.p2, .int .i64 c.cy, .int .i64 c.ex, .int .i64 c.fi, .int .i64 c.la, .int .i64 c.po] 24) = W0 at *
    obtain ⟨_, c0, c1, c2, c3, c4, c5, c6, c7, c8, c9, c10, c11, c12, c13⟩ := id C
    go_wp2_with fail
    refine (ck _ T).mono ?_
    rintro e w4 ⟨rfl, hb⟩
    replace C := C.kept hb
    replace B := bthen B hb
    replace T := T.kept hb
    clear hb c0 c1 c2 c3 c4 c5 c6 c7 c8 c9 c10 c11 c12 c13
    obtain ⟨_, c0, c1, c2, c3, c4, c5, c6, c7, c8, c9, c10, c11, c12, c13⟩ := id C
    go_wp2_with fail
    refine (cy _).mono ?_
    rintro e w5 ⟨rfl, hb⟩
    replace C := C.kept hb
    replace B := bthen B hb
    replace T := T.kept hb
    clear hb c0 c1 c2 c3 c4 c5 c6 c7 c8 c9 c10 c11 c12 c13
    obtain ⟨_, c0, c1, c2, c3, c4, c5, c6, c7, c8, c9, c10, c11, c12, c13⟩ := id C
    go_wp2
    go_ret2
    exact ⟨rfl, B⟩

set_option maxRecDepth 100000 in
theorem week_nx (c : CalZ) (y t x : Int) (w : World) (ok : CalOk c) (k6 : c.k ≠ 6) (sy : Served c y) (st : Served c t) (nx : ¬ (1 ≤ x ∧ x ≤ nweeks c y)) (hm : c.nm.size ≤ maxLen) (T : FTab w) :
    Calls Tryz.prog 57 #[.agg #[.string c.nm, .int .i64 c.k, .int .i64 c.d, .int .i64 c.m, .int .i64 c.s, .int .i64 c.sh, .int .i64 c.p0, .int .i64 c.p1, .int .i64 c.p2, .int .i64 c.cy, .int .i64 c.ex, .int .i64 c.fi, .int .i64 c.la, .int .i64 c.po], .int .i64 y, .int .i64 t, .int .i64 x] w fun e w' => e = .returned (.tuple #[.int .i64 0, .int .i64 13]) ∧ Below w.heap.size w w' := by
  have C := CalIn.new w c 24
  have B := balloc (Below.refl _ w) (.cells #[.string c.nm, .int .i64 c.k, .int .i64 c.d, .int .i64 c.m, .int .i64 c.s, .int .i64 c.sh, .int .i64 c.p0, .int .i64 c.p1, .int .i64 c.p2, .int .i64 c.cy, .int .i64 c.ex, .int .i64 c.fi, .int .i64 c.la, .int .i64 c.po] 24)
  replace T := T.alloc (.cells #[.string c.nm, .int .i64 c.k, .int .i64 c.d, .int .i64 c.m, .int .i64 c.s, .int .i64 c.sh, .int .i64 c.p0, .int .i64 c.p1, .int .i64 c.p2, .int .i64 c.cy, .int .i64 c.ex, .int .i64 c.fi, .int .i64 c.la, .int .i64 c.po] 24)
  have ck := fun w T => Check_any c 0 w (.inl ⟨ok, rfl⟩) hm T
  have cy := fun w => isServed_any c y true w (decide_eq_true sy).symm
  have ct := fun w => isServed_any c t true w (decide_eq_true st).symm
  have by' := served_told ok sy
  have d6 : (c.k == 6) = false := beq_eq_false_iff_ne.2 k6
  obtain ⟨n, hn⟩ : ∃ n, n = nweeks c y := ⟨_, rfl⟩
  have cn := fun w T => weeksOf_any c y n w ok k6 (by omega) (by omega) hn hm T
  rw [← hn] at nx
  by_cases x0 : x < 1
  · clear ok k6 sy st hn by' nx cn
    go_enter Tryz.func57, Tryz.ntmps57
    go_upto_region 1 with fail
    generalize w.alloc (.cells #[.string c.nm, .int .i64 c.k, .int .i64 c.d, .int .i64 c.m, .int .i64 c.s, .int .i64 c.sh, .int .i64 c.p0, .int .i64 c.p1, .int .i64 c.p2, .int .i64 c.cy, .int .i64 c.ex, .int .i64 c.fi, .int .i64 c.la, .int .i64 c.po] 24) = W0 at *
    obtain ⟨_, c0, c1, c2, c3, c4, c5, c6, c7, c8, c9, c10, c11, c12, c13⟩ := id C
    go_wp2_with fail
    refine (ck _ T).mono ?_
    rintro e w1 ⟨rfl, hb⟩
    replace C := C.kept hb
    replace B := bthen B hb
    replace T := T.kept hb
    clear hb c0 c1 c2 c3 c4 c5 c6 c7 c8 c9 c10 c11 c12 c13
    obtain ⟨_, c0, c1, c2, c3, c4, c5, c6, c7, c8, c9, c10, c11, c12, c13⟩ := id C
    go_wp2_with fail
    refine (cy _).mono ?_
    rintro e w2 ⟨rfl, hb⟩
    replace C := C.kept hb
    replace B := bthen B hb
    replace T := T.kept hb
    clear hb c0 c1 c2 c3 c4 c5 c6 c7 c8 c9 c10 c11 c12 c13
    obtain ⟨_, c0, c1, c2, c3, c4, c5, c6, c7, c8, c9, c10, c11, c12, c13⟩ := id C
    go_wp2_with fail
    refine (ct _).mono ?_
    rintro e w3 ⟨rfl, hb⟩
    replace C := C.kept hb
    replace B := bthen B hb
    replace T := T.kept hb
    clear hb c0 c1 c2 c3 c4 c5 c6 c7 c8 c9 c10 c11 c12 c13
    obtain ⟨_, c0, c1, c2, c3, c4, c5, c6, c7, c8, c9, c10, c11, c12, c13⟩ := id C
    go_wp2
    go_ret2
    exact ⟨rfl, B⟩
  · have x1 : n < x := by omega
    clear ok k6 sy st hn by' nx
    go_enter Tryz.func57, Tryz.ntmps57
    go_upto_region 1 with fail
    generalize w.alloc (.cells #[.string c.nm, .int .i64 c.k, .int .i64 c.d, .int .i64 c.m, .int .i64 c.s, .int .i64 c.sh, .int .i64 c.p0, .int .i64 c.p1, .int .i64 c.p2, .int .i64 c.cy, .int .i64 c.ex, .int .i64 c.fi, .int .i64 c.la, .int .i64 c.po] 24) = W0 at *
    obtain ⟨_, c0, c1, c2, c3, c4, c5, c6, c7, c8, c9, c10, c11, c12, c13⟩ := id C
    go_wp2_with fail
    refine (ck _ T).mono ?_
    rintro e w4 ⟨rfl, hb⟩
    replace C := C.kept hb
    replace B := bthen B hb
    replace T := T.kept hb
    clear hb c0 c1 c2 c3 c4 c5 c6 c7 c8 c9 c10 c11 c12 c13
    obtain ⟨_, c0, c1, c2, c3, c4, c5, c6, c7, c8, c9, c10, c11, c12, c13⟩ := id C
    go_wp2_with fail
    refine (cy _).mono ?_
    rintro e w5 ⟨rfl, hb⟩
    replace C := C.kept hb
    replace B := bthen B hb
    replace T := T.kept hb
    clear hb c0 c1 c2 c3 c4 c5 c6 c7 c8 c9 c10 c11 c12 c13
    obtain ⟨_, c0, c1, c2, c3, c4, c5, c6, c7, c8, c9, c10, c11, c12, c13⟩ := id C
    go_wp2_with fail
    refine (ct _).mono ?_
    rintro e w6 ⟨rfl, hb⟩
    replace C := C.kept hb
    replace B := bthen B hb
    replace T := T.kept hb
    clear hb c0 c1 c2 c3 c4 c5 c6 c7 c8 c9 c10 c11 c12 c13
    obtain ⟨_, c0, c1, c2, c3, c4, c5, c6, c7, c8, c9, c10, c11, c12, c13⟩ := id C
    go_wp2_with fail
    refine (cn _ T).mono ?_
    rintro e w7 ⟨rfl, hb⟩
    replace C := C.kept hb
    replace B := bthen B hb
    replace T := T.kept hb
    clear hb c0 c1 c2 c3 c4 c5 c6 c7 c8 c9 c10 c11 c12 c13
    obtain ⟨_, c0, c1, c2, c3, c4, c5, c6, c7, c8, c9, c10, c11, c12, c13⟩ := id C
    go_wp2
    go_ret2
    exact ⟨rfl, B⟩

set_option maxRecDepth 100000 in
theorem week_no (c : CalZ) (y t x : Int) (w : World) (h : (CalOk c ∧ c.k = 6) ∨ ¬ CalOk c) (hm : c.nm.size ≤ maxLen) (T : FTab w) :
    Calls Tryz.prog 57 #[.agg #[.string c.nm, .int .i64 c.k, .int .i64 c.d, .int .i64 c.m, .int .i64 c.s, .int .i64 c.sh, .int .i64 c.p0, .int .i64 c.p1, .int .i64 c.p2, .int .i64 c.cy, .int .i64 c.ex, .int .i64 c.fi, .int .i64 c.la, .int .i64 c.po], .int .i64 y, .int .i64 t, .int .i64 x] w fun e w' => e = .returned (.tuple #[.int .i64 0, .int .i64 1]) ∧ Below w.heap.size w w' := by
  have C := CalIn.new w c 24
  have B := balloc (Below.refl _ w) (.cells #[.string c.nm, .int .i64 c.k, .int .i64 c.d, .int .i64 c.m, .int .i64 c.s, .int .i64 c.sh, .int .i64 c.p0, .int .i64 c.p1, .int .i64 c.p2, .int .i64 c.cy, .int .i64 c.ex, .int .i64 c.fi, .int .i64 c.la, .int .i64 c.po] 24)
  replace T := T.alloc (.cells #[.string c.nm, .int .i64 c.k, .int .i64 c.d, .int .i64 c.m, .int .i64 c.s, .int .i64 c.sh, .int .i64 c.p0, .int .i64 c.p1, .int .i64 c.p2, .int .i64 c.cy, .int .i64 c.ex, .int .i64 c.fi, .int .i64 c.la, .int .i64 c.po] 24)
  rcases h with ⟨ok, k6⟩ | no
  · have ck := fun w T => Check_any c 0 w (.inl ⟨ok, rfl⟩) hm T
    have d6 : (c.k == 6) = true := by rw [k6]; rfl
    clear ok k6
    go_enter Tryz.func57, Tryz.ntmps57
    go_upto_region 1 with fail
    generalize w.alloc (.cells #[.string c.nm, .int .i64 c.k, .int .i64 c.d, .int .i64 c.m, .int .i64 c.s, .int .i64 c.sh, .int .i64 c.p0, .int .i64 c.p1, .int .i64 c.p2, .int .i64 c.cy, .int .i64 c.ex, .int .i64 c.fi, .int .i64 c.la, .int .i64 c.po] 24) = W0 at *
    obtain ⟨_, c0, c1, c2, c3, c4, c5, c6, c7, c8, c9, c10, c11, c12, c13⟩ := id C
    go_wp2_with fail
    refine (ck _ T).mono ?_
    rintro e w1 ⟨rfl, hb⟩
    replace C := C.kept hb
    replace B := bthen B hb
    replace T := T.kept hb
    clear hb c0 c1 c2 c3 c4 c5 c6 c7 c8 c9 c10 c11 c12 c13
    obtain ⟨_, c0, c1, c2, c3, c4, c5, c6, c7, c8, c9, c10, c11, c12, c13⟩ := id C
    go_wp2
    go_ret2
    exact ⟨rfl, B⟩
  · have ck := fun w T => Check_any c 1 w (.inr ⟨no, rfl⟩) hm T
    clear no
    go_enter Tryz.func57, Tryz.ntmps57
    go_upto_region 1 with fail
    generalize w.alloc (.cells #[.string c.nm, .int .i64 c.k, .int .i64 c.d, .int .i64 c.m, .int .i64 c.s, .int .i64 c.sh, .int .i64 c.p0, .int .i64 c.p1, .int .i64 c.p2, .int .i64 c.cy, .int .i64 c.ex, .int .i64 c.fi, .int .i64 c.la, .int .i64 c.po] 24) = W0 at *
    obtain ⟨_, c0, c1, c2, c3, c4, c5, c6, c7, c8, c9, c10, c11, c12, c13⟩ := id C
    go_wp2_with fail
    refine (ck _ T).mono ?_
    rintro e w2 ⟨rfl, hb⟩
    replace C := C.kept hb
    replace B := bthen B hb
    replace T := T.kept hb
    clear hb c0 c1 c2 c3 c4 c5 c6 c7 c8 c9 c10 c11 c12 c13
    obtain ⟨_, c0, c1, c2, c3, c4, c5, c6, c7, c8, c9, c10, c11, c12, c13⟩ := id C
    go_wp2
    go_ret2
    exact ⟨rfl, B⟩

theorem Week_any (c : CalZ) (y t x v er : Int) (w : World) (R : CWeekA c y t x v er) (hm : c.nm.size ≤ maxLen) (T : FTab w) :
    Calls Tryz.prog 57 #[.agg #[.string c.nm, .int .i64 c.k, .int .i64 c.d, .int .i64 c.m, .int .i64 c.s, .int .i64 c.sh, .int .i64 c.p0, .int .i64 c.p1, .int .i64 c.p2, .int .i64 c.cy, .int .i64 c.ex, .int .i64 c.fi, .int .i64 c.la, .int .i64 c.po], .int .i64 y, .int .i64 t, .int .i64 x] w fun e w' => e = .returned (.tuple #[.int .i64 v, .int .i64 er]) ∧ Below w.heap.size w w' := by
  rcases R with ⟨ok, k6, sy, st, x0, x1, P⟩ | ⟨ok, k6, ns, rfl, rfl⟩ | ⟨ok, k6, sy, st, nx, rfl, rfl⟩ | ⟨ok, k6, rfl, rfl⟩ | ⟨no, rfl, rfl⟩
  · rcases P with ⟨po, hv, rfl⟩ | ⟨po, hv, rfl⟩ | ⟨po, D⟩
    · exact week_1 c y t x v hv w ok k6 sy st x0 x1 po hm T
    · exact week_2 c y t x v hv w ok k6 sy st x0 x1 po hm T
    · exact week_3 c y t x v er D w ok k6 sy st x0 x1 po hm T
  · exact week_ns c y t x w ok k6 ns hm T
  · exact week_nx c y t x w ok k6 sy st nx hm T
  · exact week_no c y t x w (.inl ⟨ok, k6⟩) hm T
  · exact week_no c y t x w (.inr no) hm T

end Go.Proofs.YtkfogmaogfgcgaaGreatDoor.Mp

namespace Go.Proofs.YtkfogmaogfgcgaaGreatDoor.Mp
set_option linter.unusedSimpArgs false
set_option linter.unusedVariables false
open Go.RowKit Bn Bx Cp Am Fp Ap Cm Em Ep Rk Hp Ip Jp Dp

set_option maxHeartbeats 4000000

end Go.Proofs.YtkfogmaogfgcgaaGreatDoor.Mp

