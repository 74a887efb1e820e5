/- What isServed, weeksOf, addedTo, drop and the policies of package comp come to. -/
import Derived.Test.YtmagdlcikcgelaaDoorJP
import Derived.Test.YtmagdlcikcgelaaDoorHcode6
import Derived.Maps.OwnOps
namespace Go.Proofs.YtmagdlcikcgelaaDoor.Mp
set_option linter.unusedSimpArgs false
set_option linter.unusedVariables false
open Go.RowKit Go.Maps Go.Proofs.YtmagdlcikcgelaaDoor.Bn Go.Proofs.YtmagdlcikcgelaaDoor.Bx Go.Proofs.YtmagdlcikcgelaaDoor.Cp Go.Proofs.YtmagdlcikcgelaaDoor.Am Go.Proofs.YtmagdlcikcgelaaDoor.Fp Go.Proofs.YtmagdlcikcgelaaDoor.Ap Go.Proofs.YtmagdlcikcgelaaDoor.Cm Go.Proofs.YtmagdlcikcgelaaDoor.Em Go.Proofs.YtmagdlcikcgelaaDoor.Ep Go.Proofs.YtmagdlcikcgelaaDoor.Rk Go.Proofs.YtmagdlcikcgelaaDoor.Hp

set_option maxHeartbeats 2000000

instance (c : CalZ) (y : Int) : Decidable (Served c y) := by unfold Served; exact inferInstance

set_option maxRecDepth 100000 in
theorem isServed_any (c : CalZ) (y : Int) (r : Bool) (w : World) (hr : r = decide (Served c y)) :
    Calls Tryd.prog 89 #[.agg #[.string c.nm, .int .i64 c.k, .int .i64 c.d, .int .i64 c.m, .int .i64 c.s, .int .i64 c.sh, .int .i64 c.p0, .int .i64 c.p1, .int .i64 c.p2, .int .i64 c.cy, .int .i64 c.ex, .int .i64 c.fi, .int .i64 c.la, .int .i64 c.po], .int .i64 y] w fun e w' => e = .returned (.bool r) ∧ Below w.heap.size w w' := by
  have C := CalIn.new w c 24
  have B := balloc (Below.refl _ w) (.cells #[.string c.nm, .int .i64 c.k, .int .i64 c.d, .int .i64 c.m, .int .i64 c.s, .int .i64 c.sh, .int .i64 c.p0, .int .i64 c.p1, .int .i64 c.p2, .int .i64 c.cy, .int .i64 c.ex, .int .i64 c.fi, .int .i64 c.la, .int .i64 c.po] 24)
  have O : (decide (c.fi ≤ y) = false ∧ r = false) ∨ (decide (c.fi ≤ y) = true ∧ decide (y ≤ c.la) = false ∧ r = false) ∨ (decide (c.fi ≤ y) = true ∧ decide (y ≤ c.la) = true ∧ r = true) := by
    subst hr
    by_cases h : c.fi ≤ y
    · by_cases k : y ≤ c.la
      · exact .inr (.inr ⟨decide_eq_true h, decide_eq_true k, decide_eq_true ⟨h, k⟩⟩)
      · exact .inr (.inl ⟨decide_eq_true h, decide_eq_false k, decide_eq_false (fun q => k q.2)⟩)
    · exact .inl ⟨decide_eq_false h, decide_eq_false (fun q => h q.1)⟩
  clear hr
  rcases O with ⟨d0, rfl⟩ | ⟨d0, d1, rfl⟩ | ⟨d0, d1, rfl⟩
  all_goals
    go_enter Tryd.func89, Tryd.ntmps89
    go_upto_region 1 with fail
    generalize w.alloc (.cells #[.string c.nm, .int .i64 c.k, .int .i64 c.d, .int .i64 c.m, .int .i64 c.s, .int .i64 c.sh, .int .i64 c.p0, .int .i64 c.p1, .int .i64 c.p2, .int .i64 c.cy, .int .i64 c.ex, .int .i64 c.fi, .int .i64 c.la, .int .i64 c.po] 24) = W0 at *
    obtain ⟨_, c0, c1, c2, c3, c4, c5, c6, c7, c8, c9, c10, c11, c12, c13⟩ := id C
    go_wp2
    go_ret
    exact ⟨by simp, B⟩

set_option maxRecDepth 100000 in
theorem weeksOf_any (c : CalZ) (y v : Int) (w : World) (ok : CalOk c) (k6 : c.k ≠ 6) (y0 : 1601 ≤ y) (y1 : y ≤ 9997) (hv : v = nweeks c y) (hm : c.nm.size ≤ maxLen) (T : FTab w) :
    Calls Tryd.prog 90 #[.agg #[.string c.nm, .int .i64 c.k, .int .i64 c.d, .int .i64 c.m, .int .i64 c.s, .int .i64 c.sh, .int .i64 c.p0, .int .i64 c.p1, .int .i64 c.p2, .int .i64 c.cy, .int .i64 c.ex, .int .i64 c.fi, .int .i64 c.la, .int .i64 c.po], .int .i64 y] w fun e w' => e = .returned (.int .i64 v) ∧ Below w.heap.size w w' := by
  have C := CalIn.new w c 24
  have B := balloc (Below.refl _ w) (.cells #[.string c.nm, .int .i64 c.k, .int .i64 c.d, .int .i64 c.m, .int .i64 c.s, .int .i64 c.sh, .int .i64 c.p0, .int .i64 c.p1, .int .i64 c.p2, .int .i64 c.cy, .int .i64 c.ex, .int .i64 c.fi, .int .i64 c.la, .int .i64 c.po] 24)
  replace T := T.alloc (.cells #[.string c.nm, .int .i64 c.k, .int .i64 c.d, .int .i64 c.m, .int .i64 c.s, .int .i64 c.sh, .int .i64 c.p0, .int .i64 c.p1, .int .i64 c.p2, .int .i64 c.cy, .int .i64 c.ex, .int .i64 c.fi, .int .i64 c.la, .int .i64 c.po] 24)
  have cw := fun w T => Weeks_any c y v 0 w (.inl ⟨ok, k6, y0, y1, hv, rfl⟩) hm T
  clear ok k6 y0 y1 hv
  go_enter Tryd.func90, Tryd.ntmps90
  go_upto_region 1 with fail
  generalize w.alloc (.cells #[.string c.nm, .int .i64 c.k, .int .i64 c.d, .int .i64 c.m, .int .i64 c.s, .int .i64 c.sh, .int .i64 c.p0, .int .i64 c.p1, .int .i64 c.p2, .int .i64 c.cy, .int .i64 c.ex, .int .i64 c.fi, .int .i64 c.la, .int .i64 c.po] 24) = W0 at *
  obtain ⟨_, c0, c1, c2, c3, c4, c5, c6, c7, c8, c9, c10, c11, c12, c13⟩ := id C
  go_wp2_with fail
  refine (cw _ T).mono ?_
  rintro e w1 ⟨rfl, hb⟩
  replace C := C.kept hb
  replace B := bthen B hb
  replace T := T.kept hb
  clear hb c0 c1 c2 c3 c4 c5 c6 c7 c8 c9 c10 c11 c12 c13
  obtain ⟨_, c0, c1, c2, c3, c4, c5, c6, c7, c8, c9, c10, c11, c12, c13⟩ := id C
  go_wp2
  go_ret
  exact ⟨rfl, B⟩

set_option maxRecDepth 100000 in
theorem addedTo_any (c : CalZ) (y v : Int) (w : World) (ok : CalOk c) (k6 : c.k ≠ 6) (y0 : 1601 ≤ y) (y1 : y ≤ 9997) (hv : v = addw c y) (hm : c.nm.size ≤ maxLen) (T : FTab w) :
    Calls Tryd.prog 112 #[.agg #[.string c.nm, .int .i64 c.k, .int .i64 c.d, .int .i64 c.m, .int .i64 c.s, .int .i64 c.sh, .int .i64 c.p0, .int .i64 c.p1, .int .i64 c.p2, .int .i64 c.cy, .int .i64 c.ex, .int .i64 c.fi, .int .i64 c.la, .int .i64 c.po], .int .i64 y] w fun e w' => e = .returned (.int .i64 v) ∧ Below w.heap.size w w' := by
  have C := CalIn.new w c 24
  have B := balloc (Below.refl _ w) (.cells #[.string c.nm, .int .i64 c.k, .int .i64 c.d, .int .i64 c.m, .int .i64 c.s, .int .i64 c.sh, .int .i64 c.p0, .int .i64 c.p1, .int .i64 c.p2, .int .i64 c.cy, .int .i64 c.ex, .int .i64 c.fi, .int .i64 c.la, .int .i64 c.po] 24)
  replace T := T.alloc (.cells #[.string c.nm, .int .i64 c.k, .int .i64 c.d, .int .i64 c.m, .int .i64 c.s, .int .i64 c.sh, .int .i64 c.p0, .int .i64 c.p1, .int .i64 c.p2, .int .i64 c.cy, .int .i64 c.ex, .int .i64 c.fi, .int .i64 c.la, .int .i64 c.po] 24)
  have cw := fun w T => Added_any c y v 0 w (by rw [hv]; exact added_is ok k6 y0 y1) hm T
  clear ok k6 y0 y1 hv
  go_enter Tryd.func112, Tryd.ntmps112
  go_upto_region 1 with fail
  generalize w.alloc (.cells #[.string c.nm, .int .i64 c.k, .int .i64 c.d, .int .i64 c.m, .int .i64 c.s, .int .i64 c.sh, .int .i64 c.p0, .int .i64 c.p1, .int .i64 c.p2, .int .i64 c.cy, .int .i64 c.ex, .int .i64 c.fi, .int .i64 c.la, .int .i64 c.po] 24) = W0 at *
  obtain ⟨_, c0, c1, c2, c3, c4, c5, c6, c7, c8, c9, c10, c11, c12, c13⟩ := id C
  go_wp2_with fail
  refine (cw _ T).mono ?_
  rintro e w1 ⟨rfl, hb⟩
  replace C := C.kept hb
  replace B := bthen B hb
  replace T := T.kept hb
  clear hb c0 c1 c2 c3 c4 c5 c6 c7 c8 c9 c10 c11 c12 c13
  obtain ⟨_, c0, c1, c2, c3, c4, c5, c6, c7, c8, c9, c10, c11, c12, c13⟩ := id C
  go_wp2
  go_ret
  exact ⟨rfl, B⟩

theorem drop_any (x a b v er : Int) (w : World) (x0 : 0 ≤ x) (x1 : x ≤ 60) (R : DropA x a b v er) :
    Calls Tryd.prog 111 #[.int .i64 x, .int .i64 a, .int .i64 b] w fun e w' => e = .returned (.tuple #[.int .i64 v, .int .i64 er]) ∧ Below w.heap.size w w' := by
  rcases R with ⟨rfl, rfl, rfl, rfl⟩ | ⟨rfl, h, rfl, rfl⟩ | ⟨h, hv, rfl⟩
  · go_enter Tryd.func111, Tryd.ntmps111
    go_wp2
    go_ret2
    exact ⟨rfl, Below.refl _ _⟩
  · have d : (v == 0) = false := beq_eq_false_iff_ne.2 h
    go_enter Tryd.func111, Tryd.ntmps111
    go_wp2
    go_ret2
    exact ⟨rfl, Below.refl _ _⟩
  · have d : (x == a) = false := beq_eq_false_iff_ne.2 h
    clear h
    by_cases a0 : 0 < a
    · by_cases a1 : a < x
      · have e1 : (if 0 < a ∧ a < x then x - 1 else x) = x - 1 := if_pos ⟨a0, a1⟩
        unfold dropA at hv
        rw [e1] at hv
        by_cases b0 : 0 < b
        · by_cases b1 : b ≤ x - 1
          · rw [if_pos ⟨b0, b1⟩] at hv
            subst hv
            clear e1
            go_enter Tryd.func111, Tryd.ntmps111
            go_wp2
            go_ret2
            exact ⟨by simp, Below.refl _ _⟩
          · rw [if_neg (fun q => b1 q.2)] at hv
            subst hv
            clear e1
            go_enter Tryd.func111, Tryd.ntmps111
            go_wp2
            go_ret2
            exact ⟨by simp, Below.refl _ _⟩
        · rw [if_neg (fun q => b0 q.1)] at hv
          subst hv
          clear e1
          go_enter Tryd.func111, Tryd.ntmps111
          go_wp2
          go_ret2
          exact ⟨by simp, Below.refl _ _⟩
      · have e1 : (if 0 < a ∧ a < x then x - 1 else x) = x := if_neg (fun q => a1 q.2)
        unfold dropA at hv
        rw [e1] at hv
        by_cases b0 : 0 < b
        · by_cases b1 : b ≤ x
          · rw [if_pos ⟨b0, b1⟩] at hv
            subst hv
            clear e1
            go_enter Tryd.func111, Tryd.ntmps111
            go_wp2
            go_ret2
            exact ⟨by simp, Below.refl _ _⟩
          · rw [if_neg (fun q => b1 q.2)] at hv
            subst hv
            clear e1
            go_enter Tryd.func111, Tryd.ntmps111
            go_wp2
            go_ret2
            exact ⟨by simp, Below.refl _ _⟩
        · rw [if_neg (fun q => b0 q.1)] at hv
          subst hv
          clear e1
          go_enter Tryd.func111, Tryd.ntmps111
          go_wp2
          go_ret2
          exact ⟨by simp, Below.refl _ _⟩
    · have e1 : (if 0 < a ∧ a < x then x - 1 else x) = x := if_neg (fun q => a0 q.1)
      unfold dropA at hv
      rw [e1] at hv
      by_cases b0 : 0 < b
      · by_cases b1 : b ≤ x
        · rw [if_pos ⟨b0, b1⟩] at hv
          subst hv
          clear e1
          go_enter Tryd.func111, Tryd.ntmps111
          go_wp2
          go_ret2
          exact ⟨by simp, Below.refl _ _⟩
        · rw [if_neg (fun q => b1 q.2)] at hv
          subst hv
          clear e1
          go_enter Tryd.func111, Tryd.ntmps111
          go_wp2
          go_ret2
          exact ⟨by simp, Below.refl _ _⟩
      · rw [if_neg (fun q => b0 q.1)] at hv
        subst hv
        clear e1
        go_enter Tryd.func111, Tryd.ntmps111
        go_wp2
        go_ret2
        exact ⟨by simp, Below.refl _ _⟩

theorem pol1_any (x : Int) (w : World) :
    Calls Tryd.prog 108 #[.int .i64 x] w fun e w' => e = .returned (.tuple #[.int .i64 x, .int .i64 0]) ∧ Below w.heap.size w w' := by
  go_enter Tryd.func108, Tryd.ntmps108
  go_wp2
  go_ret2
  exact ⟨rfl, Below.refl _ _⟩

end Go.Proofs.YtmagdlcikcgelaaDoor.Mp
