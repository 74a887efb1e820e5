/- Where a year ends, by its calendar's rule. -/
import Derived.Test.YtjiifmdjhdhabaaGreatDoorArule
namespace Go.Proofs.YtjiifmdjhdhabaaGreatDoor.Ap
set_option linter.unusedSimpArgs false
set_option linter.unusedVariables false
open Go.RowKit Go.Proofs.YtjiifmdjhdhabaaGreatDoor.Bn Go.Proofs.YtjiifmdjhdhabaaGreatDoor.Cp Go.Proofs.YtjiifmdjhdhabaaGreatDoor.Am Go.Proofs.YtjiifmdjhdhabaaGreatDoor.Fp Go.Proofs.YtjiifmdjhdhabaaGreatDoor.Cm Go.Proofs.YtjiifmdjhdhabaaGreatDoor.Em Go.Proofs.YtjiifmdjhdhabaaGreatDoor.Ep

set_option maxHeartbeats 1000000

@[go_sem] theorem meth_last (n : Nat) (d : Value) (w : World) : (method (n + 1) 107 (.agg #[d]) "quarterday/anchor.end").run Tryz.prog w = .ok (152, .agg #[d]) w := by kernel_rfl
@[go_sem] theorem meth_near (n : Nat) (d : Value) (w : World) : (method (n + 1) 110 (.agg #[d]) "quarterday/anchor.end").run Tryz.prog w = .ok (154, .agg #[d]) w := by kernel_rfl
@[go_sem] theorem meth_month (n : Nat) (w : World) : (method (n + 1) 109 (.agg #[]) "quarterday/anchor.end").run Tryz.prog w = .ok (153, .agg #[]) w := by kernel_rfl

set_option maxRecDepth 100000 in
theorem end_last (c : CalZ) (y v : Int) (w : World) (hk : Hid (c.k = 1 ∨ c.k = 4)) (s0 : 0 ≤ c.s) (s1 : c.s ≤ 1) (y0 : 1600 ≤ y) (y1 : y ≤ 9997)
    (cm : ∀ w, Tab w → Calls Tryz.prog 152 #[.agg #[.int .i64 c.d], .int .i64 (y + c.s), .int .i64 c.m] w fun e w' => e = .returned (.int .i64 v) ∧ Below w.heap.size w w') (T : Tab w) :
    Calls Tryz.prog 54 #[.agg #[.string c.nm, .int .i64 c.k, .int .i64 c.d, .int .i64 c.m, .int .i64 c.s, .int .i64 c.sh, .int .i64 c.p0, .int .i64 c.p1, .int .i64 c.p2, .int .i64 c.cy, .int .i64 c.ex, .int .i64 c.fi, .int .i64 c.la, .int .i64 c.po], .int .i64 y] w fun e w' => e = .returned (.int .i64 v) ∧ Below w.heap.size w w' := by
  have cr := fun w => rule_any c _ w (show Value.iface 107 (.agg #[.int .i64 c.d]) = ruleV c by unfold ruleV; simp [hk.out])
  have C := CalIn.new w c 24
  have B := balloc (Below.refl _ w) (.cells #[.string c.nm, .int .i64 c.k, .int .i64 c.d, .int .i64 c.m, .int .i64 c.s, .int .i64 c.sh, .int .i64 c.p0, .int .i64 c.p1, .int .i64 c.p2, .int .i64 c.cy, .int .i64 c.ex, .int .i64 c.fi, .int .i64 c.la, .int .i64 c.po] 24)
  have hw : IntKind.i64.wrap (y + c.s) = y + c.s := by rw [IntWalk.i64_in _ (by omega)]
  go_enter Tryz.func54, Tryz.ntmps54
  go_wp2
  generalize w.alloc (.cells #[.string c.nm, .int .i64 c.k, .int .i64 c.d, .int .i64 c.m, .int .i64 c.s, .int .i64 c.sh, .int .i64 c.p0, .int .i64 c.p1, .int .i64 c.p2, .int .i64 c.cy, .int .i64 c.ex, .int .i64 c.fi, .int .i64 c.la, .int .i64 c.po] 24) = W0 at *
  have CM : ∀ W, Below W0.heap.size W0 W → Calls Tryz.prog 152 #[.agg #[.int .i64 c.d], .int .i64 (y + c.s), .int .i64 c.m] W fun e w' => e = .returned (.int .i64 v) ∧ Below W.heap.size W w' := fun W hB => cm W (T.kept (bthen B hB))
  have H : Hid (∀ W, Below W0.heap.size W0 W → (Below W0.heap.size W0 W ∧ W.cell? ⟨w.heap.size, 0, none⟩ = some (.string c.nm) ∧ W.cell? ⟨w.heap.size, 1, none⟩ = some (.int .i64 c.k) ∧ W.cell? ⟨w.heap.size, 2, none⟩ = some (.int .i64 c.d) ∧ W.cell? ⟨w.heap.size, 3, none⟩ = some (.int .i64 c.m) ∧ W.cell? ⟨w.heap.size, 4, none⟩ = some (.int .i64 c.s) ∧ W.cell? ⟨w.heap.size, 5, none⟩ = some (.int .i64 c.sh) ∧ W.cell? ⟨w.heap.size, 6, none⟩ = some (.int .i64 c.p0) ∧ W.cell? ⟨w.heap.size, 7, none⟩ = some (.int .i64 c.p1) ∧ W.cell? ⟨w.heap.size, 8, none⟩ = some (.int .i64 c.p2) ∧ W.cell? ⟨w.heap.size, 9, none⟩ = some (.int .i64 c.cy) ∧ W.cell? ⟨w.heap.size, 10, none⟩ = some (.int .i64 c.ex) ∧ W.cell? ⟨w.heap.size, 11, none⟩ = some (.int .i64 c.fi) ∧ W.cell? ⟨w.heap.size, 12, none⟩ = some (.int .i64 c.la) ∧ W.cell? ⟨w.heap.size, 13, none⟩ = some (.int .i64 c.po))) := Lib.hid (fun W h => ⟨h, (C.kept h).c0, (C.kept h).c1, (C.kept h).c2, (C.kept h).c3, (C.kept h).c4, (C.kept h).c5, (C.kept h).c6, (C.kept h).c7, (C.kept h).c8, (C.kept h).c9, (C.kept h).c10, (C.kept h).c11, (C.kept h).c12, (C.kept h).c13⟩)
  obtain ⟨_, c0, c1, c2, c3, c4, c5, c6, c7, c8, c9, c10, c11, c12, c13⟩ := id C
  clear C cm
  go_region_held3 (fun w' => Below W0.heap.size W0 w' ∧ w'.cell? ⟨w.heap.size, 0, none⟩ = some (.string c.nm) ∧ w'.cell? ⟨w.heap.size, 1, none⟩ = some (.int .i64 c.k) ∧ w'.cell? ⟨w.heap.size, 2, none⟩ = some (.int .i64 c.d) ∧ w'.cell? ⟨w.heap.size, 3, none⟩ = some (.int .i64 c.m) ∧ w'.cell? ⟨w.heap.size, 4, none⟩ = some (.int .i64 c.s) ∧ w'.cell? ⟨w.heap.size, 5, none⟩ = some (.int .i64 c.sh) ∧ w'.cell? ⟨w.heap.size, 6, none⟩ = some (.int .i64 c.p0) ∧ w'.cell? ⟨w.heap.size, 7, none⟩ = some (.int .i64 c.p1) ∧ w'.cell? ⟨w.heap.size, 8, none⟩ = some (.int .i64 c.p2) ∧ w'.cell? ⟨w.heap.size, 9, none⟩ = some (.int .i64 c.cy) ∧ w'.cell? ⟨w.heap.size, 10, none⟩ = some (.int .i64 c.ex) ∧ w'.cell? ⟨w.heap.size, 11, none⟩ = some (.int .i64 c.fi) ∧ w'.cell? ⟨w.heap.size, 12, none⟩ = some (.int .i64 c.la) ∧ w'.cell? ⟨w.heap.size, 13, none⟩ = some (.int .i64 c.po))
    ((refine H.out _ ?_; first | (with_reducible assumption) | (with_reducible exact Below.refl _ _) | (with_reducible exact (Below.refl _ _).drew)))
    (first
      | (go_at_call 89; (with_reducible refine (cr _).mono ?_); rintro e w4 ⟨rfl, hb⟩; have hB := bthen (w := W0) (by first | (with_reducible assumption) | (with_reducible exact Below.refl _ _) | (with_reducible exact (Below.refl _ _).drew)) hb; clear hb)
      | ((with_reducible refine (CM _ (by first | (with_reducible assumption) | (with_reducible exact Below.refl _ _) | (with_reducible exact (Below.refl _ _).drew))).mono ?_); rintro e w5 ⟨rfl, hb⟩; have hB2 := bthen (w := W0) (by first | (with_reducible assumption) | (with_reducible exact Below.refl _ _) | (with_reducible exact (Below.refl _ _).drew)) hb; clear hb))
  all_goals go_wp2
  all_goals
    go_ret
    exact ⟨rfl, bthen B hB2⟩

set_option maxRecDepth 100000 in
theorem end_month (c : CalZ) (y v : Int) (w : World) (hk : Hid (c.k = 6)) (s0 : 0 ≤ c.s) (s1 : c.s ≤ 1) (y0 : 1600 ≤ y) (y1 : y ≤ 9997)
    (cm : ∀ w, Tab w → Calls Tryz.prog 153 #[.agg #[], .int .i64 (y + c.s), .int .i64 c.m] w fun e w' => e = .returned (.int .i64 v) ∧ Below w.heap.size w w') (T : Tab w) :
    Calls Tryz.prog 54 #[.agg #[.string c.nm, .int .i64 c.k, .int .i64 c.d, .int .i64 c.m, .int .i64 c.s, .int .i64 c.sh, .int .i64 c.p0, .int .i64 c.p1, .int .i64 c.p2, .int .i64 c.cy, .int .i64 c.ex, .int .i64 c.fi, .int .i64 c.la, .int .i64 c.po], .int .i64 y] w fun e w' => e = .returned (.int .i64 v) ∧ Below w.heap.size w w' := by
  have cr := fun w => rule_any c _ w (show Value.iface 109 (.agg #[]) = ruleV c by unfold ruleV; simp [hk.out])
  have C := CalIn.new w c 24
  have B := balloc (Below.refl _ w) (.cells #[.string c.nm, .int .i64 c.k, .int .i64 c.d, .int .i64 c.m, .int .i64 c.s, .int .i64 c.sh, .int .i64 c.p0, .int .i64 c.p1, .int .i64 c.p2, .int .i64 c.cy, .int .i64 c.ex, .int .i64 c.fi, .int .i64 c.la, .int .i64 c.po] 24)
  have hw : IntKind.i64.wrap (y + c.s) = y + c.s := by rw [IntWalk.i64_in _ (by omega)]
  go_enter Tryz.func54, Tryz.ntmps54
  go_wp2
  generalize w.alloc (.cells #[.string c.nm, .int .i64 c.k, .int .i64 c.d, .int .i64 c.m, .int .i64 c.s, .int .i64 c.sh, .int .i64 c.p0, .int .i64 c.p1, .int .i64 c.p2, .int .i64 c.cy, .int .i64 c.ex, .int .i64 c.fi, .int .i64 c.la, .int .i64 c.po] 24) = W0 at *
  have CM : ∀ W, Below W0.heap.size W0 W → Calls Tryz.prog 153 #[.agg #[], .int .i64 (y + c.s), .int .i64 c.m] W fun e w' => e = .returned (.int .i64 v) ∧ Below W.heap.size W w' := fun W hB => cm W (T.kept (bthen B hB))
  have H : Hid (∀ W, Below W0.heap.size W0 W → (Below W0.heap.size W0 W ∧ W.cell? ⟨w.heap.size, 0, none⟩ = some (.string c.nm) ∧ W.cell? ⟨w.heap.size, 1, none⟩ = some (.int .i64 c.k) ∧ W.cell? ⟨w.heap.size, 2, none⟩ = some (.int .i64 c.d) ∧ W.cell? ⟨w.heap.size, 3, none⟩ = some (.int .i64 c.m) ∧ W.cell? ⟨w.heap.size, 4, none⟩ = some (.int .i64 c.s) ∧ W.cell? ⟨w.heap.size, 5, none⟩ = some (.int .i64 c.sh) ∧ W.cell? ⟨w.heap.size, 6, none⟩ = some (.int .i64 c.p0) ∧ W.cell? ⟨w.heap.size, 7, none⟩ = some (.int .i64 c.p1) ∧ W.cell? ⟨w.heap.size, 8, none⟩ = some (.int .i64 c.p2) ∧ W.cell? ⟨w.heap.size, 9, none⟩ = some (.int .i64 c.cy) ∧ W.cell? ⟨w.heap.size, 10, none⟩ = some (.int .i64 c.ex) ∧ W.cell? ⟨w.heap.size, 11, none⟩ = some (.int .i64 c.fi) ∧ W.cell? ⟨w.heap.size, 12, none⟩ = some (.int .i64 c.la) ∧ W.cell? ⟨w.heap.size, 13, none⟩ = some (.int .i64 c.po))) := Lib.hid (fun W h => ⟨h, (C.kept h).c0, (C.kept h).c1, (C.kept h).c2, (C.kept h).c3, (C.kept h).c4, (C.kept h).c5, (C.kept h).c6, (C.kept h).c7, (C.kept h).c8, (C.kept h).c9, (C.kept h).c10, (C.kept h).c11, (C.kept h).c12, (C.kept h).c13⟩)
  obtain ⟨_, c0, c1, c2, c3, c4, c5, c6, c7, c8, c9, c10, c11, c12, c13⟩ := id C
  clear C cm
  go_region_held3 (fun w' => Below W0.heap.size W0 w' ∧ w'.cell? ⟨w.heap.size, 0, none⟩ = some (.string c.nm) ∧ w'.cell? ⟨w.heap.size, 1, none⟩ = some (.int .i64 c.k) ∧ w'.cell? ⟨w.heap.size, 2, none⟩ = some (.int .i64 c.d) ∧ w'.cell? ⟨w.heap.size, 3, none⟩ = some (.int .i64 c.m) ∧ w'.cell? ⟨w.heap.size, 4, none⟩ = some (.int .i64 c.s) ∧ w'.cell? ⟨w.heap.size, 5, none⟩ = some (.int .i64 c.sh) ∧ w'.cell? ⟨w.heap.size, 6, none⟩ = some (.int .i64 c.p0) ∧ w'.cell? ⟨w.heap.size, 7, none⟩ = some (.int .i64 c.p1) ∧ w'.cell? ⟨w.heap.size, 8, none⟩ = some (.int .i64 c.p2) ∧ w'.cell? ⟨w.heap.size, 9, none⟩ = some (.int .i64 c.cy) ∧ w'.cell? ⟨w.heap.size, 10, none⟩ = some (.int .i64 c.ex) ∧ w'.cell? ⟨w.heap.size, 11, none⟩ = some (.int .i64 c.fi) ∧ w'.cell? ⟨w.heap.size, 12, none⟩ = some (.int .i64 c.la) ∧ w'.cell? ⟨w.heap.size, 13, none⟩ = some (.int .i64 c.po))
    ((refine H.out _ ?_; first | (with_reducible assumption) | (with_reducible exact Below.refl _ _) | (with_reducible exact (Below.refl _ _).drew)))
    (first
      | (go_at_call 89; (with_reducible refine (cr _).mono ?_); rintro e w4 ⟨rfl, hb⟩; have hB := bthen (w := W0) (by first | (with_reducible assumption) | (with_reducible exact Below.refl _ _) | (with_reducible exact (Below.refl _ _).drew)) hb; clear hb)
      | ((with_reducible refine (CM _ (by first | (with_reducible assumption) | (with_reducible exact Below.refl _ _) | (with_reducible exact (Below.refl _ _).drew))).mono ?_); rintro e w5 ⟨rfl, hb⟩; have hB2 := bthen (w := W0) (by first | (with_reducible assumption) | (with_reducible exact Below.refl _ _) | (with_reducible exact (Below.refl _ _).drew)) hb; clear hb))
  all_goals go_wp2
  all_goals
    go_ret
    exact ⟨rfl, bthen B hB2⟩

set_option maxRecDepth 100000 in
theorem end_near (c : CalZ) (y v : Int) (w : World) (h1 : Hid (¬ (c.k = 1 ∨ c.k = 4))) (h6 : Hid (c.k ≠ 6)) (s0 : 0 ≤ c.s) (s1 : c.s ≤ 1) (y0 : 1600 ≤ y) (y1 : y ≤ 9997)
    (cm : ∀ w, Tab w → Calls Tryz.prog 154 #[.agg #[.int .i64 c.d], .int .i64 (y + c.s), .int .i64 c.m] w fun e w' => e = .returned (.int .i64 v) ∧ Below w.heap.size w w') (T : Tab w) :
    Calls Tryz.prog 54 #[.agg #[.string c.nm, .int .i64 c.k, .int .i64 c.d, .int .i64 c.m, .int .i64 c.s, .int .i64 c.sh, .int .i64 c.p0, .int .i64 c.p1, .int .i64 c.p2, .int .i64 c.cy, .int .i64 c.ex, .int .i64 c.fi, .int .i64 c.la, .int .i64 c.po], .int .i64 y] w fun e w' => e = .returned (.int .i64 v) ∧ Below w.heap.size w w' := by
  have cr := fun w => rule_any c _ w (show Value.iface 110 (.agg #[.int .i64 c.d]) = ruleV c by unfold ruleV; simp [h1.out, h6.out])
  have C := CalIn.new w c 24
  have B := balloc (Below.refl _ w) (.cells #[.string c.nm, .int .i64 c.k, .int .i64 c.d, .int .i64 c.m, .int .i64 c.s, .int .i64 c.sh, .int .i64 c.p0, .int .i64 c.p1, .int .i64 c.p2, .int .i64 c.cy, .int .i64 c.ex, .int .i64 c.fi, .int .i64 c.la, .int .i64 c.po] 24)
  have hw : IntKind.i64.wrap (y + c.s) = y + c.s := by rw [IntWalk.i64_in _ (by omega)]
  go_enter Tryz.func54, Tryz.ntmps54
  go_wp2
  generalize w.alloc (.cells #[.string c.nm, .int .i64 c.k, .int .i64 c.d, .int .i64 c.m, .int .i64 c.s, .int .i64 c.sh, .int .i64 c.p0, .int .i64 c.p1, .int .i64 c.p2, .int .i64 c.cy, .int .i64 c.ex, .int .i64 c.fi, .int .i64 c.la, .int .i64 c.po] 24) = W0 at *
  have CM : ∀ W, Below W0.heap.size W0 W → Calls Tryz.prog 154 #[.agg #[.int .i64 c.d], .int .i64 (y + c.s), .int .i64 c.m] W fun e w' => e = .returned (.int .i64 v) ∧ Below W.heap.size W w' := fun W hB => cm W (T.kept (bthen B hB))
  have H : Hid (∀ W, Below W0.heap.size W0 W → (Below W0.heap.size W0 W ∧ W.cell? ⟨w.heap.size, 0, none⟩ = some (.string c.nm) ∧ W.cell? ⟨w.heap.size, 1, none⟩ = some (.int .i64 c.k) ∧ W.cell? ⟨w.heap.size, 2, none⟩ = some (.int .i64 c.d) ∧ W.cell? ⟨w.heap.size, 3, none⟩ = some (.int .i64 c.m) ∧ W.cell? ⟨w.heap.size, 4, none⟩ = some (.int .i64 c.s) ∧ W.cell? ⟨w.heap.size, 5, none⟩ = some (.int .i64 c.sh) ∧ W.cell? ⟨w.heap.size, 6, none⟩ = some (.int .i64 c.p0) ∧ W.cell? ⟨w.heap.size, 7, none⟩ = some (.int .i64 c.p1) ∧ W.cell? ⟨w.heap.size, 8, none⟩ = some (.int .i64 c.p2) ∧ W.cell? ⟨w.heap.size, 9, none⟩ = some (.int .i64 c.cy) ∧ W.cell? ⟨w.heap.size, 10, none⟩ = some (.int .i64 c.ex) ∧ W.cell? ⟨w.heap.size, 11, none⟩ = some (.int .i64 c.fi) ∧ W.cell? ⟨w.heap.size, 12, none⟩ = some (.int .i64 c.la) ∧ W.cell? ⟨w.heap.size, 13, none⟩ = some (.int .i64 c.po))) := Lib.hid (fun W h => ⟨h, (C.kept h).c0, (C.kept h).c1, (C.kept h).c2, (C.kept h).c3, (C.kept h).c4, (C.kept h).c5, (C.kept h).c6, (C.kept h).c7, (C.kept h).c8, (C.kept h).c9, (C.kept h).c10, (C.kept h).c11, (C.kept h).c12, (C.kept h).c13⟩)
  obtain ⟨_, c0, c1, c2, c3, c4, c5, c6, c7, c8, c9, c10, c11, c12, c13⟩ := id C
  clear C cm
  go_region_held3 (fun w' => Below W0.heap.size W0 w' ∧ w'.cell? ⟨w.heap.size, 0, none⟩ = some (.string c.nm) ∧ w'.cell? ⟨w.heap.size, 1, none⟩ = some (.int .i64 c.k) ∧ w'.cell? ⟨w.heap.size, 2, none⟩ = some (.int .i64 c.d) ∧ w'.cell? ⟨w.heap.size, 3, none⟩ = some (.int .i64 c.m) ∧ w'.cell? ⟨w.heap.size, 4, none⟩ = some (.int .i64 c.s) ∧ w'.cell? ⟨w.heap.size, 5, none⟩ = some (.int .i64 c.sh) ∧ w'.cell? ⟨w.heap.size, 6, none⟩ = some (.int .i64 c.p0) ∧ w'.cell? ⟨w.heap.size, 7, none⟩ = some (.int .i64 c.p1) ∧ w'.cell? ⟨w.heap.size, 8, none⟩ = some (.int .i64 c.p2) ∧ w'.cell? ⟨w.heap.size, 9, none⟩ = some (.int .i64 c.cy) ∧ w'.cell? ⟨w.heap.size, 10, none⟩ = some (.int .i64 c.ex) ∧ w'.cell? ⟨w.heap.size, 11, none⟩ = some (.int .i64 c.fi) ∧ w'.cell? ⟨w.heap.size, 12, none⟩ = some (.int .i64 c.la) ∧ w'.cell? ⟨w.heap.size, 13, none⟩ = some (.int .i64 c.po))
    ((refine H.out _ ?_; first | (with_reducible assumption) | (with_reducible exact Below.refl _ _) | (with_reducible exact (Below.refl _ _).drew)))
    (first
      | (go_at_call 89; (with_reducible refine (cr _).mono ?_); rintro e w4 ⟨rfl, hb⟩; have hB := bthen (w := W0) (by first | (with_reducible assumption) | (with_reducible exact Below.refl _ _) | (with_reducible exact (Below.refl _ _).drew)) hb; clear hb)
      | ((with_reducible refine (CM _ (by first | (with_reducible assumption) | (with_reducible exact Below.refl _ _) | (with_reducible exact (Below.refl _ _).drew))).mono ?_); rintro e w5 ⟨rfl, hb⟩; have hB2 := bthen (w := W0) (by first | (with_reducible assumption) | (with_reducible exact Below.refl _ _) | (with_reducible exact (Below.refl _ _).drew)) hb; clear hb))
  all_goals go_wp2
  all_goals
    go_ret
    exact ⟨rfl, bthen B hB2⟩

theorem end_any (c : CalZ) (y v : Int) (w : World) (ok : KindOk c) (y0 : 1600 ≤ y) (y1 : y ≤ 9997) (hv : v = yend c y) (T : Tab w) :
    Calls Tryz.prog 54 #[.agg #[.string c.nm, .int .i64 c.k, .int .i64 c.d, .int .i64 c.m, .int .i64 c.s, .int .i64 c.sh, .int .i64 c.p0, .int .i64 c.p1, .int .i64 c.p2, .int .i64 c.cy, .int .i64 c.ex, .int .i64 c.fi, .int .i64 c.la, .int .i64 c.po], .int .i64 y] w fun e w' => e = .returned (.int .i64 v) ∧ Below w.heap.size w w' := by
  have b := kind_bd ok
  have mo := mon_ok ok y0 (by omega)
  unfold yend at hv
  by_cases h : c.k = 1 ∨ c.k = 4
  · rw [if_pos h] at hv
    have d := b.2.2.2.2.2.2.1 (by omega)
    exact end_last c y v w (Lib.hid h) b.2.2.1 b.2.2.2.1 y0 y1 (fun w T => last_any _ _ _ v w mo d.1 d.2 hv T) T
  · rw [if_neg h] at hv
    by_cases h6 : c.k = 6
    · rw [if_pos h6] at hv
      exact end_month c y v w (Lib.hid h6) b.2.2.1 b.2.2.2.1 y0 y1 (fun w T => month_any _ _ v w mo hv T) T
    · rw [if_neg h6] at hv
      have d := b.2.2.2.2.2.2.1 h6
      exact end_near c y v w (Lib.hid h) (Lib.hid h6) b.2.2.1 b.2.2.2.1 y0 y1 (fun w T => near_any _ _ _ v w mo d.1 d.2 (near_early mo (by omega)) hv T) T

end Go.Proofs.YtjiifmdjhdhabaaGreatDoor.Ap
