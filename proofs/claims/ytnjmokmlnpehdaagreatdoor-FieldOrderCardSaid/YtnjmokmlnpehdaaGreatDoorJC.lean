/- Texts that are joined: Fcode, Fcode2. -/
import Derived.Test.YtnjmokmlnpehdaaGreatDoorJFe0
import Derived.Test.YtnjmokmlnpehdaaGreatDoorJK
import Derived.Test.YtnjmokmlnpehdaaGreatDoorJP
import Derived.Test.YtnjmokmlnpehdaaGreatDoorJZ
import Derived.BigRegion
import Derived.Deep.RegionHeld3
import Derived.Deep.DeepCutAuto
namespace Go.Proofs.YtnjmokmlnpehdaaGreatDoor.Fp
set_option linter.unusedSimpArgs false
set_option linter.unusedVariables false
open Go.RowKit Go.Proofs.YtnjmokmlnpehdaaGreatDoor.Bn Go.Proofs.YtnjmokmlnpehdaaGreatDoor.Cp Go.Proofs.YtnjmokmlnpehdaaGreatDoor.Am

set_option maxHeartbeats 1000000

def calL (c : CalZ) : List Value := [.string c.nm, .int .i64 c.k, .int .i64 c.d, .int .i64 c.m, .int .i64 c.s, .int .i64 c.sh, .int .i64 c.p0, .int .i64 c.p1, .int .i64 c.p2, .int .i64 c.cy, .int .i64 c.ex, .int .i64 c.fi, .int .i64 c.la, .int .i64 c.po]

theorem within_any (n a b : Int) (r : Bool) (w : World) (h : r = (decide (a ≤ n) && decide (n ≤ b))) :
    Calls Tryz.prog 62 #[.int .i64 n, .int .i64 a, .int .i64 b] w fun e w' => e = .returned (.bool r) ∧ w = w' := by
  by_cases h1 : a ≤ n
  · by_cases h2 : n ≤ b
    · obtain rfl : r = true := by rw [h]; simp [h1, h2]
      clear h
      go_enter Tryz.func62, Tryz.ntmps62
      go_wp2
      go_ret
      exact ⟨rfl, rfl⟩
    · obtain rfl : r = false := by rw [h]; simp [h2]
      clear h
      go_enter Tryz.func62, Tryz.ntmps62
      go_wp2
      go_ret
      exact ⟨rfl, rfl⟩
  · obtain rfl : r = false := by rw [h]; simp [h1]
    clear h
    go_enter Tryz.func62, Tryz.ntmps62
    go_wp2
    go_ret
    exact ⟨rfl, rfl⟩

/-- the place of x in [1, 2, 4] -/
def cycI (x : Int) : Int := if x = 1 then 0 else if x = 2 then 1 else if x = 4 then 2 else -1
theorem index_int (b o cap : Nat) (x v : Int) (w : World) (h : ∀ i v, ([1, 2, 4] : List Int)[i]? = some v → w.cell? ⟨b, o + i, none⟩ = some (.int .i64 v)) (hv : v = cycI x) :
    Calls Tryz.prog 99 #[.slice (some ⟨b, o, none⟩) 3 cap, .int .i64 x] w fun e w' => e = .returned (.int .i64 v) ∧ w = w' := by
  have c0 : w.cell? ⟨b, o, none⟩ = some (.int .i64 1) := h 0 1 rfl
  have c1 : w.cell? ⟨b, o + 1, none⟩ = some (.int .i64 2) := h 1 2 rfl
  have c2 : w.cell? ⟨b, o + 2, none⟩ = some (.int .i64 4) := h 2 4 rfl
  clear h
  unfold cycI at hv
  by_cases x1 : x = 1
  · rw [if_pos x1] at hv
    subst x1 hv
    go_enter Tryz.func99, Tryz.ntmps99
    go_wp2
    refine wp_loop_rounds 1 ?_; rw [rounds_succ]
    go_wp2
    go_ret
    exact ⟨rfl, rfl⟩
  · have d1 : (x == 1) = false := beq_eq_false_iff_ne.2 x1
    rw [if_neg x1] at hv
    by_cases x2 : x = 2
    · rw [if_pos x2] at hv
      subst x2 hv
      go_enter Tryz.func99, Tryz.ntmps99
      go_wp2
      refine wp_loop_rounds 2 ?_; rw [rounds_succ]
      go_wp2
      rw [rounds_succ]
      go_wp2
      go_ret
      exact ⟨rfl, rfl⟩
    · have d2 : (x == 2) = false := beq_eq_false_iff_ne.2 x2
      rw [if_neg x2] at hv
      by_cases x4 : x = 4
      · rw [if_pos x4] at hv
        subst x4 hv
        go_enter Tryz.func99, Tryz.ntmps99
        go_wp2
        refine wp_loop_rounds 3 ?_; rw [rounds_succ]
        go_wp2
        rw [rounds_succ]
        go_wp2
        rw [rounds_succ]
        go_wp2
        go_ret
        exact ⟨rfl, rfl⟩
      · have d4 : (x == 4) = false := beq_eq_false_iff_ne.2 x4
        rw [if_neg x4] at hv
        subst hv
        go_enter Tryz.func99, Tryz.ntmps99
        go_wp2
        refine wp_loop_rounds 4 ?_; rw [rounds_succ]
        go_wp2
        rw [rounds_succ]
        go_wp2
        rw [rounds_succ]
        go_wp2
        rw [rounds_succ]
        go_wp2
        go_ret
        exact ⟨rfl, rfl⟩

theorem cyc_num {x : Int} : ∃ v : Int, v = cycI x ∧ -1 ≤ v ∧ v ≤ 2 ∧ (decide (0 < v + 1) = decide (x = 1 ∨ x = 2 ∨ x = 4)) := by
  refine ⟨_, rfl, ?_⟩
  unfold cycI
  split
  · subst x; decide
  · split
    · subst x; decide
    · split
      · subst x; decide
      · refine ⟨by omega, by omega, ?_⟩
        rw [show decide ((0 : Int) < -1 + 1) = false from by decide]
        exact (decide_eq_false (by omega)).symm

theorem number_int (b o cap : Nat) (x v : Int) (w : World) (h : ∀ i v, ([1, 2, 4] : List Int)[i]? = some v → w.cell? ⟨b, o + i, none⟩ = some (.int .i64 v)) (hv : v = cycI x) (v0 : -1 ≤ v) (v1 : v ≤ 2) :
    Calls Tryz.prog 80 #[.slice (some ⟨b, o, none⟩) 3 cap, .int .i64 x] w fun e w' => e = .returned (.int .i64 (v + 1)) ∧ w = w' := by
  have ci := index_int b o cap x v w h hv
  clear h hv
  go_enter Tryz.func80, Tryz.ntmps80
  go_wp2_with fail
  refine ci.mono ?_
  rintro e w' ⟨rfl, rfl⟩
  go_wp2
  go_ret
  exact ⟨rfl, rfl⟩

/-- the place of x in [[5,4,4], [4,5,4], [4,4,5]] -/
def patI (x y z : Int) : Int := if x = 5 ∧ y = 4 ∧ z = 4 then 0 else if x = 4 ∧ y = 5 ∧ z = 4 then 1 else if x = 4 ∧ y = 4 ∧ z = 5 then 2 else -1
def PatCells (w : World) (b o : Nat) : Prop := ∀ i v, ([5, 4, 4, 4, 5, 4, 4, 4, 5] : List Int)[i]? = some v → w.cell? ⟨b, o + i, none⟩ = some (.int .i64 v)

theorem pat_eqIn (d : Nat) (x y z a b c : Int) (w : World) :
    (Op.equalIn (d + 2) 28 (.agg #[.int .i64 x, .int .i64 y, .int .i64 z]) (.agg #[.int .i64 a, .int .i64 b, .int .i64 c])).run Tryz.prog w = .ok (decide (x = a ∧ y = b ∧ z = c)) w := by
  have u3 := Tryz.underlying3
  rw [show d + 2 = (d + 1) + 1 from rfl, Op.equalIn]
  simp only [Sem.run_bind, run_underlying Tryz.underlying28, Result.andThen_ok]
  simp only [Std.Legacy.Range.forIn_eq_forIn_range', Std.Legacy.Range.size, Nat.sub_zero, Nat.add_sub_cancel, Nat.div_one, List.range'_succ, List.range'_zero, List.forIn_cons, List.forIn_nil]
  go_simp
  by_cases h1 : x = a <;> by_cases h2 : y = b <;> by_cases h3 : z = c <;> simp [h1, h2, h3]
theorem pat_eql (x y z a b c : Int) (w : World) :
    (binOp .eql 28 (.agg #[.int .i64 x, .int .i64 y, .int .i64 z]) (.agg #[.int .i64 a, .int .i64 b, .int .i64 c])).run Tryz.prog w = .ok (.bool (decide (x = a ∧ y = b ∧ z = c))) w := by
  rw [run_eql_struct, show (10000 : Nat) = 9998 + 2 from rfl, pat_eqIn]
  rfl

set_option maxRecDepth 100000 in
theorem index_pat (b o cap : Nat) (x y z v : Int) (w : World) (h : PatCells w b o) (hb : b < w.heap.size) (hv : v = patI x y z) :
    Calls Tryz.prog 98 #[.slice (some ⟨b, o, none⟩) 3 cap, .agg #[.int .i64 x, .int .i64 y, .int .i64 z]] w fun e w' => e = .returned (.int .i64 v) ∧ Below w.heap.size w w' := by
  have k0 : w.cell? ⟨b, o, none⟩ = some (.int .i64 5) := h 0 5 rfl
  have k1 : w.cell? ⟨b, o + 1, none⟩ = some (.int .i64 4) := h 1 4 rfl
  have k2 : w.cell? ⟨b, o + 2, none⟩ = some (.int .i64 4) := h 2 4 rfl
  have k3 : w.cell? ⟨b, o + 3, none⟩ = some (.int .i64 4) := h 3 4 rfl
  have k4 : w.cell? ⟨b, o + 4, none⟩ = some (.int .i64 5) := h 4 5 rfl
  have k5 : w.cell? ⟨b, o + 5, none⟩ = some (.int .i64 4) := h 5 4 rfl
  have k6 : w.cell? ⟨b, o + 6, none⟩ = some (.int .i64 4) := h 6 4 rfl
  have k7 : w.cell? ⟨b, o + 7, none⟩ = some (.int .i64 4) := h 7 4 rfl
  have k8 : w.cell? ⟨b, o + 8, none⟩ = some (.int .i64 5) := h 8 5 rfl
  clear h
  obtain ⟨W, hW⟩ : ∃ W, w.alloc (.cells #[.int .i64 x, .int .i64 y, .int .i64 z] 28) = W := ⟨_, rfl⟩
  have T := (Go.Proofs.YtnjmokmlnpehdaaGreatDoor.Bx.Tri.new w (.int .i64 x) (.int .i64 y) (.int .i64 z) 28)
  have B := balloc (Below.refl _ w) (.cells #[.int .i64 x, .int .i64 y, .int .i64 z] 28)
  rw [hW] at T B
  replace k0 : W.cell? ⟨b, o, none⟩ = some (.int .i64 5) := (B.cell (p := ⟨b, o, none⟩) hb).trans k0
  replace k1 : W.cell? ⟨b, o + 1, none⟩ = some (.int .i64 4) := (B.cell (p := ⟨b, o + 1, none⟩) hb).trans k1
  replace k2 : W.cell? ⟨b, o + 2, none⟩ = some (.int .i64 4) := (B.cell (p := ⟨b, o + 2, none⟩) hb).trans k2
  replace k3 : W.cell? ⟨b, o + 3, none⟩ = some (.int .i64 4) := (B.cell (p := ⟨b, o + 3, none⟩) hb).trans k3
  replace k4 : W.cell? ⟨b, o + 4, none⟩ = some (.int .i64 5) := (B.cell (p := ⟨b, o + 4, none⟩) hb).trans k4
  replace k5 : W.cell? ⟨b, o + 5, none⟩ = some (.int .i64 4) := (B.cell (p := ⟨b, o + 5, none⟩) hb).trans k5
  replace k6 : W.cell? ⟨b, o + 6, none⟩ = some (.int .i64 4) := (B.cell (p := ⟨b, o + 6, none⟩) hb).trans k6
  replace k7 : W.cell? ⟨b, o + 7, none⟩ = some (.int .i64 4) := (B.cell (p := ⟨b, o + 7, none⟩) hb).trans k7
  replace k8 : W.cell? ⟨b, o + 8, none⟩ = some (.int .i64 5) := (B.cell (p := ⟨b, o + 8, none⟩) hb).trans k8
  obtain ⟨_, t0, t1, t2, _, _, _⟩ := T
  have q0 := fun w => pat_eql x y z 5 4 4 w
  have q1 := fun w => pat_eql x y z 4 5 4 w
  have q2 := fun w => pat_eql x y z 4 4 5 w
  unfold patI at hv
  by_cases p0 : x = 5 ∧ y = 4 ∧ z = 4
  · rw [if_pos p0] at hv
    rw [decide_eq_true p0] at q0
    subst hv
    clear p0
    go_enter Tryz.func98, Tryz.ntmps98
    go_wp2
    refine wp_loop_rounds 4 ?_; rw [rounds_succ]
    go_wp2
    go_quiet (fail)
    go_wp2
    go_ret
    exact ⟨rfl, by first | exact bdrewN B _ | exact bdrewN (bdrewN B _) _ | exact bdrewN (bdrewN (bdrewN B _) _) _⟩
  rw [if_neg p0] at hv
  rw [decide_eq_false p0] at q0
  by_cases p1 : x = 4 ∧ y = 5 ∧ z = 4
  · rw [if_pos p1] at hv
    rw [decide_eq_true p1] at q1
    subst hv
    clear p0 p1
    go_enter Tryz.func98, Tryz.ntmps98
    go_wp2
    refine wp_loop_rounds 4 ?_; rw [rounds_succ]
    go_wp2
    go_quiet (fail)
    go_wp2
    rw [rounds_succ]
    go_wp2
    go_quiet (fail)
    go_wp2
    go_ret
    exact ⟨rfl, by first | exact bdrewN B _ | exact bdrewN (bdrewN B _) _ | exact bdrewN (bdrewN (bdrewN B _) _) _⟩
  rw [if_neg p1] at hv
  rw [decide_eq_false p1] at q1
  by_cases p2 : x = 4 ∧ y = 4 ∧ z = 5
  · rw [if_pos p2] at hv
    rw [decide_eq_true p2] at q2
    subst hv
    clear p0 p1 p2
    go_enter Tryz.func98, Tryz.ntmps98
    go_wp2
    refine wp_loop_rounds 4 ?_; rw [rounds_succ]
    go_wp2
    go_quiet (fail)
    go_wp2
    rw [rounds_succ]
    go_wp2
    go_quiet (fail)
    go_wp2
    rw [rounds_succ]
    go_wp2
    go_quiet (fail)
    go_wp2
    go_ret
    exact ⟨rfl, by first | exact bdrewN B _ | exact bdrewN (bdrewN B _) _ | exact bdrewN (bdrewN (bdrewN B _) _) _⟩
  rw [if_neg p2] at hv
  rw [decide_eq_false p2] at q2
  subst hv
  clear p0 p1 p2
  go_enter Tryz.func98, Tryz.ntmps98
  go_wp2
  refine wp_loop_rounds 4 ?_; rw [rounds_succ]
  go_wp2
  go_quiet (fail)
  go_wp2
  rw [rounds_succ]
  go_wp2
  go_quiet (fail)
  go_wp2
  rw [rounds_succ]
  go_wp2
  go_quiet (fail)
  go_wp2
  rw [rounds_succ]
  go_wp2
  go_ret
  exact ⟨rfl, by first | exact bdrewN B _ | exact bdrewN (bdrewN B _) _ | exact bdrewN (bdrewN (bdrewN B _) _) _⟩

theorem pat_num {x y z : Int} : ∃ v : Int, v = patI x y z ∧ -1 ≤ v ∧ v ≤ 2 ∧ (decide (0 < v + 1) = decide ((x = 5 ∧ y = 4 ∧ z = 4) ∨ (x = 4 ∧ y = 5 ∧ z = 4) ∨ (x = 4 ∧ y = 4 ∧ z = 5))) := by
  refine ⟨_, rfl, ?_⟩
  unfold patI
  split
  · rename_i h; exact ⟨by omega, by omega, (decide_eq_true (.inl h)).trans (decide_eq_true (by omega : (0 : Int) < 0 + 1)).symm |>.symm⟩
  · split
    · rename_i h; exact ⟨by omega, by omega, (decide_eq_true (.inr (.inl h))).trans (decide_eq_true (by omega : (0 : Int) < 1 + 1)).symm |>.symm⟩
    · split
      · rename_i h; exact ⟨by omega, by omega, (decide_eq_true (.inr (.inr h))).trans (decide_eq_true (by omega : (0 : Int) < 2 + 1)).symm |>.symm⟩
      · refine ⟨by omega, by omega, ?_⟩
        rw [decide_eq_false (by omega : ¬ ((0 : Int) < -1 + 1))]
        exact (decide_eq_false (by omega)).symm

set_option maxRecDepth 100000 in
theorem number_pat (b o cap : Nat) (x y z v : Int) (w : World) (h : PatCells w b o) (hb : b < w.heap.size) (hv : v = patI x y z) (v0 : -1 ≤ v) (v1 : v ≤ 2) :
    Calls Tryz.prog 79 #[.slice (some ⟨b, o, none⟩) 3 cap, .agg #[.int .i64 x, .int .i64 y, .int .i64 z]] w fun e w' => e = .returned (.int .i64 (v + 1)) ∧ Below w.heap.size w w' := by
  have B0 := balloc (Below.refl _ w) (.cells #[.int .i64 x, .int .i64 y, .int .i64 z] 28)
  have ci := index_pat b o cap x y z v (w.alloc (.cells #[.int .i64 x, .int .i64 y, .int .i64 z] 28)) (fun i u e => (B0.cell (p := ⟨b, o + i, none⟩) hb).trans (h i u e)) (by simp; omega) hv
  clear h hv
  go_enter Tryz.func79, Tryz.ntmps79
  go_wp2_with fail
  refine ci.mono ?_
  rintro e w' ⟨rfl, hB⟩
  have B1 := bthen B0 hB
  go_wp2
  go_ret
  exact ⟨rfl, B1⟩

end Go.Proofs.YtnjmokmlnpehdaaGreatDoor.Fp

namespace Go.Proofs.YtnjmokmlnpehdaaGreatDoor.Fp
set_option linter.unusedSimpArgs false
set_option linter.unusedVariables false
open Go.RowKit Go.Proofs.YtnjmokmlnpehdaaGreatDoor.Bn Go.Proofs.YtnjmokmlnpehdaaGreatDoor.Cp Go.Proofs.YtnjmokmlnpehdaaGreatDoor.Am

set_option maxHeartbeats 1000000

instance (c : CalZ) : Decidable (YearsOk c) := by unfold YearsOk; exact inferInstance
instance (c : CalZ) : Decidable (PolOk c) := by unfold PolOk; exact inferInstance
instance (c : CalZ) : Decidable (CutOk c) := by unfold CutOk; exact inferInstance

/-- block b holds the calendar c -/
structure CalIn (W : World) (b : Nat) (c : CalZ) : Prop where
  lt : b < W.heap.size
  c0 : W.cell? ⟨b, 0, none⟩ = some (.string c.nm)
  c1 : W.cell? ⟨b, 1, none⟩ = some (.int .i64 c.k)
  c2 : W.cell? ⟨b, 2, none⟩ = some (.int .i64 c.d)
  c3 : W.cell? ⟨b, 3, none⟩ = some (.int .i64 c.m)
  c4 : W.cell? ⟨b, 4, none⟩ = some (.int .i64 c.s)
  c5 : W.cell? ⟨b, 5, none⟩ = some (.int .i64 c.sh)
  c6 : W.cell? ⟨b, 6, none⟩ = some (.int .i64 c.p0)
  c7 : W.cell? ⟨b, 7, none⟩ = some (.int .i64 c.p1)
  c8 : W.cell? ⟨b, 8, none⟩ = some (.int .i64 c.p2)
  c9 : W.cell? ⟨b, 9, none⟩ = some (.int .i64 c.cy)
  c10 : W.cell? ⟨b, 10, none⟩ = some (.int .i64 c.ex)
  c11 : W.cell? ⟨b, 11, none⟩ = some (.int .i64 c.fi)
  c12 : W.cell? ⟨b, 12, none⟩ = some (.int .i64 c.la)
  c13 : W.cell? ⟨b, 13, none⟩ = some (.int .i64 c.po)
theorem CalIn.kept {W w1 : World} {b : Nat} {c : CalZ} (p : CalIn W b c) (hb : Below W.heap.size W w1) : CalIn w1 b c :=
  have k : ∀ n, w1.cell? ⟨b, n, none⟩ = W.cell? ⟨b, n, none⟩ := fun n => hb.cell (p := ⟨b, n, none⟩) p.lt
  ⟨Nat.lt_of_lt_of_le p.lt hb.size, (k 0).trans p.c0, (k 1).trans p.c1, (k 2).trans p.c2, (k 3).trans p.c3, (k 4).trans p.c4, (k 5).trans p.c5, (k 6).trans p.c6, (k 7).trans p.c7, (k 8).trans p.c8, (k 9).trans p.c9, (k 10).trans p.c10, (k 11).trans p.c11, (k 12).trans p.c12, (k 13).trans p.c13⟩
theorem CalIn.upto {W w1 : World} {b n : Nat} {c : CalZ} (p : CalIn W b c) (h : b < n) (hb : Below n W w1) (hs : n ≤ W.heap.size) : CalIn w1 b c :=
  have k : ∀ n, w1.cell? ⟨b, n, none⟩ = W.cell? ⟨b, n, none⟩ := fun n => hb.cell (p := ⟨b, n, none⟩) h
  ⟨Nat.lt_of_lt_of_le p.lt hb.size, (k 0).trans p.c0, (k 1).trans p.c1, (k 2).trans p.c2, (k 3).trans p.c3, (k 4).trans p.c4, (k 5).trans p.c5, (k 6).trans p.c6, (k 7).trans p.c7, (k 8).trans p.c8, (k 9).trans p.c9, (k 10).trans p.c10, (k 11).trans p.c11, (k 12).trans p.c12, (k 13).trans p.c13⟩
theorem CalIn.alloc {W : World} {b : Nat} {c : CalZ} (p : CalIn W b c) (o : Obj) : CalIn (W.alloc o) b c := p.kept ((Below.refl _ _).alloc (Nat.le_refl _) o)
theorem CalIn.drewN {W : World} {b : Nat} {c : CalZ} (p : CalIn W b c) (n : Nat) : CalIn (W.drewN n) b c := ⟨p.lt, p.c0, p.c1, p.c2, p.c3, p.c4, p.c5, p.c6, p.c7, p.c8, p.c9, p.c10, p.c11, p.c12, p.c13⟩
theorem CalIn.new (W : World) (c : CalZ) (t : TypeId) : CalIn (W.alloc (.cells #[.string c.nm, .int .i64 c.k, .int .i64 c.d, .int .i64 c.m, .int .i64 c.s, .int .i64 c.sh, .int .i64 c.p0, .int .i64 c.p1, .int .i64 c.p2, .int .i64 c.cy, .int .i64 c.ex, .int .i64 c.fi, .int .i64 c.la, .int .i64 c.po] t)) W.heap.size c :=
  ⟨by simp, by simp [go_sem], by simp [go_sem], by simp [go_sem], by simp [go_sem], by simp [go_sem], by simp [go_sem], by simp [go_sem], by simp [go_sem], by simp [go_sem], by simp [go_sem], by simp [go_sem], by simp [go_sem], by simp [go_sem], by simp [go_sem]⟩

theorem Years_any (c : CalZ) (r : Bool) (w : World) (h : r = decide (YearsOk c)) :
    Calls Tryz.prog 43 #[.agg #[.string c.nm, .int .i64 c.k, .int .i64 c.d, .int .i64 c.m, .int .i64 c.s, .int .i64 c.sh, .int .i64 c.p0, .int .i64 c.p1, .int .i64 c.p2, .int .i64 c.cy, .int .i64 c.ex, .int .i64 c.fi, .int .i64 c.la, .int .i64 c.po]] w fun e w' => e = .returned (.bool r) ∧ Below w.heap.size w w' := by
  have P := CalIn.new w c 30
  have O : (1602 ≤ c.fi ∧ c.la ≤ 9996 ∧ c.fi ≤ c.la ∧ decide (c.la - c.fi < 400) = true ∧ r = true) ∨ (1602 ≤ c.fi ∧ c.la ≤ 9996 ∧ c.fi ≤ c.la ∧ decide (c.la - c.fi < 400) = false ∧ r = false) ∨ (1602 ≤ c.fi ∧ c.la ≤ 9996 ∧ c.la < c.fi ∧ r = false) ∨
      (1602 ≤ c.fi ∧ 9996 < c.la ∧ r = false) ∨ (c.fi < 1602 ∧ r = false) := by
    subst h
    unfold YearsOk
    by_cases h1 : 1602 ≤ c.fi
    · by_cases h2 : c.la ≤ 9996
      · by_cases h3 : c.fi ≤ c.la
        · by_cases h4 : c.la - c.fi < 400
          · exact .inl ⟨h1, h2, h3, decide_eq_true h4, decide_eq_true ⟨h1, h2, h3, h4⟩⟩
          · exact .inr (.inl ⟨h1, h2, h3, decide_eq_false h4, decide_eq_false (fun k => h4 k.2.2.2)⟩)
        · exact .inr (.inr (.inl ⟨h1, h2, by omega, decide_eq_false (fun k => h3 k.2.2.1)⟩))
      · exact .inr (.inr (.inr (.inl ⟨h1, by omega, decide_eq_false (fun k => h2 k.2.1)⟩)))
    · exact .inr (.inr (.inr (.inr ⟨by omega, decide_eq_false (fun k => h1 k.1)⟩)))
  clear h
  obtain ⟨nm, k, d, m, s, sh, p0, p1, p2, cy, ex, fi, la, po⟩ := c
  obtain ⟨_, c0, c1, c2, c3, c4, c5, c6, c7, c8, c9, c10, c11, c12, c13⟩ := P
  dsimp only at *
  rcases O with ⟨h1, h2, h3, h4, rfl⟩ | ⟨h1, h2, h3, h4, rfl⟩ | ⟨h1, h2, h3, rfl⟩ | ⟨h1, h2, rfl⟩ | ⟨h1, rfl⟩
  all_goals
    go_enter Tryz.func43, Tryz.ntmps43
    go_wp2
    go_ret
    exact ⟨rfl, balloc (Below.refl _ w) _⟩

theorem Policy_any (c : CalZ) (r : Bool) (w : World) (h : r = decide (PolOk c)) (T : FTab w) :
    Calls Tryz.prog 44 #[.agg #[.string c.nm, .int .i64 c.k, .int .i64 c.d, .int .i64 c.m, .int .i64 c.s, .int .i64 c.sh, .int .i64 c.p0, .int .i64 c.p1, .int .i64 c.p2, .int .i64 c.cy, .int .i64 c.ex, .int .i64 c.fi, .int .i64 c.la, .int .i64 c.po]] w fun e w' => e = .returned (.bool r) ∧ Below w.heap.size w w' := by
  have P := CalIn.new w c 30
  obtain ⟨a, cap, hlt, hg⟩ := T.pol
  replace hg : (w.alloc (.cells #[.string c.nm, .int .i64 c.k, .int .i64 c.d, .int .i64 c.m, .int .i64 c.s, .int .i64 c.sh, .int .i64 c.p0, .int .i64 c.p1, .int .i64 c.p2, .int .i64 c.cy, .int .i64 c.ex, .int .i64 c.fi, .int .i64 c.la, .int .i64 c.po] 30)).cell? ⟨1, 0, none⟩ = some (.slice (some a) 4 cap) := ((Below.refl _ w).alloc (Nat.le_refl _) (.cells #[.string c.nm, .int .i64 c.k, .int .i64 c.d, .int .i64 c.m, .int .i64 c.s, .int .i64 c.sh, .int .i64 c.p0, .int .i64 c.p1, .int .i64 c.p2, .int .i64 c.cy, .int .i64 c.ex, .int .i64 c.fi, .int .i64 c.la, .int .i64 c.po] 30)).cell (p := ⟨1, 0, none⟩) hlt |>.trans hg
  obtain ⟨v, hv⟩ : ∃ v, v = (decide (1 ≤ c.po) && decide (c.po ≤ 4)) := ⟨_, rfl⟩
  have cw := fun w => within_any c.po 1 4 v w hv
  have O : (v = false ∧ r = false) ∨ (v = true ∧ r = (decide (c.po = 4) == decide (c.k = 6))) := by
    subst h hv
    unfold PolOk
    by_cases h1 : 1 ≤ c.po
    · by_cases h2 : c.po ≤ 4
      · refine .inr ⟨by simp [h1, h2], ?_⟩
        by_cases h3 : c.po = 4 <;> by_cases h4 : c.k = 6 <;> simp [h1, h2, h3, h4] <;> omega
      · exact .inl ⟨by simp [h2], decide_eq_false (fun k => h2 k.2.1)⟩
    · exact .inl ⟨by simp [h1], decide_eq_false (fun k => h1 k.1)⟩
  clear h hv
  obtain ⟨nm, k, d, m, s, sh, p0, p1, p2, cy, ex, fi, la, po⟩ := c
  obtain ⟨_, c0, c1, c2, c3, c4, c5, c6, c7, c8, c9, c10, c11, c12, c13⟩ := P
  dsimp only at *
  rcases O with ⟨rfl, rfl⟩ | ⟨rfl, rfl⟩
  · go_enter Tryz.func44, Tryz.ntmps44
    go_wp2_with fail
    refine (cw _).mono ?_
    rintro e w' ⟨rfl, rfl⟩
    go_wp2
    go_ret
    exact ⟨rfl, balloc (Below.refl _ w) _⟩
  · go_enter Tryz.func44, Tryz.ntmps44
    go_wp2_with fail
    refine (cw _).mono ?_
    rintro e w' ⟨rfl, rfl⟩
    go_wp2
    go_ret
    exact ⟨by first | rfl | (congr 2; by_cases h3 : po = 4 <;> by_cases h4 : k = 6 <;> simp [h3, h4]), balloc (Below.refl _ w) _⟩

theorem periods_any (c : CalZ) (v : Int) (w : World) (hv : v = per c) (hc : c.sh = 3 → c.cy = 1 ∨ c.cy = 2 ∨ c.cy = 4) :
    Calls Tryz.prog 39 #[.agg #[.string c.nm, .int .i64 c.k, .int .i64 c.d, .int .i64 c.m, .int .i64 c.s, .int .i64 c.sh, .int .i64 c.p0, .int .i64 c.p1, .int .i64 c.p2, .int .i64 c.cy, .int .i64 c.ex, .int .i64 c.fi, .int .i64 c.la, .int .i64 c.po]] w fun e w' => e = .returned (.int .i64 v) ∧ Below w.heap.size w w' := by
  have P := CalIn.new w c 30
  have O : (c.sh = 2 ∧ v = 13) ∨ (c.sh = 3 ∧ c.cy = 1 ∧ v = 52) ∨ (c.sh = 3 ∧ c.cy = 2 ∧ v = 26) ∨ (c.sh = 3 ∧ c.cy = 4 ∧ v = 13) ∨ (c.sh ≠ 2 ∧ c.sh ≠ 3 ∧ v = 12) := by
    subst hv
    unfold per
    by_cases h2 : c.sh = 2
    · exact .inl ⟨h2, by simp [h2]⟩
    · by_cases h3 : c.sh = 3
      · rcases hc h3 with h | h | h
        · exact .inr (.inl ⟨h3, h, by simp [h3, h]⟩)
        · exact .inr (.inr (.inl ⟨h3, h, by simp [h3, h]⟩))
        · exact .inr (.inr (.inr (.inl ⟨h3, h, by simp [h3, h]⟩)))
      · exact .inr (.inr (.inr (.inr ⟨h2, h3, by simp [h2, h3]⟩)))
  clear hv hc
  obtain ⟨nm, k, d, m, s, sh, p0, p1, p2, cy, ex, fi, la, po⟩ := c
  obtain ⟨_, c0, c1, c2, c3, c4, c5, c6, c7, c8, c9, c10, c11, c12, c13⟩ := P
  dsimp only at *
  rcases O with ⟨rfl, rfl⟩ | ⟨rfl, rfl, rfl⟩ | ⟨rfl, rfl, rfl⟩ | ⟨rfl, rfl, rfl⟩ | ⟨h2, h3, rfl⟩
  all_goals
    go_enter Tryz.func39, Tryz.ntmps39
    go_wp2
    go_ret
    exact ⟨rfl, balloc (Below.refl _ w) _⟩

end Go.Proofs.YtnjmokmlnpehdaaGreatDoor.Fp
