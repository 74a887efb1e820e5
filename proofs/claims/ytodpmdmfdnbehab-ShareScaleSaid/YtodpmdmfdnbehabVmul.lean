/- What multiply and Mul of package wide come to. -/
import Derived.Test.YtodpmdmfdnbehabVfit
import Derived.Test.YtodpmdmfdnbehabVmath3
namespace Go.Proofs.Ytodpmdmfdnbehab.Vc
set_option linter.unusedSimpArgs false
set_option linter.unusedVariables false
open Go.RowKit Go.Proofs.Ytodpmdmfdnbehab.Vm

set_option maxHeartbeats 400000

theorem low_to (a r : Int) (w : World) (h1 : 0 ≤ a) (h2 : a ≤ 18446744073709551615) (e : Hid (a % 4294967296 = r)) :
    Calls Try.prog 64 #[.int .u64 a] w fun e w' => e = .returned (.int .u64 r) ∧ w = w' := by
  rw [← e.out]; exact lowHalf_any a w h1 h2
theorem high_to (a r : Int) (w : World) (h1 : 0 ≤ a) (h2 : a ≤ 18446744073709551615) (e : Hid (a / 4294967296 = r)) :
    Calls Try.prog 65 #[.int .u64 a] w fun e w' => e = .returned (.int .u64 r) ∧ w = w' := by
  rw [← e.out]; exact highHalf_any a w h1 h2

set_option maxHeartbeats 1000000 in
theorem multiply_any (x y : Int) (w : World) (bx0 : 0 ≤ x) (bx : x ≤ 18446744073709551615) (by0 : 0 ≤ y) (by1 : y ≤ 18446744073709551615) :
    Calls Try.prog 53 #[.int .u64 x, .int .u64 y] w fun e w' =>
      e = .returned (.agg #[.int .u64 (x * y % 18446744073709551616), .int .u64 (x * y / 18446744073709551616)]) ∧ Below w.heap.size w w' := by
  obtain ⟨xl, hxl⟩ : ∃ s, x % 4294967296 = s := ⟨_, rfl⟩
  obtain ⟨xh, hxh⟩ : ∃ s, x / 4294967296 = s := ⟨_, rfl⟩
  obtain ⟨yl, hyl⟩ : ∃ s, y % 4294967296 = s := ⟨_, rfl⟩
  obtain ⟨yh, hyh⟩ : ∃ s, y / 4294967296 = s := ⟨_, rfl⟩
  have c1 : 0 ≤ xl ∧ xl ≤ 4294967295 := by omega
  have c2 : 0 ≤ xh ∧ xh ≤ 4294967295 := by omega
  have c3 : 0 ≤ yl ∧ yl ≤ 4294967295 := by omega
  have c4 : 0 ≤ yh ∧ yh ≤ 4294967295 := by omega
  obtain ⟨p1, p2⟩ := half_prod c1.1 c1.2 c3.1 c3.2
  obtain ⟨p3, p4⟩ := half_prod c2.1 c2.2 c3.1 c3.2
  obtain ⟨p5, p6⟩ := half_prod c1.1 c1.2 c4.1 c4.2
  obtain ⟨p7, p8⟩ := half_prod c2.1 c2.2 c4.1 c4.2
  obtain ⟨ll, hll⟩ : ∃ s, xl * yl % 4294967296 = s := ⟨_, rfl⟩
  obtain ⟨lh, hlh⟩ : ∃ s, xl * yl / 4294967296 = s := ⟨_, rfl⟩
  have c5 : 0 ≤ lh ∧ lh ≤ 4294967294 := by omega
  have c5' : 0 ≤ ll ∧ ll ≤ 4294967295 := by omega
  obtain ⟨fl, hfl⟩ : ∃ s, (xh * yl + lh) % 4294967296 = s := ⟨_, rfl⟩
  obtain ⟨fh, hfh⟩ : ∃ s, (xh * yl + lh) / 4294967296 = s := ⟨_, rfl⟩
  have c6 : 0 ≤ fl ∧ fl ≤ 4294967295 := by omega
  have c7 : 0 ≤ fh ∧ fh ≤ 4294967295 := by omega
  obtain ⟨sl, hsl⟩ : ∃ s, (xl * yh + fl) % 4294967296 = s := ⟨_, rfl⟩
  obtain ⟨sh, hsh⟩ : ∃ s, (xl * yh + fl) / 4294967296 = s := ⟨_, rfl⟩
  have c8 : 0 ≤ sh ∧ sh ≤ 4294967295 := by omega
  have c9 : 0 ≤ sl ∧ sl ≤ 4294967295 := by omega
  have P := prod_halves (x := x) (y := y) (xl := xl) (xh := xh) (yl := yl) (yh := yh) (lh := lh) (ll := ll) (fl := fl) (fh := fh) (sh := sh) (sl := sl) (by omega) (by omega) (by omega) (by omega) (by omega)
  have q1 : xh * yh + fh + sh ≤ 18446744073709551615 := by
    have l1 : x * y ≤ 18446744073709551615 * y := Int.mul_le_mul_of_nonneg_right bx by0
    omega
  have R0 := Lib.hid (show x * y % 18446744073709551616 = sl * 4294967296 + ll by omega)
  have R1 := Lib.hid (show x * y / 18446744073709551616 = xh * yh + fh + sh by omega)
  have q2 : xl * yh + fl ≤ 18446744073709551615 := by omega
  have q3 : xh * yl + lh ≤ 18446744073709551615 := by omega
  have q4 : 0 ≤ xh * yl + lh := by omega
  have q5 : 0 ≤ xl * yh + fl := by omega
  have SH := Lib.hid (show (xl * yh + fl) * 4294967296 % 18446744073709551616 = sl * 4294967296 by omega)
  have orf : bits .or .u64 (sl * 4294967296) ll = sl * 4294967296 + ll := or_half (by omega) (by omega) (by omega) c5'.1 c5'.2
  clear P
  obtain ⟨c51, c52⟩ := c5
  obtain ⟨c61, c62⟩ := c6
  obtain ⟨c71, c72⟩ := c7
  obtain ⟨c81, c82⟩ := c8
  replace hxl := Lib.hid hxl
  replace hxh := Lib.hid hxh
  replace hyl := Lib.hid hyl
  replace hyh := Lib.hid hyh
  replace hll := Lib.hid hll
  replace hlh := Lib.hid hlh
  replace hfl := Lib.hid hfl
  replace hfh := Lib.hid hfh
  replace hsl := Lib.hid hsl
  replace hsh := Lib.hid hsh
  rw [R0.out, R1.out]
  have p9 : xl * yl ≤ 18446744073709551615 := by omega
  clear c1 c2 c3 c4 c5' c9
  go_enter Try.func53, Try.ntmps53
  go_wp2_with fail
  refine (low_to x _ _ bx0 bx hxl).mono ?_
  rintro e w' ⟨rfl, rfl⟩
  go_wp2_with fail
  refine (low_to y _ _ by0 by1 hyl).mono ?_
  rintro e w' ⟨rfl, rfl⟩
  go_wp2_with fail
  refine (high_to x _ _ bx0 bx hxh).mono ?_
  rintro e w' ⟨rfl, rfl⟩
  go_wp2_with fail
  refine (low_to y _ _ by0 by1 hyl).mono ?_
  rintro e w' ⟨rfl, rfl⟩
  go_wp2_with fail
  refine (high_to (xl * yl) _ _ p1 p9 hlh).mono ?_
  rintro e w' ⟨rfl, rfl⟩
  go_wp2_with fail
  refine (low_to x _ _ bx0 bx hxl).mono ?_
  rintro e w' ⟨rfl, rfl⟩
  go_wp2_with fail
  refine (high_to y _ _ by0 by1 hyh).mono ?_
  rintro e w' ⟨rfl, rfl⟩
  go_wp2_with fail
  refine (low_to (xh * yl + lh) _ _ q4 q3 hfl).mono ?_
  rintro e w' ⟨rfl, rfl⟩
  go_wp2_with fail
  refine (high_to x _ _ bx0 bx hxh).mono ?_
  rintro e w' ⟨rfl, rfl⟩
  go_wp2_with fail
  refine (high_to y _ _ by0 by1 hyh).mono ?_
  rintro e w' ⟨rfl, rfl⟩
  go_wp2_with fail
  refine (high_to (xh * yl + lh) _ _ q4 q3 hfh).mono ?_
  rintro e w' ⟨rfl, rfl⟩
  go_wp2_with fail
  refine (high_to (xl * yh + fl) _ _ q5 q2 hsh).mono ?_
  rintro e w' ⟨rfl, rfl⟩
  go_wp2_with fail
  refine (low_to (xl * yl) _ _ p1 p9 hll).mono ?_
  rintro e w' ⟨rfl, rfl⟩
  go_wp2
  refine bodyPost_ret (v := .agg #[.int .u64 (bits BinOp.or IntKind.u64 (IntKind.u64.wrap ((xl * yh + fl) * 4294967296)) ll), .int .u64 (xh * yh + fh + sh)]) (by simp [results, Try.results53, go_sem]) rfl ⟨ret_agg (by rw [IntKind.wrap_u64, SH.out, orf]) rfl, ?_⟩
  exact (Below.refl _ _).alloc (Nat.le_refl _) _

theorem multiply_to (x y r0 r1 : Int) (w : World) (bx0 : 0 ≤ x) (bx : x ≤ 18446744073709551615) (by0 : 0 ≤ y) (by1 : y ≤ 18446744073709551615)
    (e0 : Hid (x * y % 18446744073709551616 = r0)) (e1 : Hid (x * y / 18446744073709551616 = r1)) :
    Calls Try.prog 53 #[.int .u64 x, .int .u64 y] w fun e w' => e = .returned (.agg #[.int .u64 r0, .int .u64 r1]) ∧ Below w.heap.size w w' := by
  rw [← e0.out, ← e1.out]; exact multiply_any x y w bx0 bx by0 by1

theorem Mul_any (a b h l : Int) (w : World) (ha : Fit1 a) (hb : Fit1 b) (bd : Bd h l) (hn : num h l = a * b) :
    Calls Try.prog 26 #[.int .i64 a, .int .i64 b] w fun e w' => e = .returned (.agg #[.int .i64 h, .int .u64 l]) ∧ Below w.heap.size w w' := by
  obtain ⟨p0, p1⟩ := prod_size ha hb
  have sa := fun w => size_any a w ha.1 ha.2
  have sb := fun w => size_any b w hb.1 hb.2
  obtain ⟨x, hx⟩ : ∃ s, (a.natAbs : Int) = s := ⟨_, rfl⟩
  obtain ⟨y, hy⟩ : ∃ s, (b.natAbs : Int) = s := ⟨_, rfl⟩
  rw [hx] at sa
  rw [hy] at sb
  have bx : 0 ≤ x ∧ x ≤ 18446744073709551615 := by unfold Fit1 at ha; omega
  have by_ : 0 ≤ y ∧ y ≤ 18446744073709551615 := by unfold Fit1 at hb; omega
  obtain ⟨u0, hu0⟩ : ∃ s, x * y % 18446744073709551616 = s := ⟨_, rfl⟩
  obtain ⟨u1, hu1⟩ : ∃ s, x * y / 18446744073709551616 = s := ⟨_, rfl⟩
  have bu0 : 0 ≤ u0 ∧ u0 ≤ 18446744073709551615 := by omega
  rw [hx, hy] at p0 p1
  have bu1 : 0 ≤ u1 ∧ u1 ≤ 18446744073709551615 := by omega
  have D := fun (c : (a < 0 ∧ 0 ≤ b) ∨ (0 ≤ a ∧ b < 0)) => mul_diff (p := x * y) p0 p1 (by rw [← hx, ← hy]; exact prod_diff c) bd hn
  have E := fun (c : (a < 0 ∧ b < 0) ∨ (0 ≤ a ∧ 0 ≤ b)) => mul_same (p := x * y) p0 p1 (by rw [← hx, ← hy]; exact prod_same c) bd hn
  rw [hu0, hu1] at D E
  replace hu0 := Lib.hid hu0
  replace hu1 := Lib.hid hu1
  clear hx hy hn p0 p1 ha hb
  by_cases s : (a < 0 ∧ b < 0) ∨ (0 ≤ a ∧ 0 ≤ b)
  · obtain ⟨d0, d1⟩ := E s
    replace d1 := Lib.hid d1
    subst d0
    clear E D
    have cs : (decide (a < 0) = true ∧ decide (b < 0) = true) ∨ (decide (a < 0) = false ∧ decide (b < 0) = false) := by
      simp only [decide_eq_true_eq, decide_eq_false_iff_not]; omega
    clear s
    rcases cs with ⟨s1, s2⟩ | ⟨s1, s2⟩
    all_goals
      go_enter Try.func26, Try.ntmps26
      go_wp2_with fail
      refine (sa _).mono ?_
      rintro e w' ⟨rfl, rfl⟩
      go_wp2_with fail
      refine (sb _).mono ?_
      rintro e w' ⟨rfl, rfl⟩
      go_wp2_with fail
      refine (multiply_to _ _ _ _ _ bx.1 bx.2 by_.1 by_.2 hu0 hu1).mono ?_
      rintro e w1 ⟨rfl, hb1⟩
      obtain ⟨hc1, hf1⟩ := bcell hb1
      have z1 : w.heap.size < w1.heap.size := by have := hb1.size; simp at this; omega
      go_wp2_with fail
      refine (wide_to _ _ h _ d1).mono ?_
      rintro e w2 ⟨rfl, hb2⟩
      have hbs := hb2.size
      obtain ⟨hc2, hf2⟩ := bcell hb2
      have k0' : w2.cell? ⟨w.heap.size, 0, none⟩ = some (.int .i64 0) := by rw [hc2 _ _ (by simp <;> omega)]; simp [z1, hc1, go_sem]
      have k1' : w2.cell? ⟨w.heap.size, 1, none⟩ = some (.int .u64 0) := by rw [hc2 _ _ (by simp <;> omega)]; simp [z1, hc1, go_sem]
      have f0' : w2.frozen? ⟨w.heap.size, 0, none⟩ = false := by rw [hf2 _ _ (by simp <;> omega)]; simp [z1, hf1, go_sem]
      have f1' : w2.frozen? ⟨w.heap.size, 1, none⟩ = false := by rw [hf2 _ _ (by simp <;> omega)]; simp [z1, hf1, go_sem]
      clear hc2 hf2 hc1 hf1
      go_wp2
      refine bodyPost_ret (v := .agg #[.int .i64 h, .int .u64 u0]) (by simp [results, Try.results26, go_sem, k0', k1']) rfl ⟨rfl, ?_⟩
      exact (((((Below.refl _ _).alloc (Nat.le_refl _) _).trans (hb1.mono (by simp))).alloc (by omega) _).trans (hb2.mono (by simp; omega))).setCell (by simp) _ |>.setCell (by simp) _
  · obtain ⟨d0, d1⟩ := D (by omega)
    obtain ⟨t1, ht1⟩ : ∃ s, (18446744073709551615 - u1 + (18446744073709551616 - u0) / 18446744073709551616) % 18446744073709551616 = s := ⟨_, rfl⟩
    rw [ht1] at d1
    replace d0 := Lib.hid d0
    replace d1 := Lib.hid d1
    replace ht1 := Lib.hid ht1
    clear E D
    have cs : (decide (a < 0) = true ∧ decide (b < 0) = false) ∨ (decide (a < 0) = false ∧ decide (b < 0) = true) := by
      simp only [decide_eq_true_eq, decide_eq_false_iff_not]; omega
    clear s
    rcases cs with ⟨s1, s2⟩ | ⟨s1, s2⟩
    all_goals
      go_enter Try.func26, Try.ntmps26
      go_wp2_with fail
      refine (sa _).mono ?_
      rintro e w' ⟨rfl, rfl⟩
      go_wp2_with fail
      refine (sb _).mono ?_
      rintro e w' ⟨rfl, rfl⟩
      go_wp2_with fail
      refine (multiply_to _ _ _ _ _ bx.1 bx.2 by_.1 by_.2 hu0 hu1).mono ?_
      rintro e w1 ⟨rfl, hb1⟩
      obtain ⟨hc1, hf1⟩ := bcell hb1
      have z1 : w.heap.size < w1.heap.size := by have := hb1.size; simp at this; omega
      go_wp2_with fail
      refine (opposite_to _ _ l t1 _ bu0.1 bu0.2 bu1.1 bu1.2 d0 ht1).mono ?_
      rintro e w3 ⟨rfl, hb3⟩
      obtain ⟨hc3, hf3⟩ := bcell hb3
      have z3 : w1.heap.size < w3.heap.size := by have := hb3.size; simp at this; omega
      have z4 : w.heap.size < w3.heap.size := by omega
      have z5 : ¬ w.heap.size = w1.heap.size := by omega
      have k0 : w3.cell? ⟨w.heap.size, 0, none⟩ = some (.int .i64 0) := by simp [hc3, hc1, z1, go_sem]
      have k1 : w3.cell? ⟨w.heap.size, 1, none⟩ = some (.int .u64 0) := by simp [hc3, hc1, z1, go_sem]
      have f0 : w3.frozen? ⟨w.heap.size, 0, none⟩ = false := by simp [hf3, hf1, z1, go_sem]
      have f1 : w3.frozen? ⟨w.heap.size, 1, none⟩ = false := by simp [hf3, hf1, z1, go_sem]
      have b3 : Below w.heap.size w w3 := ((((Below.refl _ _).alloc (Nat.le_refl _) _).trans (hb1.mono (by simp))).alloc (by omega) _).trans (hb3.mono (by simp; omega))
      go_wp2_with fail
      refine (wide_to _ _ h _ d1).mono ?_
      rintro e w2 ⟨rfl, hb2⟩
      have hbs := hb2.size
      obtain ⟨hc2, hf2⟩ := bcell hb2
      have k0' : w2.cell? ⟨w.heap.size, 0, none⟩ = some (.int .i64 0) := by rw [hc2 _ _ (by simp <;> omega)]; simp [k0, go_sem]
      have k1' : w2.cell? ⟨w.heap.size, 1, none⟩ = some (.int .u64 0) := by rw [hc2 _ _ (by simp <;> omega)]; simp [k1, go_sem]
      have f0' : w2.frozen? ⟨w.heap.size, 0, none⟩ = false := by rw [hf2 _ _ (by simp <;> omega)]; simp [f0, go_sem]
      have f1' : w2.frozen? ⟨w.heap.size, 1, none⟩ = false := by rw [hf2 _ _ (by simp <;> omega)]; simp [f1, go_sem]
      clear hc2 hf2 hc1 hf1 hc3 hf3
      go_wp2
      refine bodyPost_ret (v := .agg #[.int .i64 h, .int .u64 l]) (by simp [results, Try.results26, go_sem, k0', k1']) rfl ⟨rfl, ?_⟩
      exact ((b3.setCell (by simp <;> omega) _).setCell (by simp <;> omega) _).trans (hb2.mono (by simp <;> omega)) |>.setCell (by simp) _ |>.setCell (by simp) _

end Go.Proofs.Ytodpmdmfdnbehab.Vc
