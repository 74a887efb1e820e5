/- Texts of this claim, joined: Vmul, Vmath4, Wmath, Ucode, Vdiv, Vmath5, Vsum, Llive, Vmath6, Lmd, Smath2, Sall, Sprog, Sprog2, Slaw, Rmath, Rput, Rof, Rback, Rcmp, Rmath2, Rplus. -/
import Derived.Test.YtodpmdmfdnbehabG01
import Derived.RowKit
import Derived.Test.YtodpmdmfdnbehabChecked
import Derived.WalkKit
import Derived.RowKit3
import Derived.Deep.QuietTactic
import Derived.BigQuiet
import Derived.Lib.Hide
import Derived.Deep.RegionLaw
/- What multiply and Mul of package wide come to. -/
namespace Go.Proofs.Ytodpmdmfdnbehab.Vc
set_option linter.unusedSimpArgs false
set_option linter.unusedVariables false
open Go.RowKit Go.Proofs.Ytodpmdmfdnbehab.Vm

set_option maxHeartbeats 400000

theorem low_to (a r : Int) (w : World) (h1 : 0 ≤ a) (h2 : a ≤ 18446744073709551615) (e : Hid (a % 4294967296 = r)) :
    Calls Try.prog 64 #[.int .u64 a] w fun e w' => e = .returned (.int .u64 r) ∧ w = w' := by
  rw [← e.out]; exact lowHalf_any a w h1 h2
theorem high_to (a r : Int) (w : World) (h1 : 0 ≤ a) (h2 : a ≤ 18446744073709551615) (e : Hid (a / 4294967296 = r)) :
    Calls Try.prog 65 #[.int .u64 a] w fun e w' => e = .returned (.int .u64 r) ∧ w = w' := by
  rw [← e.out]; exact highHalf_any a w h1 h2

set_option maxHeartbeats 1000000 in
theorem multiply_any (x y : Int) (w : World) (bx0 : 0 ≤ x) (bx : x ≤ 18446744073709551615) (by0 : 0 ≤ y) (by1 : y ≤ 18446744073709551615) :
    Calls Try.prog 53 #[.int .u64 x, .int .u64 y] w fun e w' =>
      e = .returned (.agg #[.int .u64 (x * y % 18446744073709551616), .int .u64 (x * y / 18446744073709551616)]) ∧ Below w.heap.size w w' := by
  obtain ⟨xl, hxl⟩ : ∃ s, x % 4294967296 = s := ⟨_, rfl⟩
  obtain ⟨xh, hxh⟩ : ∃ s, x / 4294967296 = s := ⟨_, rfl⟩
  obtain ⟨yl, hyl⟩ : ∃ s, y % 4294967296 = s := ⟨_, rfl⟩
  obtain ⟨yh, hyh⟩ : ∃ s, y / 4294967296 = s := ⟨_, rfl⟩
  have c1 : 0 ≤ xl ∧ xl ≤ 4294967295 := by omega
  have c2 : 0 ≤ xh ∧ xh ≤ 4294967295 := by omega
  have c3 : 0 ≤ yl ∧ yl ≤ 4294967295 := by omega
  have c4 : 0 ≤ yh ∧ yh ≤ 4294967295 := by omega
  obtain ⟨p1, p2⟩ := half_prod c1.1 c1.2 c3.1 c3.2
  obtain ⟨p3, p4⟩ := half_prod c2.1 c2.2 c3.1 c3.2
  obtain ⟨p5, p6⟩ := half_prod c1.1 c1.2 c4.1 c4.2
  obtain ⟨p7, p8⟩ := half_prod c2.1 c2.2 c4.1 c4.2
  obtain ⟨ll, hll⟩ : ∃ s, xl * yl % 4294967296 = s := ⟨_, rfl⟩
  obtain ⟨lh, hlh⟩ : ∃ s, xl * yl / 4294967296 = s := ⟨_, rfl⟩
  have c5 : 0 ≤ lh ∧ lh ≤ 4294967294 := by omega
  have c5' : 0 ≤ ll ∧ ll ≤ 4294967295 := by omega
  obtain ⟨fl, hfl⟩ : ∃ s, (xh * yl + lh) % 4294967296 = s := ⟨_, rfl⟩
  obtain ⟨fh, hfh⟩ : ∃ s, (xh * yl + lh) / 4294967296 = s := ⟨_, rfl⟩
  have c6 : 0 ≤ fl ∧ fl ≤ 4294967295 := by omega
  have c7 : 0 ≤ fh ∧ fh ≤ 4294967295 := by omega
  obtain ⟨sl, hsl⟩ : ∃ s, (xl * yh + fl) % 4294967296 = s := ⟨_, rfl⟩
  obtain ⟨sh, hsh⟩ : ∃ s, (xl * yh + fl) / 4294967296 = s := ⟨_, rfl⟩
  have c8 : 0 ≤ sh ∧ sh ≤ 4294967295 := by omega
  have c9 : 0 ≤ sl ∧ sl ≤ 4294967295 := by omega
  have P := prod_halves (x := x) (y := y) (xl := xl) (xh := xh) (yl := yl) (yh := yh) (lh := lh) (ll := ll) (fl := fl) (fh := fh) (sh := sh) (sl := sl) (by omega) (by omega) (by omega) (by omega) (by omega)
  have q1 : xh * yh + fh + sh ≤ 18446744073709551615 := by
    have l1 : x * y ≤ 18446744073709551615 * y := Int.mul_le_mul_of_nonneg_right bx by0
    omega
  have R0 := Lib.hid (show x * y % 18446744073709551616 = sl * 4294967296 + ll by omega)
  have R1 := Lib.hid (show x * y / 18446744073709551616 = xh * yh + fh + sh by omega)
  have q2 : xl * yh + fl ≤ 18446744073709551615 := by omega
  have q3 : xh * yl + lh ≤ 18446744073709551615 := by omega
  have q4 : 0 ≤ xh * yl + lh := by omega
  have q5 : 0 ≤ xl * yh + fl := by omega
  have SH := Lib.hid (show (xl * yh + fl) * 4294967296 % 18446744073709551616 = sl * 4294967296 by omega)
  have orf : bits .or .u64 (sl * 4294967296) ll = sl * 4294967296 + ll := or_half (by omega) (by omega) (by omega) c5'.1 c5'.2
  clear P
  obtain ⟨c51, c52⟩ := c5
  obtain ⟨c61, c62⟩ := c6
  obtain ⟨c71, c72⟩ := c7
  obtain ⟨c81, c82⟩ := c8
  replace hxl := Lib.hid hxl
  replace hxh := Lib.hid hxh
  replace hyl := Lib.hid hyl
  replace hyh := Lib.hid hyh
  replace hll := Lib.hid hll
  replace hlh := Lib.hid hlh
  replace hfl := Lib.hid hfl
  replace hfh := Lib.hid hfh
  replace hsl := Lib.hid hsl
  replace hsh := Lib.hid hsh
  rw [R0.out, R1.out]
  have p9 : xl * yl ≤ 18446744073709551615 := by omega
  clear c1 c2 c3 c4 c5' c9
  go_enter Try.func53, Try.ntmps53
  go_wp2_with fail
  refine (low_to x _ _ bx0 bx hxl).mono ?_
  rintro e w' ⟨rfl, rfl⟩
  go_wp2_with fail
  refine (low_to y _ _ by0 by1 hyl).mono ?_
  rintro e w' ⟨rfl, rfl⟩
  go_wp2_with fail
  refine (high_to x _ _ bx0 bx hxh).mono ?_
  rintro e w' ⟨rfl, rfl⟩
  go_wp2_with fail
  refine (low_to y _ _ by0 by1 hyl).mono ?_
  rintro e w' ⟨rfl, rfl⟩
  go_wp2_with fail
  refine (high_to (xl * yl) _ _ p1 p9 hlh).mono ?_
  rintro e w' ⟨rfl, rfl⟩
  go_wp2_with fail
  refine (low_to x _ _ bx0 bx hxl).mono ?_
  rintro e w' ⟨rfl, rfl⟩
  go_wp2_with fail
  refine (high_to y _ _ by0 by1 hyh).mono ?_
  rintro e w' ⟨rfl, rfl⟩
  go_wp2_with fail
  refine (low_to (xh * yl + lh) _ _ q4 q3 hfl).mono ?_
  rintro e w' ⟨rfl, rfl⟩
  go_wp2_with fail
  refine (high_to x _ _ bx0 bx hxh).mono ?_
  rintro e w' ⟨rfl, rfl⟩
  go_wp2_with fail
  refine (high_to y _ _ by0 by1 hyh).mono ?_
  rintro e w' ⟨rfl, rfl⟩
  go_wp2_with fail
  refine (high_to (xh * yl + lh) _ _ q4 q3 hfh).mono ?_
  rintro e w' ⟨rfl, rfl⟩
  go_wp2_with fail
  refine (high_to (xl * yh + fl) _ _ q5 q2 hsh).mono ?_
  rintro e w' ⟨rfl, rfl⟩
  go_wp2_with fail
  refine (low_to (xl * yl) _ _ p1 p9 hll).mono ?_
  rintro e w' ⟨rfl, rfl⟩
  go_wp2
  refine bodyPost_ret (v := .agg #[.int .u64 (bits BinOp.or IntKind.u64 (IntKind.u64.wrap ((xl * yh + fl) * 4294967296)) ll), .int .u64 (xh * yh + fh + sh)]) (by simp [results, Try.results53, go_sem]) rfl ⟨ret_agg (by rw [IntKind.wrap_u64, SH.out, orf]) rfl, ?_⟩
  exact (Below.refl _ _).alloc (Nat.le_refl _) _

theorem multiply_to (x y r0 r1 : Int) (w : World) (bx0 : 0 ≤ x) (bx : x ≤ 18446744073709551615) (by0 : 0 ≤ y) (by1 : y ≤ 18446744073709551615)
    (e0 : Hid (x * y % 18446744073709551616 = r0)) (e1 : Hid (x * y / 18446744073709551616 = r1)) :
    Calls Try.prog 53 #[.int .u64 x, .int .u64 y] w fun e w' => e = .returned (.agg #[.int .u64 r0, .int .u64 r1]) ∧ Below w.heap.size w w' := by
  rw [← e0.out, ← e1.out]; exact multiply_any x y w bx0 bx by0 by1

theorem Mul_any (a b h l : Int) (w : World) (ha : Fit1 a) (hb : Fit1 b) (bd : Bd h l) (hn : num h l = a * b) :
    Calls Try.prog 26 #[.int .i64 a, .int .i64 b] w fun e w' => e = .returned (.agg #[.int .i64 h, .int .u64 l]) ∧ Below w.heap.size w w' := by
  obtain ⟨p0, p1⟩ := prod_size ha hb
  have sa := fun w => size_any a w ha.1 ha.2
  have sb := fun w => size_any b w hb.1 hb.2
  obtain ⟨x, hx⟩ : ∃ s, (a.natAbs : Int) = s := ⟨_, rfl⟩
  obtain ⟨y, hy⟩ : ∃ s, (b.natAbs : Int) = s := ⟨_, rfl⟩
  rw [hx] at sa
  rw [hy] at sb
  have bx : 0 ≤ x ∧ x ≤ 18446744073709551615 := by unfold Fit1 at ha; omega
  have by_ : 0 ≤ y ∧ y ≤ 18446744073709551615 := by unfold Fit1 at hb; omega
  obtain ⟨u0, hu0⟩ : ∃ s, x * y % 18446744073709551616 = s := ⟨_, rfl⟩
  obtain ⟨u1, hu1⟩ : ∃ s, x * y / 18446744073709551616 = s := ⟨_, rfl⟩
  have bu0 : 0 ≤ u0 ∧ u0 ≤ 18446744073709551615 := by omega
  rw [hx, hy] at p0 p1
  have bu1 : 0 ≤ u1 ∧ u1 ≤ 18446744073709551615 := by omega
  have D := fun (c : (a < 0 ∧ 0 ≤ b) ∨ (0 ≤ a ∧ b < 0)) => mul_diff (p := x * y) p0 p1 (by rw [← hx, ← hy]; exact prod_diff c) bd hn
  have E := fun (c : (a < 0 ∧ b < 0) ∨ (0 ≤ a ∧ 0 ≤ b)) => mul_same (p := x * y) p0 p1 (by rw [← hx, ← hy]; exact prod_same c) bd hn
  rw [hu0, hu1] at D E
  replace hu0 := Lib.hid hu0
  replace hu1 := Lib.hid hu1
  clear hx hy hn p0 p1 ha hb
  by_cases s : (a < 0 ∧ b < 0) ∨ (0 ≤ a ∧ 0 ≤ b)
  · obtain ⟨d0, d1⟩ := E s
    replace d1 := Lib.hid d1
    subst d0
    clear E D
    have cs : (decide (a < 0) = true ∧ decide (b < 0) = true) ∨ (decide (a < 0) = false ∧ decide (b < 0) = false) := by
      simp only [decide_eq_true_eq, decide_eq_false_iff_not]; omega
    clear s
    rcases cs with ⟨s1, s2⟩ | ⟨s1, s2⟩
    all_goals
      go_enter Try.func26, Try.ntmps26
      go_wp2_with fail
      refine (sa _).mono ?_
      rintro e w' ⟨rfl, rfl⟩
      go_wp2_with fail
      refine (sb _).mono ?_
      rintro e w' ⟨rfl, rfl⟩
      go_wp2_with fail
      refine (multiply_to _ _ _ _ _ bx.1 bx.2 by_.1 by_.2 hu0 hu1).mono ?_
      rintro e w1 ⟨rfl, hb1⟩
      obtain ⟨hc1, hf1⟩ := bcell hb1
      have z1 : w.heap.size < w1.heap.size := by have := hb1.size; simp at this; omega
      go_wp2_with fail
      refine (wide_to _ _ h _ d1).mono ?_
      rintro e w2 ⟨rfl, hb2⟩
      have hbs := hb2.size
      obtain ⟨hc2, hf2⟩ := bcell hb2
      have k0' : w2.cell? ⟨w.heap.size, 0, none⟩ = some (.int .i64 0) := by rw [hc2 _ _ (by simp <;> omega)]; simp [z1, hc1, go_sem]
      have k1' : w2.cell? ⟨w.heap.size, 1, none⟩ = some (.int .u64 0) := by rw [hc2 _ _ (by simp <;> omega)]; simp [z1, hc1, go_sem]
      have f0' : w2.frozen? ⟨w.heap.size, 0, none⟩ = false := by rw [hf2 _ _ (by simp <;> omega)]; simp [z1, hf1, go_sem]
      have f1' : w2.frozen? ⟨w.heap.size, 1, none⟩ = false := by rw [hf2 _ _ (by simp <;> omega)]; simp [z1, hf1, go_sem]
      clear hc2 hf2 hc1 hf1
      go_wp2
      refine bodyPost_ret (v := .agg #[.int .i64 h, .int .u64 u0]) (by simp [results, Try.results26, go_sem, k0', k1']) rfl ⟨rfl, ?_⟩
      exact (((((Below.refl _ _).alloc (Nat.le_refl _) _).trans (hb1.mono (by simp))).alloc (by omega) _).trans (hb2.mono (by simp; omega))).setCell (by simp) _ |>.setCell (by simp) _
  · obtain ⟨d0, d1⟩ := D (by omega)
    obtain ⟨t1, ht1⟩ : ∃ s, (18446744073709551615 - u1 + (18446744073709551616 - u0) / 18446744073709551616) % 18446744073709551616 = s := ⟨_, rfl⟩
    rw [ht1] at d1
    replace d0 := Lib.hid d0
    replace d1 := Lib.hid d1
    replace ht1 := Lib.hid ht1
    clear E D
    have cs : (decide (a < 0) = true ∧ decide (b < 0) = false) ∨ (decide (a < 0) = false ∧ decide (b < 0) = true) := by
      simp only [decide_eq_true_eq, decide_eq_false_iff_not]; omega
    clear s
    rcases cs with ⟨s1, s2⟩ | ⟨s1, s2⟩
    all_goals
      go_enter Try.func26, Try.ntmps26
      go_wp2_with fail
      refine (sa _).mono ?_
      rintro e w' ⟨rfl, rfl⟩
      go_wp2_with fail
      refine (sb _).mono ?_
      rintro e w' ⟨rfl, rfl⟩
      go_wp2_with fail
      refine (multiply_to _ _ _ _ _ bx.1 bx.2 by_.1 by_.2 hu0 hu1).mono ?_
      rintro e w1 ⟨rfl, hb1⟩
      obtain ⟨hc1, hf1⟩ := bcell hb1
      have z1 : w.heap.size < w1.heap.size := by have := hb1.size; simp at this; omega
      go_wp2_with fail
      refine (opposite_to _ _ l t1 _ bu0.1 bu0.2 bu1.1 bu1.2 d0 ht1).mono ?_
      rintro e w3 ⟨rfl, hb3⟩
      obtain ⟨hc3, hf3⟩ := bcell hb3
      have z3 : w1.heap.size < w3.heap.size := by have := hb3.size; simp at this; omega
      have z4 : w.heap.size < w3.heap.size := by omega
      have z5 : ¬ w.heap.size = w1.heap.size := by omega
      have k0 : w3.cell? ⟨w.heap.size, 0, none⟩ = some (.int .i64 0) := by simp [hc3, hc1, z1, go_sem]
      have k1 : w3.cell? ⟨w.heap.size, 1, none⟩ = some (.int .u64 0) := by simp [hc3, hc1, z1, go_sem]
      have f0 : w3.frozen? ⟨w.heap.size, 0, none⟩ = false := by simp [hf3, hf1, z1, go_sem]
      have f1 : w3.frozen? ⟨w.heap.size, 1, none⟩ = false := by simp [hf3, hf1, z1, go_sem]
      have b3 : Below w.heap.size w w3 := ((((Below.refl _ _).alloc (Nat.le_refl _) _).trans (hb1.mono (by simp))).alloc (by omega) _).trans (hb3.mono (by simp; omega))
      go_wp2_with fail
      refine (wide_to _ _ h _ d1).mono ?_
      rintro e w2 ⟨rfl, hb2⟩
      have hbs := hb2.size
      obtain ⟨hc2, hf2⟩ := bcell hb2
      have k0' : w2.cell? ⟨w.heap.size, 0, none⟩ = some (.int .i64 0) := by rw [hc2 _ _ (by simp <;> omega)]; simp [k0, go_sem]
      have k1' : w2.cell? ⟨w.heap.size, 1, none⟩ = some (.int .u64 0) := by rw [hc2 _ _ (by simp <;> omega)]; simp [k1, go_sem]
      have f0' : w2.frozen? ⟨w.heap.size, 0, none⟩ = false := by rw [hf2 _ _ (by simp <;> omega)]; simp [f0, go_sem]
      have f1' : w2.frozen? ⟨w.heap.size, 1, none⟩ = false := by rw [hf2 _ _ (by simp <;> omega)]; simp [f1, go_sem]
      clear hc2 hf2 hc1 hf1 hc3 hf3
      go_wp2
      refine bodyPost_ret (v := .agg #[.int .i64 h, .int .u64 l]) (by simp [results, Try.results26, go_sem, k0', k1']) rfl ⟨rfl, ?_⟩
      exact ((b3.setCell (by simp <;> omega) _).setCell (by simp <;> omega) _).trans (hb2.mono (by simp <;> omega)) |>.setCell (by simp) _ |>.setCell (by simp) _

end Go.Proofs.Ytodpmdmfdnbehab.Vc

/- Plain facts on dividing two words bit by bit; nothing of the program. -/
namespace Go.Proofs.Ytodpmdmfdnbehab.Vm
set_option linter.unusedSimpArgs false
set_option linter.unusedVariables false
open Go.RowKit (wrap32 wrap64)

/-- after k bits: what was divided of T, what is left, and what is still to come (in the word l) -/
def DI (T b : Int) (k : Nat) (r l q : Int) : Prop :=
  0 ≤ r ∧ r < b ∧ 0 ≤ q ∧ q < 2 ^ k ∧ ∃ t : Int, 0 ≤ t ∧ t < 2 ^ (64 - k) ∧ l = t * 2 ^ k ∧ T = (q * b + r) * 2 ^ (64 - k) + t

theorem di_start {b r l : Int} (h0 : 0 ≤ r) (h1 : r < b) (h2 : 0 ≤ l) (h3 : l ≤ 18446744073709551615) : DI (r * 18446744073709551616 + l) b 0 r l 0 :=
  ⟨h0, h1, Int.le_refl _, by omega, l, h2, by omega, by omega, by rw [Int.zero_mul, Int.zero_add]; rfl⟩

theorem di_end {T b r l q : Int} (h : DI T b 64 r l q) : T = q * b + r ∧ 0 ≤ r ∧ r < b ∧ 0 ≤ q ∧ q ≤ 18446744073709551615 := by
  obtain ⟨h0, h1, h2, h3, t, h4, h5, _, h6⟩ := h
  have e : (2 : Int) ^ (64 - 64) = 1 := rfl
  rw [e] at h5 h6
  have e2 : (2 : Int) ^ 64 = 18446744073709551616 := rfl
  rw [e2] at h3
  exact ⟨by omega, h0, h1, h2, by omega⟩

theorem div_same {q b r q' r' : Int} (h : q * b + r = q' * b + r') (h1 : 0 ≤ r) (h2 : r < b) (h3 : 0 ≤ r') (h4 : r' < b) : q = q' ∧ r = r' := by
  have e1 : (q * b + r) / b = q := by rw [Int.add_comm, Int.add_mul_ediv_right _ _ (by omega), Int.ediv_eq_zero_of_lt h1 h2, Int.zero_add]
  have e2 : (q' * b + r') / b = q' := by rw [Int.add_comm, Int.add_mul_ediv_right _ _ (by omega), Int.ediv_eq_zero_of_lt h3 h4, Int.zero_add]
  have e : q = q' := by rw [← e1, ← e2, h]
  subst e
  exact ⟨rfl, by omega⟩

theorem pow_split (k : Nat) (hk : k < 64) : ∃ P m : Int, (2 : Int) ^ (64 - k) = 2 * P ∧ (2 : Int) ^ (64 - (k + 1)) = P ∧ (2 : Int) ^ k = m ∧ (2 : Int) ^ (k + 1) = 2 * m ∧ P * m = 9223372036854775808 ∧ 0 < P ∧ 0 < m := by
  refine ⟨2 ^ (63 - k), 2 ^ k, ?_, ?_, rfl, ?_, ?_, ?_, ?_⟩
  · have : 64 - k = (63 - k) + 1 := by omega
    rw [this, Int.pow_succ, Int.mul_comm]
  · have : 64 - (k + 1) = 63 - k := by omega
    rw [this]
  · rw [Int.pow_succ, Int.mul_comm]
  · rw [← Int.pow_add]
    have : 63 - k + k = 63 := by omega
    rw [this]; rfl
  · exact Int.pow_pos (by omega)
  · exact Int.pow_pos (by omega)

/-- one bit more -/
theorem di_step {T b r l q : Int} {k : Nat} (hk : k < 64) (h : DI T b k r l q) :
    0 ≤ r ∧ r < b ∧ 0 ≤ l ∧ l ≤ 18446744073709551615 ∧ 0 ≤ q ∧ q ≤ 9223372036854775807 ∧ ∃ bit l' : Int, l / 9223372036854775808 = bit ∧ 0 ≤ bit ∧ bit ≤ 1 ∧ IntKind.u64.wrap (l * 2) = l' ∧
      (b ≤ r * 2 + bit → DI T b (k + 1) (r * 2 + bit - b) l' (q * 2 + 1)) ∧ (r * 2 + bit < b → DI T b (k + 1) (r * 2 + bit) l' (q * 2)) := by
  obtain ⟨P, m, e1, e2, e3, e4, e5, hP, hm⟩ := pow_split k hk
  unfold DI at h ⊢
  obtain ⟨h0, h1, h2, h3, t, h4, h5, h6, h7⟩ := h
  rw [e1] at h5 h7
  rw [e3] at h3 h6
  rw [e2, e4]
  have hm2 : m ≤ 9223372036854775808 := by
    have : 1 * m ≤ P * m := Int.mul_le_mul_of_nonneg_right (by omega) (by omega)
    omega
  have ex : (q * b + r) * (2 * P) = 2 * ((q * b + r) * P) := by rw [← Int.mul_assoc, Int.mul_comm _ 2, Int.mul_assoc]
  have eq1 : (q * 2 + 1) * b = 2 * (q * b) + b := by rw [Int.add_mul, Int.one_mul, Int.mul_right_comm, Int.mul_comm _ 2]
  have eq2 : q * 2 * b = 2 * (q * b) := by rw [Int.mul_right_comm, Int.mul_comm _ 2]
  have ey : ∀ c : Int, (2 * (q * b + r) + c) * P = 2 * ((q * b + r) * P) + c * P := fun c => by rw [Int.add_mul, Int.mul_assoc]
  by_cases c : t < P
  · have l1 : 0 ≤ t * m := Int.mul_nonneg h4 (by omega)
    have l2 : t * m < P * m := Int.mul_lt_mul_of_pos_right c hm
    refine ⟨h0, h1, by omega, by omega, h2, by omega, 0, l * 2, by omega, by omega, by omega, by rw [IntKind.wrap_u64]; omega, fun hc => ?_, fun hc => ?_⟩
    · refine ⟨by omega, by omega, by omega, by omega, t, h4, c, by rw [h6, Int.mul_comm 2 m, ← Int.mul_assoc], ?_⟩
      rw [h7, ex, eq1]
      have := ey 0
      rw [Int.zero_mul] at this
      have e9 : 2 * (q * b) + b + (r * 2 + 0 - b) = 2 * (q * b + r) + 0 := by omega
      rw [e9, this]; omega
    · refine ⟨by omega, by omega, by omega, by omega, t, h4, c, by rw [h6, Int.mul_comm 2 m, ← Int.mul_assoc], ?_⟩
      rw [h7, ex, eq2]
      have := ey 0
      rw [Int.zero_mul] at this
      have e9 : 2 * (q * b) + (r * 2 + 0) = 2 * (q * b + r) + 0 := by omega
      rw [e9, this]; omega
  · obtain ⟨s, rfl⟩ : ∃ s, t = P + s := ⟨t - P, by omega⟩
    rw [Int.add_mul] at h6
    have l1 : 0 ≤ s * m := Int.mul_nonneg (by omega) (by omega)
    have l2 : s * m < P * m := Int.mul_lt_mul_of_pos_right (by omega) hm
    refine ⟨h0, h1, by omega, by omega, h2, by omega, 1, s * (2 * m), by omega, by omega, by omega, by rw [IntKind.wrap_u64, h6, Int.mul_comm 2 m, ← Int.mul_assoc]; omega, fun hc => ?_, fun hc => ?_⟩
    · refine ⟨by omega, by omega, by omega, by omega, s, by omega, by omega, rfl, ?_⟩
      rw [h7, ex, eq1]
      have := ey 1
      rw [Int.one_mul] at this
      have e9 : 2 * (q * b) + b + (r * 2 + 1 - b) = 2 * (q * b + r) + 1 := by omega
      rw [e9, this]; omega
    · refine ⟨by omega, by omega, by omega, by omega, s, by omega, by omega, rfl, ?_⟩
      rw [h7, ex, eq2]
      have := ey 1
      rw [Int.one_mul] at this
      have e9 : 2 * (q * b) + (r * 2 + 1) = 2 * (q * b + r) + 1 := by omega
      rw [e9, this]; omega

/-- the high word divided, and what is left of it, with the low word, divided -/
theorem div_two {h1 l1 b qh rh h l r : Int} (eh : qh * b + rh = h1) (rh0 : 0 ≤ rh) (rh1 : rh < b) (a3 : 0 ≤ l1) (a4 : l1 ≤ 18446744073709551615) (bd : Bd h l)
    (e : num h l * b + r = num h1 l1) (r0 : 0 ≤ r) (r1 : r < b) : qh = h ∧ rh * 18446744073709551616 + l1 = l * b + r := by
  unfold Bd at bd
  unfold num at e
  have ex : (h * 18446744073709551616 + l) * b = h * b * 18446744073709551616 + l * b := by rw [Int.add_mul, Int.mul_right_comm]
  have l0 : 0 ≤ l * b := Int.mul_nonneg bd.2.2.1 (by omega)
  have l2 : l * b ≤ 18446744073709551615 * b := Int.mul_le_mul_of_nonneg_right bd.2.2.2 (by omega)
  -- what is left of the high word beside h times b is 0 to b less 1
  have hq := div_same (q := qh) (r := rh) (q' := h) (r' := h1 - h * b) (b := b) (by omega) rh0 rh1 (by omega) (by omega)
  refine ⟨hq.1, ?_⟩
  have := hq.2
  omega

end Go.Proofs.Ytodpmdmfdnbehab.Vm

/- Plain facts about whole numbers that fit in 64 bits; nothing of the program. -/
namespace Go.Proofs.Ytodpmdmfdnbehab.Wm
set_option linter.unusedSimpArgs false
set_option linter.unusedVariables false
open Go.RowKit (wrap32 wrap64)

/-- the number fits in 64 bits -/
def Fit (x : Int) : Prop := -9223372036854775808 ≤ x ∧ x ≤ 9223372036854775807
instance (x : Int) : Decidable (Fit x) := by unfold Fit; infer_instance

theorem fit_wrap {x : Int} (h : Fit x) : wrap64 x = x := by unfold Fit at h; unfold wrap64; omega
theorem wrap_fit (x : Int) : Fit (wrap64 x) := by unfold Fit wrap64; omega
theorem fit_of {x : Int} (h1 : -9223372036854775808 ≤ x) (h2 : x ≤ 9223372036854775807) : Fit x := ⟨h1, h2⟩

/-- sums that do not fit come out on the other side -/
theorem add_high {a b : Int} (ha : Fit a) (hb : Fit b) (h : ¬ Fit (a + b)) (h0 : 0 ≤ a) : 0 ≤ b ∧ wrap64 (a + b) < 0 := by
  unfold Fit at *; unfold wrap64; omega
theorem add_low {a b : Int} (ha : Fit a) (hb : Fit b) (h : ¬ Fit (a + b)) (h0 : a < 0) : b < 0 ∧ 0 ≤ wrap64 (a + b) := by
  unfold Fit at *; unfold wrap64; omega
theorem sub_high {a b : Int} (ha : Fit a) (hb : Fit b) (h : ¬ Fit (a - b)) (h0 : 0 ≤ a) : b < 0 ∧ wrap64 (a - b) < 0 := by
  unfold Fit at *; unfold wrap64; omega
theorem sub_low {a b : Int} (ha : Fit a) (hb : Fit b) (h : ¬ Fit (a - b)) (h0 : a < 0) : 0 ≤ b ∧ 0 ≤ wrap64 (a - b) := by
  unfold Fit at *; unfold wrap64; omega

/-- a product that fits, divided again -/
theorem mul_back {a b : Int} (hb : b ≠ 0) : (a * b).tdiv b = a := Int.mul_tdiv_cancel a hb

theorem wrap_diff (x : Int) : ∃ k : Int, wrap64 x = x - 18446744073709551616 * k := by
  refine ⟨(x + 9223372036854775808) / 18446744073709551616, ?_⟩
  unfold wrap64; omega

theorem tdiv_rem {p a b : Int} (h : p.tdiv b = a) : p = b * a + p.tmod b := by
  have := Int.mul_tdiv_add_tmod p b
  rw [h] at this; omega

theorem tmod_lt {p b : Int} (hb : b ≠ 0) (hf : Fit b) : -9223372036854775808 < p.tmod b ∧ p.tmod b < 9223372036854775808 := by
  have h1 := Int.natAbs_tmod p b
  have h2 : p.natAbs % b.natAbs < b.natAbs := Nat.mod_lt _ (by omega)
  unfold Fit at hf
  omega

/-- a product that does not fit is told by dividing it again -/
theorem mul_over {a b : Int} (hb : b ≠ 0) (hfb : Fit b) (h : ¬ Fit (a * b)) : (wrap64 (a * b)).tdiv b ≠ a := by
  intro e
  have h1 := tdiv_rem e
  have h2 := tmod_lt (p := wrap64 (a * b)) hb hfb
  obtain ⟨k, hk⟩ := wrap_diff (a * b)
  have h3 := wrap_fit (a * b)
  have h4 : b * a = a * b := Int.mul_comm _ _
  rw [h4] at h1
  generalize a * b = p at *
  generalize (wrap64 p).tmod b = r at *
  have hk0 : k = 0 := by omega
  subst hk0
  rw [hk] at h3
  apply h
  simpa using h3

/-! ### quotients -/
theorem tdiv_fit {a b : Int} (ha : Fit a) (h : ¬ (a = -9223372036854775808 ∧ b = -1)) : Fit (a.tdiv b) := by
  have h1 : (a.tdiv b).natAbs = a.natAbs / b.natAbs := Int.natAbs_tdiv a b
  have h2 : a.natAbs / b.natAbs ≤ a.natAbs := Nat.div_le_self _ _
  unfold Fit at *
  by_cases hb : b = -1
  · subst hb
    have h3 : a.tdiv (-1) = -a := by rw [Int.tdiv_neg, Int.tdiv_one]
    omega
  · by_cases hb1 : b.natAbs ≤ 1
    · have : b = 0 ∨ b = 1 := by omega
      rcases this with h | h <;> subst h <;> simp [Int.tdiv_zero, Int.tdiv_one]
      omega
    · have h4 : a.natAbs / b.natAbs ≤ a.natAbs / 2 := Nat.div_le_div_left (by omega) (by omega)
      omega

/-- what Div tells: the greatest whole number not above -/
def dq (a b : Int) : Int := if a.tmod b ≠ 0 ∧ ¬ ((a.tmod b < 0) ↔ (b < 0)) then a.tdiv b - 1 else a.tdiv b
/-- what is left over -/
def dr (a b : Int) : Int := if a.tmod b ≠ 0 ∧ ¬ ((a.tmod b < 0) ↔ (b < 0)) then a.tmod b + b else a.tmod b

theorem dq_dr (a b : Int) : b * dq a b + dr a b = a := by
  have h := Int.mul_tdiv_add_tmod a b
  unfold dq dr
  split
  · rw [Int.mul_sub]; omega
  · exact h

theorem tmod_abs (a : Int) {b : Int} (hb : b ≠ 0) : (a.tmod b).natAbs < b.natAbs := by
  rw [Int.natAbs_tmod]; exact Nat.mod_lt _ (by omega)

theorem dr_pos (a : Int) {b : Int} (hb : 0 < b) : 0 ≤ dr a b ∧ dr a b < b := by
  have := tmod_abs a (b := b) (by omega)
  unfold dr
  generalize a.tmod b = r at *
  split <;> omega

theorem dr_neg (a : Int) {b : Int} (hb : b < 0) : b < dr a b ∧ dr a b ≤ 0 := by
  have := tmod_abs a (b := b) (by omega)
  unfold dr
  generalize a.tmod b = r at *
  split <;> omega

/-- where something is left over the quotient cut towards 0 is small enough to take one away -/
theorem dq_fit {a b : Int} (ha : Fit a) (hb : b ≠ 0) (h : ¬ (a = -9223372036854775808 ∧ b = -1)) : Fit (dq a b) := by
  have h1 := tdiv_fit ha h
  unfold dq
  split
  · rename_i hr
    have h2 : (a.tdiv b).natAbs = a.natAbs / b.natAbs := Int.natAbs_tdiv a b
    have h3 := Int.natAbs_tmod a b
    by_cases hb1 : b.natAbs = 1
    · exfalso
      rw [hb1, Nat.mod_one] at h3
      omega
    · have h4 : a.natAbs / b.natAbs ≤ a.natAbs / 2 := Nat.div_le_div_left (by omega) (by omega)
      unfold Fit at *
      omega
  · exact h1

theorem gcd_step (a b : Int) : Nat.gcd b.natAbs (a.tmod b).natAbs = Nat.gcd a.natAbs b.natAbs := by
  rw [Int.natAbs_tmod, Nat.gcd_comm a.natAbs, Nat.gcd_rec b.natAbs a.natAbs, Nat.gcd_comm]

theorem gcd_zero (a : Int) : Nat.gcd a.natAbs (0 : Int).natAbs = a.natAbs := by simp

end Go.Proofs.Ytodpmdmfdnbehab.Wm

/- What Add, Neg, Mul and Div of package whole come to (XWcode without Sub and Gcd, for seats that lack these). -/
namespace Go.Proofs.Ytodpmdmfdnbehab.Wc
set_option linter.unusedSimpArgs false
set_option linter.unusedVariables false
open Go.RowKit Go.Proofs.Ytodpmdmfdnbehab.Wm

set_option maxHeartbeats 400000

theorem neg_yes (a : Int) (w : World) (h : Fit a) (h1 : a ≠ -9223372036854775808) :
    Calls Try.prog 71 #[.int .i64 a] w fun e w' => e = .returned (.tuple #[.int .i64 (-a), .int .i64 0]) ∧ w = w' := by
  unfold Fit at h
  have d1 : (a == -9223372036854775808) = false := beq_eq_false_iff_ne.2 h1
  have h2 : -9223372036854775807 ≤ a := by omega
  obtain ⟨h3, h4⟩ := h
  clear h1 h3
  go_enter Try.func71, Try.ntmps71
  go_wp2
  go_ret2
  exact ⟨rfl, rfl⟩

theorem neg_no (w : World) :
    Calls Try.prog 71 #[.int .i64 (-9223372036854775808)] w fun e w' => e = .returned (.tuple #[.int .i64 0, .int .i64 2]) ∧ w = w' := by
  go_enter Try.func71, Try.ntmps71
  go_wp2
  go_ret2
  exact ⟨rfl, rfl⟩

/-- the world has at most drawn -/
def Drew (w w' : World) : Prop := ∃ n, w' = w.drewN n

/-- the two tests ahead of the quotient -/
theorem div_tests {a b : Int} (c2 : ¬ (a = -9223372036854775808 ∧ b = -1)) :
    ((a == -9223372036854775808) = true ∧ (b == -1) = false) ∨ ((a == -9223372036854775808) = false ∧ True) := by
  by_cases c7 : a = -9223372036854775808
  · exact Or.inl ⟨beq_iff_eq.2 c7, beq_eq_false_iff_ne.2 (fun h => c2 ⟨c7, h⟩)⟩
  · exact Or.inr ⟨beq_eq_false_iff_ne.2 c7, trivial⟩

theorem div_yes (a b : Int) (w : World) (ha : Fit a) (hb : Fit b) (c1 : b ≠ 0) (c2 : ¬ (a = -9223372036854775808 ∧ b = -1)) :
    Calls Try.prog 51 #[.int .i64 a, .int .i64 b] w fun e w' => e = .returned (.tuple #[.int .i64 (dq a b), .int .i64 (dr a b), .int .i64 0]) ∧ Drew w w' := by
  have d0 : (b == 0) = false := beq_eq_false_iff_ne.2 c1
  have k1 : IntKind.i64.wrap (a.tdiv b) = a.tdiv b := IntWalk.i64_in _ (tdiv_fit ha c2)
  have k2 := dq_fit ha c1 c2
  have k3 : Fit (dr a b) := by
    unfold Fit at *
    by_cases hp : 0 < b
    · have := dr_pos a hp; omega
    · have := dr_neg a (b := b) (by omega); omega
  have fin : ∀ n, Drew w (w.drewN n) := fun n => ⟨n, rfl⟩
  have c8 := div_tests c2
  clear c2 ha hb
  by_cases c3 : a.tmod b ≠ 0 ∧ ¬ ((a.tmod b < 0) ↔ (b < 0))
  · have e1 : dq a b = a.tdiv b - 1 := by unfold dq; rw [if_pos c3]
    have e2 : dr a b = a.tmod b + b := by unfold dr; rw [if_pos c3]
    rw [e1] at k2 ⊢; rw [e2] at k3 ⊢
    clear e1 e2
    obtain ⟨c4, c5⟩ := c3
    have d4 : (a.tmod b != 0) = true := by rw [bne_iff_ne]; exact c4
    unfold Fit at k2 k3
    obtain ⟨k4, k5⟩ := k2
    obtain ⟨k6, k7⟩ := k3
    have c9 : (decide (b < 0) = true ∧ decide (a.tmod b < 0) = false) ∨ (decide (b < 0) = false ∧ decide (a.tmod b < 0) = true) := by
      simp only [decide_eq_true_eq, decide_eq_false_iff_not]; omega
    clear c5 c4
    rcases c9 with ⟨d6, d7⟩ | ⟨d6, d7⟩ <;> rcases c8 with ⟨d8, d9⟩ | ⟨d8, d9⟩
    all_goals
      go_enter Try.func51, Try.ntmps51
      go_wp2
      go_quiet (fail)
      go_wp2
      go_ret3
      exact ⟨rfl, fin _⟩
  · have e1 : dq a b = a.tdiv b := by unfold dq; rw [if_neg c3]
    have e2 : dr a b = a.tmod b := by unfold dr; rw [if_neg c3]
    rw [e1, e2]
    clear e1 e2 k2 k3
    have c9 : ((a.tmod b != 0) = false ∧ True) ∨ ((a.tmod b != 0) = true ∧ decide (b < 0) = true ∧ decide (a.tmod b < 0) = true) ∨ ((a.tmod b != 0) = true ∧ decide (b < 0) = false ∧ decide (a.tmod b < 0) = false) := by
      by_cases c4 : a.tmod b = 0
      · exact Or.inl ⟨by rw [bne_eq_false_iff_eq]; exact c4, trivial⟩
      · have c5 : (a.tmod b < 0) ↔ (b < 0) := by
          by_cases c6 : (a.tmod b < 0) ↔ (b < 0)
          · exact c6
          · exact absurd ⟨c4, c6⟩ c3
        have c7 : (a.tmod b != 0) = true := by rw [bne_iff_ne]; exact c4
        by_cases c6 : b < 0
        · exact Or.inr (Or.inl ⟨c7, decide_eq_true c6, decide_eq_true (c5.2 c6)⟩)
        · exact Or.inr (Or.inr ⟨c7, decide_eq_false c6, decide_eq_false (fun h => c6 (c5.1 h))⟩)
    clear c3
    rcases c9 with ⟨d4, _⟩ | ⟨d4, d6, d7⟩ | ⟨d4, d6, d7⟩ <;> rcases c8 with ⟨d8, d9⟩ | ⟨d8, d9⟩
    all_goals
      go_enter Try.func51, Try.ntmps51
      go_wp2
      go_quiet (fail)
      go_wp2
      go_ret3
      exact ⟨rfl, fin _⟩

theorem div_zero (a : Int) (w : World) :
    Calls Try.prog 51 #[.int .i64 a, .int .i64 0] w fun e w' => e = .returned (.tuple #[.int .i64 0, .int .i64 0, .int .i64 3]) ∧ Drew w w' := by
  have fin : Drew w w := ⟨0, rfl⟩
  go_enter Try.func51, Try.ntmps51
  go_wp2
  go_ret3
  exact ⟨rfl, fin⟩

theorem div_over (w : World) :
    Calls Try.prog 51 #[.int .i64 (-9223372036854775808), .int .i64 (-1)] w fun e w' => e = .returned (.tuple #[.int .i64 0, .int .i64 0, .int .i64 2]) ∧ Drew w w' := by
  have fin : Drew w w := ⟨0, rfl⟩
  go_enter Try.func51, Try.ntmps51
  go_wp2
  go_ret3
  exact ⟨rfl, fin⟩

end Go.Proofs.Ytodpmdmfdnbehab.Wc

/- What divide, Div and MulDiv of package wide come to. -/
namespace Go.Proofs.Ytodpmdmfdnbehab.Vc
set_option linter.unusedSimpArgs false
set_option linter.unusedVariables false
open Go.RowKit Go.Proofs.Ytodpmdmfdnbehab.Vm

set_option maxHeartbeats 400000

theorem divide_any (rest low b q r : Int) (w : World) (h0 : 0 ≤ rest) (h1 : rest < b) (h2 : 0 ≤ low) (h3 : low ≤ 18446744073709551615) (hb : b ≤ 9223372036854775807)
    (e : rest * 18446744073709551616 + low = q * b + r) (h4 : 0 ≤ r) (h5 : r < b) :
    Calls Try.prog 52 #[.int .u64 rest, .int .u64 low, .int .u64 b] w fun e w' => e = .returned (.tuple #[.int .u64 q, .int .u64 r]) ∧ w = w' := by
  obtain ⟨T, hT⟩ : ∃ s, rest * 18446744073709551616 + low = s := ⟨_, rfl⟩
  have st := di_start h0 h1 h2 h3
  rw [hT] at st e
  have E := Lib.hid e
  clear e h0 h1 h2 h3 hT
  go_enter Try.func52, Try.ntmps52
  go_wp2
  go_loop [0, 1, 6, 8] (fun x0 x1 x6 x8 => ∃ (k : Nat) (u l v : Int), k ≤ 64 ∧ x0 = .int .u64 u ∧ x1 = .int .u64 l ∧ x6 = .int .u64 v ∧ x8 = .int .i64 k ∧ DI T b k u l v) (fun _ _ _ x8 => 64 - (intOf x8).toNat)
  case atStart => exact ⟨0, rest, low, 0, by omega, rfl, rfl, rfl, rfl, st⟩
  case round =>
    obtain ⟨k, u, l, v, hk, rfl, rfl, rfl, rfl, hd⟩ := hrel
    by_cases hlt : k < 64
    · obtain ⟨b1, b2, b3, b4, b5, b6, bit, l', e1, e2, e3, e4, n1, n2⟩ := di_step hlt hd
      have o1 : bits .or .u64 (u * 2) bit = u * 2 + bit := or_bit (by omega) (by omega) (by omega) e2 e3
      have o2 : bits .or .u64 (v * 2) 1 = v * 2 + 1 := or_bit (by omega) (by omega) (by omega) (by omega) (by omega)
      clear st hd
      by_cases c : b ≤ u * 2 + bit
      · have N := Lib.hid (n1 c)
        clear n1 n2
        go_wp2
        go_round
        case rel => exact ⟨k + 1, _, _, _, by omega, rfl, rfl, rfl, by go_num, N.out⟩
        case measure => simp [intOf]; omega
      · have N := Lib.hid (n2 (by omega))
        clear n1 n2
        go_wp2
        go_round
        case rel => exact ⟨k + 1, _, _, _, by omega, rfl, rfl, rfl, by go_num, N.out⟩
        case measure => simp [intOf]; omega
    · obtain rfl : k = 64 := by omega
      obtain ⟨f1, f2, f3, f4, f5⟩ := di_end hd
      obtain ⟨rfl, rfl⟩ := div_same (f1.symm.trans E.out) f2 f3 h4 h5
      clear f1 E st hd
      go_wp2
      go_ret2
      exact ⟨rfl, rfl⟩

theorem below_drewN {B : Nat} {a w : World} (h : Below B a w) (n : Nat) : Below B a (w.drewN n) := ⟨h.os, h.tape, h.output, h.size, h.block⟩

theorem wholeDiv_to (a b q r : Int) (w : World) (ha : Fit1 a) (hb0 : 0 < b) (hb1 : b ≤ 9223372036854775807) (e1 : Hid (a / b = q)) (e2 : Hid (a % b = r)) :
    Calls Try.prog 51 #[.int .i64 a, .int .i64 b] w fun e w' => e = .returned (.tuple #[.int .i64 q, .int .i64 r, .int .i64 0]) ∧ Wc.Drew w w' := by
  have h := Wc.div_yes a b w ha ⟨by omega, hb1⟩ (by omega) (by omega)
  have h1 := Wm.dq_dr a b
  have h2 := Wm.dr_pos a hb0
  have h3 := div_same (q := a / b) (r := a % b) (q' := Wm.dq a b) (r' := Wm.dr a b) (b := b) (by rw [Int.mul_comm, Int.mul_ediv_add_emod, Int.mul_comm]; exact h1.symm) (Int.emod_nonneg _ (by omega)) (Int.emod_lt_of_pos _ hb0) h2.1 h2.2
  rw [← e1.out, ← e2.out, h3.1, h3.2]
  exact h

/-- what Div answers -/
def DivRes (x b h l r er : Int) : Prop := (b = 0 ∧ h = 0 ∧ l = 0 ∧ r = 0 ∧ er = 3) ∨ (b < 0 ∧ h = 0 ∧ l = 0 ∧ r = 0 ∧ er = 1) ∨ (0 < b ∧ er = 0 ∧ Bd h l ∧ num h l * b + r = x ∧ 0 ≤ r ∧ r < b)

theorem Div_any (h1 l1 b h l r er : Int) (w : World) (b1 : Bd h1 l1) (hb : Fit1 b) (R : DivRes (num h1 l1) b h l r er) :
    Calls Try.prog 25 #[.agg #[.int .i64 h1, .int .u64 l1], .int .i64 b] w fun e w' =>
      e = .returned (.tuple #[.agg #[.int .i64 h, .int .u64 l], .int .i64 r, .int .i64 er]) ∧ Below w.heap.size w w' := by
  rcases R with ⟨rfl, rfl, rfl, rfl, rfl⟩ | ⟨hn, rfl, rfl, rfl, rfl⟩ | ⟨hp, rfl, bd, e, r0, r1⟩
  · go_enter Try.func25, Try.ntmps25
    go_wp2
    refine bodyPost_ret (v := .tuple #[.agg #[.int .i64 0, .int .u64 0], .int .i64 0, .int .i64 3]) (by simp [results, Try.results25, go_sem]) rfl ⟨rfl, ?_⟩
    exact ((Below.refl _ _).alloc (Nat.le_refl _) _).alloc (by simp) _
  · have d1 : (b == 0) = false := beq_eq_false_iff_ne.2 (by omega)
    go_enter Try.func25, Try.ntmps25
    go_wp2
    refine bodyPost_ret (v := .tuple #[.agg #[.int .i64 0, .int .u64 0], .int .i64 0, .int .i64 1]) (by simp [results, Try.results25, go_sem]) rfl ⟨rfl, ?_⟩
    exact ((Below.refl _ _).alloc (Nat.le_refl _) _).alloc (by simp) _
  · have d1 : (b == 0) = false := beq_eq_false_iff_ne.2 (by omega)
    have d2 : decide (b < 0) = false := decide_eq_false (by omega)
    unfold Bd at b1
    unfold Fit1 at hb
    obtain ⟨a1, a2, a3, a4⟩ := b1
    obtain ⟨qh, hqh⟩ : ∃ s, h1 / b = s := ⟨_, rfl⟩
    obtain ⟨rh, hrh⟩ : ∃ s, h1 % b = s := ⟨_, rfl⟩
    have rh0 : 0 ≤ rh := by rw [← hrh]; exact Int.emod_nonneg _ (by omega)
    have rh1 : rh < b := by rw [← hrh]; exact Int.emod_lt_of_pos _ hp
    have rh2 : rh ≤ 9223372036854775807 := by omega
    have eh : qh * b + rh = h1 := by rw [← hqh, ← hrh, Int.mul_comm]; exact Int.mul_ediv_add_emod _ _
    have DM := div_two eh rh0 rh1 a3 a4 bd e r0 r1
    obtain ⟨rfl, DM⟩ := DM
    replace hqh := Lib.hid hqh
    replace hrh := Lib.hid hrh
    have hd := fun w => divide_any rh l1 b l r w rh0 rh1 a3 a4 hb.2 DM r0 r1
    have hw := fun w => wholeDiv_to h1 b qh rh w ⟨a1, a2⟩ hp hb.2 hqh hrh
    have r2 : r ≤ 9223372036854775807 := by omega
    obtain ⟨c1, c2, c3, c4⟩ := bd
    obtain ⟨hb1, hb2⟩ := hb
    clear e eh DM hqh hrh
    go_enter Try.func25, Try.ntmps25
    go_wp2_with fail
    refine (hw _).mono ?_
    rintro e w1 ⟨rfl, n, rfl⟩
    go_wp2_with fail
    refine (hd _).mono ?_
    rintro e w1 ⟨rfl, rfl⟩
    go_wp2
    refine bodyPost_ret (v := .tuple #[.agg #[.int .i64 qh, .int .u64 l], .int .i64 r, .int .i64 0]) (by simp [results, Try.results25, go_sem]) rfl ⟨rfl, ?_⟩
    exact ((below_drewN (((Below.refl _ _).alloc (Nat.le_refl _) _).alloc (by simp) _) _).setCell (by simp) _).setCell (by simp) _

/-- what MulDiv answers -/
def MDRes (x c q r er : Int) : Prop := (c = 0 ∧ q = 0 ∧ r = 0 ∧ er = 3) ∨ (c < 0 ∧ q = 0 ∧ r = 0 ∧ er = 1) ∨ (0 < c ∧ er = 2 ∧ q = 0 ∧ r = 0 ∧ ¬ Fit1 (x / c)) ∨ (0 < c ∧ er = 0 ∧ Fit1 q ∧ q = x / c ∧ r = x % c)

theorem MulDiv_any (a b c h l h2 l2 r2 er2 v er v2 r3 er3 : Int) (w : World) (ha : Fit1 a) (hb : Fit1 b) (hc : Fit1 c) (bd : Bd h l) (hn : num h l = a * b) (D : DivRes (num h l) c h2 l2 r2 er2) (bd2 : Bd h2 l2)
    (F : Res1 (num h2 l2) v er) (O : (er2 ≠ 0 ∧ v2 = 0 ∧ r3 = 0 ∧ er3 = er2) ∨ (er2 = 0 ∧ er = 2 ∧ v2 = 0 ∧ r3 = 0 ∧ er3 = 2) ∨ (er2 = 0 ∧ er = 0 ∧ v2 = v ∧ r3 = r2 ∧ er3 = 0)) :
    Calls Try.prog 13 #[.int .i64 a, .int .i64 b, .int .i64 c] w fun e w' =>
      e = .returned (.tuple #[.int .i64 v2, .int .i64 r3, .int .i64 er3]) ∧ Below w.heap.size w w' := by
  have cm := fun w => Mul_any a b h l w ha hb bd hn
  have cd := fun w => Div_any h l c h2 l2 r2 er2 w bd hc D
  have cf := fun w => Fit_any h2 l2 v er w bd2 F
  clear ha hb hc bd hn D bd2 F
  rcases O with ⟨o1, rfl, rfl, rfl⟩ | ⟨rfl, rfl, rfl, rfl, rfl⟩ | ⟨rfl, rfl, rfl, rfl, rfl⟩
  · have d1 : (er3 != 0) = true := bne_iff_ne.2 o1
    clear o1
    go_enter Try.func13, Try.ntmps13
    go_wp2_with fail
    refine (cm _).mono ?_
    rintro e w1 ⟨rfl, hb1⟩
    go_wp2_with fail
    refine (cd _).mono ?_
    rintro e w2 ⟨rfl, hb2⟩
    go_wp2
    go_ret3
    exact ⟨rfl, (hb1.trans (hb2.mono hb1.size)).alloc (Nat.le_trans hb1.size hb2.size) _⟩
  all_goals
    go_enter Try.func13, Try.ntmps13
    go_wp2_with fail
    refine (cm _).mono ?_
    rintro e w1 ⟨rfl, hb1⟩
    go_wp2_with fail
    refine (cd _).mono ?_
    rintro e w2 ⟨rfl, hb2⟩
    go_wp2_with fail
    refine (cf _).mono ?_
    rintro e w3 ⟨rfl, hb3⟩
    go_wp2
    go_ret3
    exact ⟨rfl, ((hb1.trans (hb2.mono hb1.size)).alloc (Nat.le_trans hb1.size hb2.size) _).trans (hb3.mono (by simp; exact Nat.le_succ_of_le (Nat.le_trans hb1.size hb2.size)))⟩

end Go.Proofs.Ytodpmdmfdnbehab.Vc

/- Plain facts on sums; nothing of the program. -/
namespace Go.Proofs.Ytodpmdmfdnbehab.Vm
set_option linter.unusedSimpArgs false
set_option linter.unusedVariables false
open Go.RowKit (wrap32 wrap64)

/-- the words a1, a0 are the sum of the first k of l, but for whole times 2^128 -/
def SI (l : List Int) (k : Nat) (a0 a1 : Int) : Prop :=
  0 ≤ a0 ∧ a0 ≤ 18446744073709551615 ∧ 0 ≤ a1 ∧ a1 ≤ 18446744073709551615 ∧ ∃ m : Int, num a1 a0 = (l.take k).sum + m * 340282366920938463463374607431768211456

theorem si_start (l : List Int) : SI l 0 0 0 := ⟨by omega, by omega, by omega, by omega, 0, by simp [num]⟩

theorem take_sum (l : List Int) (k : Nat) (h : k < l.length) : (l.take (k + 1)).sum = (l.take k).sum + l.getD k 0 := by
  rw [List.take_succ_eq_append_getElem h, List.sum_append_int]
  simp [List.getD, h]

theorem si_step {l : List Int} {k : Nat} {a0 a1 n h lo m r0 r1 : Int} (hk : k < l.length) (s : SI l k a0 a1) (hn : l.getD k 0 = n) (f : Fit1 n)
    (e1 : n / 9223372036854775808 = h) (e0 : n % 18446744073709551616 = lo) (e2 : h % 18446744073709551616 = m)
    (e3 : (a0 + lo) % 18446744073709551616 = r0) (e4 : (a1 + m + (a0 + lo) / 18446744073709551616) % 18446744073709551616 = r1) : SI l (k + 1) r0 r1 := by
  obtain ⟨h0, h1, h2, h3, t, ht⟩ := s
  refine ⟨by omega, by omega, by omega, by omega, t - (a1 + m + (a0 + lo) / 18446744073709551616) / 18446744073709551616 + (if n < 0 then 1 else 0), ?_⟩
  rw [take_sum l k hk, hn]
  unfold num at ht ⊢
  unfold Fit1 at f
  generalize (l.take k).sum = S at *
  split <;> omega

theorem sum_bound (l : List Int) (h : ∀ z ∈ l, Fit1 z) : -(l.length * 9223372036854775808 : Int) ≤ l.sum ∧ l.sum ≤ l.length * 9223372036854775808 := by
  induction l with
  | nil => simp
  | cons z t ih =>
    have h1 := ih (fun y hy => h y (List.mem_cons_of_mem _ hy))
    have h2 := h z (List.mem_cons_self)
    unfold Fit1 at h2
    rw [List.sum_cons, List.length_cons]
    omega

theorem si_end {l : List Int} {k : Nat} {a0 a1 h : Int} (hk : l.length ≤ k) (s : SI l k a0 a1) (hf : ∀ z ∈ l, Fit1 z) (hl : (l.length : Int) ≤ 9223372036854775807) (e : wrap64 a1 = h) : num h a0 = l.sum ∧ Bd h a0 := by
  obtain ⟨h0, h1, h2, h3, t, ht⟩ := s
  rw [List.take_of_length_le hk] at ht
  have b := sum_bound l hf
  unfold wrap64 at e
  unfold num at *
  unfold Bd
  generalize l.sum = S at *
  omega

end Go.Proofs.Ytodpmdmfdnbehab.Vm

/- What Sum of package wide comes to. -/
namespace Go.Proofs.Ytodpmdmfdnbehab.Vc
set_option linter.unusedSimpArgs false
set_option linter.unusedVariables false
open Go.RowKit Go.Proofs.Ytodpmdmfdnbehab.Vm
attribute [local go_sem ↓] Go.wp_at_zero Go.wp_at_succ

set_option maxHeartbeats 400000

/-- a slice whose elements are zs, below block B -/
def Rd (w : World) (B : Nat) (A : Option Addr) (zs : List Int) : Prop := zs = [] ∨ ∃ b off, A = some ⟨b, off, none⟩ ∧ b < B ∧ ∀ i, i < zs.length → w.cell? ⟨b, off + i, none⟩ = some (.int .i64 (zs.getD i 0))

theorem plus_to (a0 a1 b0 b1 r0 r1 : Int) (w : World) (h1 : 0 ≤ a0) (h2 : a0 ≤ 18446744073709551615) (h3 : 0 ≤ b0) (h4 : b0 ≤ 18446744073709551615)
    (e0 : Hid ((a0 + b0) % 18446744073709551616 = r0)) (e1 : Hid ((a1 + b1 + (a0 + b0) / 18446744073709551616) % 18446744073709551616 = r1)) :
    Calls Try.prog 47 #[.agg #[.int .u64 a0, .int .u64 a1], .agg #[.int .u64 b0, .int .u64 b1]] w fun e w' =>
      e = .returned (.agg #[.int .u64 r0, .int .u64 r1]) ∧ Below w.heap.size w w' := by
  rw [← e0.out, ← e1.out]; exact plus_any a0 a1 b0 b1 w h1 h2 h3 h4

/-- the world of a round: what was there is as it was, and block g holds the words a0, a1 -/
def SumW (w wr : World) (g : Nat) (a0 a1 : Int) : Prop :=
  Below w.heap.size w wr ∧ w.heap.size ≤ g ∧ g < wr.heap.size ∧ wr.cell? ⟨g, 0, none⟩ = some (.int .u64 a0) ∧ wr.cell? ⟨g, 1, none⟩ = some (.int .u64 a1) ∧ wr.frozen? ⟨g, 0, none⟩ = false ∧ wr.frozen? ⟨g, 1, none⟩ = false

theorem Sum_tells (A : Option Addr) (n cap : Nat) (zs : List Int) (w : World) (hn : zs.length = n) (hm : (n : Int) ≤ 9223372036854775807) (hf : ∀ z ∈ zs, Fit1 z) (hr : Rd w w.heap.size A zs) :
    Calls Try.prog 24 #[.slice A n cap] w (Tells1 zs.sum w) := by
  have HN := Lib.hid hn
  have HF := Lib.hid hf
  have HR := Lib.hid hr
  clear hn hf hr
  go_enter Try.func24, Try.ntmps24
  go_wp2
  go_loopw [10] (fun x10 wr => ∃ (k : Nat) (a0 a1 : Int), k ≤ n ∧ x10 = .int .i64 k ∧ SI zs k a0 a1 ∧ SumW w wr w.heap.size a0 a1) (fun x10 _ => n - (intOf x10).toNat)
  case atStart =>
    refine ⟨0, 0, 0, by omega, rfl, si_start zs, ?_, Nat.le_refl _, by simp, ?_, ?_, ?_, ?_⟩
    · exact (Below.refl _ _).alloc (Nat.le_refl _) _
    all_goals simp [go_sem]
  case round =>
    obtain ⟨k, a0, a1, hk, rfl, si, hb, _, hg, q0, q1, f0, f1⟩ := hrel
    by_cases hlt : k < n
    · have ht : zs ≠ [] := by intro e; have := HN.out; rw [e] at this; simp at this; omega
      obtain ⟨b, off, rfl, hb0, hcell⟩ := HR.out.resolve_left ht
      have hk2 : k < zs.length := by rw [HN.out]; exact hlt
      have hc1 := (hb.cell (p := ⟨b, off + k, none⟩) hb0).trans (hcell k hk2)
      obtain ⟨z, hz⟩ : ∃ s, zs.getD k 0 = s := ⟨_, rfl⟩
      rw [hz] at hc1
      clear hcell
      have fz : Fit1 z := HF.out z (by rw [← hz, show zs.getD k 0 = zs[k] by simp [List.getD, hk2]]; exact List.getElem_mem hk2)
      obtain ⟨h, hh⟩ : ∃ s, z / 9223372036854775808 = s := ⟨_, rfl⟩
      obtain ⟨lo, hlo⟩ : ∃ s, z % 18446744073709551616 = s := ⟨_, rfl⟩
      obtain ⟨m, hmm⟩ : ∃ s, h % 18446744073709551616 = s := ⟨_, rfl⟩
      obtain ⟨r0, hr0⟩ : ∃ s, (a0 + lo) % 18446744073709551616 = s := ⟨_, rfl⟩
      obtain ⟨r1, hr1⟩ : ∃ s, (a1 + m + (a0 + lo) / 18446744073709551616) % 18446744073709551616 = s := ⟨_, rfl⟩
      have sn := si_step hk2 si hz fz hh hlo hmm hr0 hr1
      have b0 : 0 ≤ a0 := si.1
      have b1 : a0 ≤ 18446744073709551615 := si.2.1
      have b2 : 0 ≤ lo := by omega
      have b3 : lo ≤ 18446744073709551615 := by omega
      replace hh := Lib.hid hh
      replace hlo := Lib.hid hlo
      replace hmm := Lib.hid hmm
      replace hr0 := Lib.hid hr0
      replace hr1 := Lib.hid hr1
      replace hz := Lib.hid hz
      clear ht
      go_wp2
      go_region_law (first | (go_simp; go_at_call 49; refine (Of_to _ h lo _ hh hlo).mono ?_; rintro e w1 ⟨rfl, hb1⟩; have q01 := (hb1.cell (p := ⟨w.heap.size, 0, none⟩) hg).trans q0; have q11 := (hb1.cell (p := ⟨w.heap.size, 1, none⟩) hg).trans q1; have f01 := (hb1.frozen (p := ⟨w.heap.size, 0, none⟩) hg).trans f0; have f11 := (hb1.frozen (p := ⟨w.heap.size, 1, none⟩) hg).trans f1; have hg1 := Nat.lt_of_lt_of_le hg hb1.size) | (go_simp; go_at_call 48; refine (wordsOf_to _ _ m _ hmm).mono ?_; rintro e w2 ⟨rfl, hb2⟩; have q02 := (hb2.cell (p := ⟨w.heap.size, 0, none⟩) hg1).trans q01; have q12 := (hb2.cell (p := ⟨w.heap.size, 1, none⟩) hg1).trans q11; have f02 := (hb2.frozen (p := ⟨w.heap.size, 0, none⟩) hg1).trans f01; have f12 := (hb2.frozen (p := ⟨w.heap.size, 1, none⟩) hg1).trans f11; have hg2 := Nat.lt_of_lt_of_le hg1 hb2.size) | (go_simp; go_at_call 47; refine (plus_to _ _ _ _ r0 r1 _ b0 b1 b2 b3 hr0 hr1).mono ?_; rintro e w3 ⟨rfl, hb3⟩; have q03 := (hb3.cell (p := ⟨w.heap.size, 0, none⟩) hg2).trans q02; have q13 := (hb3.cell (p := ⟨w.heap.size, 1, none⟩) hg2).trans q12; have f03 := (hb3.frozen (p := ⟨w.heap.size, 0, none⟩) hg2).trans f02; have f13 := (hb3.frozen (p := ⟨w.heap.size, 1, none⟩) hg2).trans f12; have hg3 := Nat.lt_of_lt_of_le hg2 hb3.size))
      all_goals have bx : Below w.heap.size w w3 := hb.drew.trans ((hb1.mono (Nat.le_of_lt hg)).trans ((hb2.mono (Nat.le_of_lt hg1)).trans (hb3.mono (Nat.le_of_lt hg2))))
      all_goals go_wp2
      all_goals
        go_roundw
        case rel =>
          refine ⟨k + 1, r0, r1, by omega, by go_num, sn, ?_, Nat.le_refl _, ?_, ?_, ?_, ?_, ?_⟩
          · exact (bx.setCell (by simp) _).setCell (by simp) _
          · simp [hg3]
          all_goals simp [go_sem, q03, q13, f03, f13]
        case measure => simp [intOf]; omega
    · obtain rfl : k = n := by omega
      obtain ⟨h, hh⟩ : ∃ s, wrap64 a1 = s := ⟨_, rfl⟩
      have SE := si_end (Nat.le_of_eq HN.out) si HF.out (by rw [HN.out]; exact hm) hh
      replace hh := Lib.hid hh
      go_wp2_with fail
      refine (wide_to _ _ h _ hh).mono ?_
      rintro e w1 ⟨rfl, hb1⟩
      go_wp2_with fail
      refine (Fit_tells _ _ _ SE.2).mono ?_
      rintro e w2 ⟨v, er, rfl, R, hb2⟩
      rw [SE.1] at R
      replace R := Lib.hid R
      clear SE
      go_wp2
      go_ret2
      exact ⟨v, er, rfl, R.out, hb.trans ((hb1.mono (Nat.le_of_lt hg)).trans (hb2.mono (Nat.le_trans (Nat.le_of_lt hg) hb1.size)))⟩

theorem Sum_any (A : Option Addr) (n cap : Nat) (zs : List Int) (v er : Int) (w : World) (hn : zs.length = n) (hm : (n : Int) ≤ 9223372036854775807) (hf : ∀ z ∈ zs, Fit1 z) (hr : Rd w w.heap.size A zs) (R : Res1 zs.sum v er) :
    Calls Try.prog 24 #[.slice A n cap] w fun e w' => e = .returned (.tuple #[.int .i64 v, .int .i64 er]) ∧ Below w.heap.size w w' :=
  (Sum_tells A n cap zs w hn hm hf hr).mono fun e w' ⟨v', er', he, r', hb⟩ => by
    obtain ⟨rfl, rfl⟩ := res1_unique R r'
    exact ⟨he, hb⟩

end Go.Proofs.Ytodpmdmfdnbehab.Vc

/- live, and small words for the walks of the laws of layer 2. -/
namespace Go.Proofs.Ytodpmdmfdnbehab.Vl
set_option linter.unusedSimpArgs false
set_option linter.unusedVariables false
open Go.RowKit Go.Proofs.Ytodpmdmfdnbehab.Vm Go.Proofs.Ytodpmdmfdnbehab.Vc
attribute [local go_sem ↓] Go.wp_at_zero Go.wp_at_succ

set_option maxHeartbeats 400000

/-- block b is there, and holds u and v -/
structure Pair (W : World) (b : Nat) (u v : Value) : Prop where
  lt : b < W.heap.size
  c0 : W.cell? ⟨b, 0, none⟩ = some u
  c1 : W.cell? ⟨b, 1, none⟩ = some v
theorem Pair.kept {W w1 : World} {b : Nat} {u v : Value} (p : Pair W b u v) (hb : Below W.heap.size W w1) : Pair w1 b u v :=
  ⟨Nat.lt_of_lt_of_le p.lt hb.size, (hb.cell (p := ⟨b, 0, none⟩) p.lt).trans p.c0, (hb.cell (p := ⟨b, 1, none⟩) p.lt).trans p.c1⟩
theorem Pair.alloc {W : World} {b : Nat} {u v : Value} (p : Pair W b u v) (o : Obj) : Pair (W.alloc o) b u v :=
  p.kept ((Below.refl _ _).alloc (Nat.le_refl _) o)
theorem Pair.new (W : World) (u v : Value) (t : TypeId) : Pair (W.alloc (.cells #[u, v] t)) W.heap.size u v :=
  ⟨by simp, by simp [go_sem], by simp [go_sem]⟩
theorem Pair.drewN {W : World} {b : Nat} {u v : Value} (p : Pair W b u v) (n : Nat) : Pair (W.drewN n) b u v := ⟨p.lt, p.c0, p.c1⟩
theorem Pair.drew {W : World} {b : Nat} {u v : Value} (p : Pair W b u v) : Pair W.drew b u v := ⟨p.lt, p.c0, p.c1⟩

/-- step by step nothing of what was there turns -/
theorem bthen {w W w1 : World} (h : Below w.heap.size w W) (hb : Below W.heap.size W w1) : Below w.heap.size w w1 := h.trans (hb.mono h.size)
theorem balloc {w W : World} (h : Below w.heap.size w W) (o : Obj) : Below w.heap.size w (W.alloc o) := h.alloc h.size o
theorem bdrewN {w W : World} (h : Below w.heap.size w W) (n : Nat) : Below w.heap.size w (W.drewN n) := below_drewN h n

end Go.Proofs.Ytodpmdmfdnbehab.Vl

/- Plain facts on quotients of two words, and what fits; nothing of the program. -/
namespace Go.Proofs.Ytodpmdmfdnbehab.Vm
set_option linter.unusedSimpArgs false
set_option linter.unusedVariables false
open Go.RowKit (wrap32 wrap64)

theorem words_ex {x : Int} (f : Fits x) : ∃ h l, num h l = x ∧ Bd h l :=
  ⟨x / 18446744073709551616, x % 18446744073709551616, by unfold num; omega, by unfold Fits at f; unfold Bd; omega⟩

theorem quot_fits {x c : Int} (f : Fits x) (hc : 0 < c) : Fits (x / c) := by
  unfold Fits at *
  constructor
  · refine Int.le_ediv_of_mul_le hc ?_
    have : -170141183460469231731687303715884105728 * c ≤ -170141183460469231731687303715884105728 * 1 := Int.mul_le_mul_of_nonpos_left (by omega) (by omega)
    omega
  · have : x / c < 170141183460469231731687303715884105728 := by
      refine Int.ediv_lt_of_lt_mul hc ?_
      have : 170141183460469231731687303715884105728 * 1 ≤ 170141183460469231731687303715884105728 * c := Int.mul_le_mul_of_nonneg_left (by omega) (by omega)
      omega
    omega

theorem prod_fits {a b : Int} (ha : Fit1 a) (hb : Fit1 b) : -85070591730234615865843651857942052864 ≤ a * b ∧ a * b ≤ 85070591730234615865843651857942052864 := by
  have h := prod_size ha hb
  have e : ((a * b).natAbs : Int) = (a.natAbs : Int) * (b.natAbs : Int) := by rw [Int.natAbs_mul, Int.natCast_mul]
  omega

end Go.Proofs.Ytodpmdmfdnbehab.Vm

/- MulDiv of package wide by its numbers alone. -/
namespace Go.Proofs.Ytodpmdmfdnbehab.Vl
set_option linter.unusedSimpArgs false
set_option linter.unusedVariables false
open Go.RowKit Go.Proofs.Ytodpmdmfdnbehab.Vm Go.Proofs.Ytodpmdmfdnbehab.Vc

theorem muldiv_to (a b c v r er : Int) (w : World) (fa : Fit1 a) (fb : Fit1 b) (fc : Fit1 c) (R : MDRes (a * b) c v r er) :
    Calls Try.prog 13 #[.int .i64 a, .int .i64 b, .int .i64 c] w fun e w' =>
      e = .returned (.tuple #[.int .i64 v, .int .i64 r, .int .i64 er]) ∧ Below w.heap.size w w' := by
  have pf := prod_fits fa fb
  have ff : Fits (a * b) := by unfold Fits; omega
  obtain ⟨h, l, n, bd⟩ := words_ex ff
  have b0 : Bd 0 0 := by unfold Bd; omega
  have f0 : Res1 (num 0 0) 0 0 := Or.inl ⟨rfl, rfl, by unfold Fit1 num; omega⟩
  rcases R with ⟨c0, rfl, rfl, rfl⟩ | ⟨c0, rfl, rfl, rfl⟩ | ⟨c0, rfl, rfl, rfl, nf⟩ | ⟨c0, rfl, fv, rfl, rfl⟩
  · exact MulDiv_any a b c h l 0 0 0 3 0 0 0 0 3 w fa fb fc bd n (.inl ⟨c0, rfl, rfl, rfl, rfl⟩) b0 f0 (.inl ⟨by decide, rfl, rfl, rfl⟩)
  · exact MulDiv_any a b c h l 0 0 0 1 0 0 0 0 1 w fa fb fc bd n (.inr (.inl ⟨c0, rfl, rfl, rfl, rfl⟩)) b0 f0 (.inl ⟨by decide, rfl, rfl, rfl⟩)
  all_goals
    obtain ⟨hq, lq, nq, bq⟩ := words_ex (quot_fits ff c0)
    have D : DivRes (num h l) c hq lq ((a * b) % c) 0 := .inr (.inr ⟨c0, rfl, bq, by rw [nq, n, Int.mul_comm]; exact Int.mul_ediv_add_emod _ _, Int.emod_nonneg _ (by omega), Int.emod_lt_of_pos _ c0⟩)
  · exact MulDiv_any a b c h l hq lq ((a * b) % c) 0 0 2 0 0 2 w fa fb fc bd n D bq (Or.inr ⟨rfl, rfl, by rw [nq]; exact nf⟩) (.inr (.inl ⟨rfl, rfl, rfl, rfl, rfl⟩))
  · exact MulDiv_any a b c h l hq lq ((a * b) % c) 0 (a * b / c) 0 (a * b / c) ((a * b) % c) 0 w fa fb fc bd n D bq (Or.inl ⟨rfl, nq.symm, by rw [nq]; exact fv⟩) (.inr (.inr ⟨rfl, rfl, rfl, rfl, rfl⟩))

end Go.Proofs.Ytodpmdmfdnbehab.Vl

/- Plain facts on an amount that is split by weights, more: weights that are all as many times greater, a weight of 0 put in, weights that are the same. -/
namespace Go.Proofs.Ytodpmdmfdnbehab.Sm
set_option linter.unusedSimpArgs false
set_option linter.unusedVariables false
variable {a : Int} {w : Nat → Int} {n : Nat}

theorem tot_scale (c : Int) : tot (fun i => c * w i) n = c * tot w n := sm_mul c w n
theorem may_scale {c : Int} (hc : 0 < c) (h : MayBe w n) : MayBe (fun i => c * w i) n :=
  ⟨fun i hi => Int.mul_nonneg (by omega) (h.1 i hi), by rw [tot_scale]; exact Int.mul_pos hc h.2⟩
theorem split_scale {c : Int} (hc : 0 < c) (h : MayBe w n) {o : Nat → Int} (ho : IsSplit a w n o) : IsSplit a (fun i => c * w i) n o := by
  obtain ⟨C, hC, e⟩ := ho
  have q : ∀ i, quo a (fun i => c * w i) n i = quo a w n i := by
    intro i
    unfold quo
    rw [tot_scale, show a * (c * w i) = c * (a * w i) by ac_rfl]
    exact Int.mul_ediv_mul_of_pos _ _ hc
  have r : ∀ i, rem a (fun i => c * w i) n i = c * rem a w n i := by
    intro i
    unfold rem
    rw [tot_scale, show a * (c * w i) = c * (a * w i) by ac_rfl]
    exact Int.mul_emod_mul_of_pos _ _ hc
  have l : left a (fun i => c * w i) n = left a w n := by
    rw [(left_is (a := a) (may_scale hc h)).1, (left_is (a := a) h).1, sm_congr (fun i _ => q i)]
  refine ⟨C, ⟨by rw [l]; exact hC.1, fun i k hi hk ci ck => ?_⟩, fun i hi => by rw [q]; exact e i hi⟩
  have := hC.2 i k hi hk ci ck
  unfold Ahead at this ⊢
  rw [r, r]
  rcases this with x | ⟨x, y⟩
  · exact .inl (Int.mul_lt_mul_of_pos_left x hc)
  · exact .inr ⟨by rw [x], y⟩

/-- v put in at place k -/
def ins (k : Nat) (v : Int) (f : Nat → Int) (i : Nat) : Int := if i < k then f i else if i = k then v else f (i - 1)
theorem sm_ins (k : Nat) (v : Int) (f : Nat → Int) : ∀ {n : Nat}, k ≤ n → sm (ins k v f) (n + 1) = sm f n + v
  | 0, h => by
    obtain rfl : k = 0 := by omega
    simp [sm, ins]
  | n + 1, h => by
    by_cases e : k = n + 1
    · subst e
      have : sm (ins (n + 1) v f) (n + 1) = sm f (n + 1) := sm_congr (fun i hi => by unfold ins; rw [if_pos hi])
      conv => lhs; unfold sm
      rw [this]; unfold ins; simp
    · have := sm_ins k v f (n := n) (by omega)
      conv => lhs; unfold sm
      rw [this]
      have e2 : ins k v f (n + 1) = f n := by unfold ins; rw [if_neg (by omega), if_neg (by omega)]; rfl
      rw [e2]; conv => rhs; unfold sm
      omega
theorem sm_ins_fn (k : Nat) (f g : Nat → Int) {n : Nat} (h : k ≤ n) (hg : ∀ i, g i = if i < k then f i else if i = k then 0 else f (i - 1)) : sm g (n + 1) = sm f n := by
  have : sm g (n + 1) = sm (ins k 0 f) (n + 1) := sm_congr (fun i _ => hg i)
  rw [this, sm_ins k 0 f h]; omega

theorem split_ins {k : Nat} (hk : k ≤ n) (h : MayBe w n) {o : Nat → Int} (ho : IsSplit a w n o) : MayBe (ins k 0 w) (n + 1) ∧ IsSplit a (ins k 0 w) (n + 1) (ins k 0 o) := by
  obtain ⟨C, hC, e⟩ := ho
  have t : tot (ins k 0 w) (n + 1) = tot w n := by unfold tot; rw [sm_ins k 0 w hk]; omega
  have m : MayBe (ins k 0 w) (n + 1) := by
    refine ⟨fun i hi => ?_, by rw [t]; exact h.2⟩
    unfold ins
    by_cases c1 : i < k
    · rw [if_pos c1]; exact h.1 i (by omega)
    · rw [if_neg c1]
      by_cases c2 : i = k
      · rw [if_pos c2]; exact Int.le_refl _
      · rw [if_neg c2]; exact h.1 (i - 1) (by omega)
  have q : ∀ i, quo a (ins k 0 w) (n + 1) i = ins k 0 (quo a w n) i := by
    intro i; unfold quo; rw [t]; unfold ins
    by_cases c1 : i < k <;> by_cases c2 : i = k <;> simp [c1, c2]
  have r : ∀ i, rem a (ins k 0 w) (n + 1) i = ins k 0 (rem a w n) i := by
    intro i; unfold rem; rw [t]; unfold ins
    by_cases c1 : i < k <;> by_cases c2 : i = k <;> simp [c1, c2]
  have l : left a (ins k 0 w) (n + 1) = left a w n := by
    rw [(left_is (a := a) m).1, (left_is (a := a) h).1, sm_congr (g := ins k 0 (quo a w n)) (fun i _ => q i), sm_ins k 0 _ hk]; omega
  refine ⟨m, fun i => if i < k then C i else if i = k then false else C (i - 1), ⟨?_, ?_⟩, ?_⟩
  · rw [l, ← hC.1]
    unfold cnt
    apply sm_ins_fn k (fun i => one (C i)) _ hk
    intro i
    by_cases c1 : i < k <;> by_cases c2 : i = k <;> simp [c1, c2, one]
  · intro i j hi hj ci cj
    -- i is one of the old places, and has something left over
    have old : ∃ i', i' < n ∧ C i' = true ∧ rem a (ins k 0 w) (n + 1) i = rem a w n i' ∧ ((i < k ∧ i = i') ∨ (k < i ∧ i = i' + 1)) := by
      by_cases c1 : i < k
      · simp only [c1, if_true] at ci
        exact ⟨i, by omega, ci, by rw [r]; unfold ins; rw [if_pos c1], .inl ⟨c1, rfl⟩⟩
      · by_cases c2 : i = k
        · simp only [c2, if_false, if_true, Nat.lt_irrefl] at ci; cases ci
        · simp only [c1, c2, if_false] at ci
          exact ⟨i - 1, by omega, ci, by rw [r]; unfold ins; rw [if_neg c1, if_neg c2], .inr ⟨by omega, by omega⟩⟩
    obtain ⟨i', hi', ci', ri, pi⟩ := old
    have pos := more_pos h hC hi' ci'
    by_cases d1 : j < k
    · simp only [d1, if_true] at cj
      have := hC.2 i' j hi' (by omega) ci' cj
      have rj : rem a (ins k 0 w) (n + 1) j = rem a w n j := by rw [r]; unfold ins; rw [if_pos d1]
      unfold Ahead at this ⊢; rw [ri, rj]; omega
    · by_cases d2 : j = k
      · have rj : rem a (ins k 0 w) (n + 1) j = 0 := by rw [r]; unfold ins; rw [if_neg d1, if_pos d2]
        unfold Ahead; rw [ri, rj]; exact .inl pos
      · simp only [d1, d2, if_false] at cj
        have := hC.2 i' (j - 1) hi' (by omega) ci' cj
        have rj : rem a (ins k 0 w) (n + 1) j = rem a w n (j - 1) := by rw [r]; unfold ins; rw [if_neg d1, if_neg d2]
        unfold Ahead at this ⊢; rw [ri, rj]; omega
  · intro i hi
    rw [q]
    unfold ins
    by_cases c1 : i < k
    · simp only [c1, if_true]; exact e i (by omega)
    · by_cases c2 : i = k
      · simp only [c2, if_false, if_true, Nat.lt_irrefl]; rfl
      · simp only [c1, c2, if_false]; exact e (i - 1) (by omega)

/-- weights that are the same: those ahead have one more -/
theorem split_even {x : Int} (hx : 0 < x) {k : Nat} (hk : 0 < k) : MayBe (fun _ => x) k ∧ IsSplit a (fun _ => x) k (fun i => a / k + if (i : Int) < a % k then 1 else 0) := by
  have t : tot (fun _ => x) k = x * k := by unfold tot; rw [sm_const, Int.mul_comm]
  have kp : (0 : Int) < k := by omega
  have m : MayBe (fun _ => x) k := ⟨fun _ _ => Int.le_of_lt hx, by rw [t]; exact Int.mul_pos hx kp⟩
  have q : ∀ i, quo a (fun _ => x) k i = a / k := by
    intro i; unfold quo; rw [t, Int.mul_comm a x]; exact Int.mul_ediv_mul_of_pos _ _ hx
  have r : ∀ i, rem a (fun _ => x) k i = x * (a % k) := by
    intro i; unfold rem; rw [t, Int.mul_comm a x]; exact Int.mul_emod_mul_of_pos _ _ hx
  have l : left a (fun _ => x) k = a % k := by
    rw [(left_is (a := a) m).1, sm_congr (g := fun _ => a / k) (fun i _ => q i), sm_const]
    have := Int.mul_ediv_add_emod a k; omega
  have r0 := Int.emod_nonneg a (b := k) (by omega)
  have r1 := Int.emod_lt_of_pos a kp
  refine ⟨m, fun i => decide ((i : Int) < a % k), ⟨?_, ?_⟩, fun i hi => ?_⟩
  · rw [l]
    have c : ∀ (j : Nat), cnt (fun i => decide ((i : Int) < a % k)) j = if (j : Int) ≤ a % k then (j : Int) else a % k := by
      intro j
      induction j with
      | zero => unfold cnt sm; rw [if_pos (by omega)]; rfl
      | succ j ih =>
        unfold cnt at ih ⊢
        conv => lhs; unfold sm
        rw [ih]
        by_cases c1 : (j : Int) < a % k
        · rw [if_pos (by omega), if_pos (by omega)]; simp only [c1, decide_true, one, if_true]; omega
        · by_cases c2 : (j : Int) = a % k
          · rw [if_pos (by omega), if_neg (by omega)]; simp only [c1, decide_false, one]; simp; omega
          · rw [if_neg (by omega), if_neg (by omega)]; simp only [c1, decide_false, one]; simp
    rw [c k, if_neg (by omega)]
  · intro i j hi hj ci cj
    simp only [decide_eq_true_eq, decide_eq_false_iff_not] at ci cj
    unfold Ahead; rw [r, r]; exact .inr ⟨rfl, by omega⟩
  · rw [q]
    by_cases c : (i : Int) < a % k
    · simp only [c, decide_true, if_true, one]
    · simp only [c, decide_false, if_false, one]; simp

end Go.Proofs.Ytodpmdmfdnbehab.Sm

/- What weights come to together, or why they may not be; which of the places that are sorted get one more. -/
namespace Go.Proofs.Ytodpmdmfdnbehab.Sr
set_option linter.unusedSimpArgs false
set_option linter.unusedVariables false
open Go.Proofs.Ytodpmdmfdnbehab.Vm Go.Proofs.Ytodpmdmfdnbehab.Sm Go.Proofs.Ytodpmdmfdnbehab.Om

/-- what all weights together come to, or why they may not be -/
def AllRes (zs : List Int) (v er : Int) : Prop :=
  (4096 < zs.length ∧ v = 0 ∧ er = 6) ∨ (zs.length ≤ 4096 ∧ (∃ z ∈ zs, z < 0) ∧ v = 0 ∧ er = 1) ∨
  (zs.length ≤ 4096 ∧ (∀ z ∈ zs, 0 ≤ z) ∧ ((¬ Fit1 zs.sum ∧ v = 0 ∧ er = 2) ∨ (zs.sum = 0 ∧ v = 0 ∧ er = 3) ∨ (0 < zs.sum ∧ Fit1 zs.sum ∧ v = zs.sum ∧ er = 0)))
theorem sum_nonneg : ∀ {zs : List Int}, (∀ z ∈ zs, 0 ≤ z) → 0 ≤ zs.sum
  | [], _ => by simp
  | z :: zs, h => by
    have h1 := h z (by simp)
    have h2 := sum_nonneg (zs := zs) (fun y hy => h y (by simp [hy]))
    simp; omega
theorem allres_ex (zs : List Int) : ∃ v er, AllRes zs v er := by
  by_cases c : 4096 < zs.length
  · exact ⟨0, 6, .inl ⟨c, rfl, rfl⟩⟩
  · by_cases d : ∃ z ∈ zs, z < 0
    · exact ⟨0, 1, .inr (.inl ⟨by omega, d, rfl, rfl⟩)⟩
    · have p : ∀ z ∈ zs, 0 ≤ z := fun z hz => by
        by_cases q : 0 ≤ z
        · exact q
        · exact absurd ⟨z, hz, by omega⟩ d
      have s := sum_nonneg p
      by_cases e : Fit1 zs.sum
      · by_cases k : zs.sum = 0
        · exact ⟨0, 3, .inr (.inr ⟨by omega, p, .inr (.inl ⟨k, rfl, rfl⟩)⟩)⟩
        · exact ⟨_, 0, .inr (.inr ⟨by omega, p, .inr (.inr ⟨by omega, e, rfl, rfl⟩)⟩)⟩
      · exact ⟨0, 2, .inr (.inr ⟨by omega, p, .inl ⟨e, rfl, rfl⟩⟩)⟩

theorem getD_mem {zs : List Int} {k : Nat} (h : k < zs.length) : zs.getD k 0 ∈ zs := by
  rw [show zs.getD k 0 = zs[k] by simp [List.getD, h]]; exact List.getElem_mem h

/-- the weights as a function of the place -/
def wt (zs : List Int) (i : Nat) : Int := zs.getD i 0
theorem take_sum1 : ∀ (zs : List Int) (k : Nat), k < zs.length → (zs.take (k + 1)).sum = (zs.take k).sum + zs.getD k 0
  | [], k, h => by simp at h
  | z :: zs, 0, h => by simp
  | z :: zs, k + 1, h => by
    have := take_sum1 zs k (by simpa using h)
    simp at this ⊢
    omega
theorem sm_list : ∀ (zs : List Int), sm (wt zs) zs.length = zs.sum := by
  have e : ∀ (zs : List Int) (k : Nat), k ≤ zs.length → sm (wt zs) k = (zs.take k).sum := by
    intro zs k
    induction k with
    | zero => intro _; simp [sm]
    | succ j ih =>
      intro h
      unfold sm
      rw [ih (by omega), take_sum1 zs j (by omega)]; rfl
  intro zs
  rw [e zs zs.length (by omega), List.take_length]
theorem may_list {zs : List Int} (h : ∀ z ∈ zs, 0 ≤ z) (s : 0 < zs.sum) : MayBe (wt zs) zs.length :=
  ⟨fun i hi => h _ (getD_mem hi), by unfold tot; rw [sm_list]; exact s⟩
theorem w_le {w : Nat → Int} {n i : Nat} (h : MayBe w n) (hi : i < n) : w i ≤ tot w n := by
  have h1 := sm_up (F := w) (a := 0) (b := i) (by omega) (fun j _ hj => h.1 j (by omega))
  have h2 := sm_up (F := w) (a := i + 1) (b := n) (by omega) (fun j _ hj => h.1 j hj)
  have e1 : sm w (i + 1) = sm w i + w i := rfl
  have e2 : sm w 0 = 0 := rfl
  unfold tot; omega
theorem quo_fit {a : Int} {w : Nat → Int} {n i : Nat} (fa : Fit1 a) (h : MayBe w n) (hi : i < n) : Fit1 (quo a w n i) := by
  have w0 := h.1 i hi
  have w1 := w_le h hi
  have tp := h.2
  have qr := quo_rem (a := a) (w := w) (n := n) i
  have rb := rem_bd (a := a) h i
  unfold Fit1 at *
  generalize quo a w n i = q at *
  generalize rem a w n i = r at *
  generalize tot w n = t at *
  generalize w i = x at *
  constructor
  · by_cases c : -9223372036854775808 ≤ q
    · exact c
    · have h1 : t * (q + 1) ≤ t * (-9223372036854775808) := Int.mul_le_mul_of_nonneg_left (by omega) (by omega)
      have h2 : -9223372036854775808 * x ≤ a * x := Int.mul_le_mul_of_nonneg_right (by omega) w0
      have h3 : -9223372036854775808 * t ≤ -9223372036854775808 * x := Int.mul_le_mul_of_nonpos_left (by omega) w1
      rw [Int.mul_add, Int.mul_one] at h1
      omega
  · by_cases c : q ≤ 9223372036854775807
    · exact c
    · have h1 : t * 9223372036854775808 ≤ t * q := Int.mul_le_mul_of_nonneg_left (by omega) (by omega)
      have h2 : a * x ≤ 9223372036854775807 * x := Int.mul_le_mul_of_nonneg_right (by omega) w0
      have h3 : 9223372036854775807 * x ≤ 9223372036854775807 * t := Int.mul_le_mul_of_nonneg_left w1 (by omega)
      omega
/-- where something is left over one more fits -/
theorem quo_up {a : Int} {w : Nat → Int} {n i : Nat} (fa : Fit1 a) (h : MayBe w n) (hi : i < n) (r0 : 0 < rem a w n i) : quo a w n i + 1 ≤ 9223372036854775807 := by
  have w0 := h.1 i hi
  have w1 := w_le h hi
  have tp := h.2
  have qr := quo_rem (a := a) (w := w) (n := n) i
  unfold Fit1 at fa
  generalize quo a w n i = q at *
  generalize rem a w n i = r at *
  generalize tot w n = t at *
  generalize w i = x at *
  by_cases c : q + 1 ≤ 9223372036854775807
  · exact c
  · have h1 : t * 9223372036854775807 ≤ t * q := Int.mul_le_mul_of_nonneg_left (by omega) (by omega)
    have h2 : a * x ≤ 9223372036854775807 * x := Int.mul_le_mul_of_nonneg_right (by omega) w0
    have h3 : 9223372036854775807 * x ≤ 9223372036854775807 * t := Int.mul_le_mul_of_nonneg_left w1 (by omega)
    omega

/-! ### who gets one more: the first of the places that are sorted -/
/-- i is among the first j -/
def tk (f : Nat → Nat) : Nat → Nat → Bool
  | 0, _ => false
  | j + 1, i => if f j = i then true else tk f j i
theorem tk_iff (f : Nat → Nat) (i : Nat) : ∀ j, tk f j i = true ↔ ∃ x, x < j ∧ f x = i
  | 0 => by simp [tk]
  | j + 1 => by
    unfold tk
    by_cases e : f j = i
    · rw [if_pos e]; simp; exact ⟨j, by omega, e⟩
    · rw [if_neg e, tk_iff f i j]
      constructor
      · rintro ⟨x, h, k⟩; exact ⟨x, by omega, k⟩
      · rintro ⟨x, h, k⟩
        refine ⟨x, ?_, k⟩
        by_cases c : x = j
        · subst c; exact absurd k e
        · omega
theorem srt_inj {r : Nat → Int} {f : Nat → Nat} {n : Nat} (s : Srt r f 0 n) {x y : Nat} (hx : x < n) (hy : y < n) (e : f x = f y) : x = y := by
  rcases Nat.lt_trichotomy x y with h | h | h
  · have := s x y (by omega) h hy; unfold Ahead at this; rw [e] at this; omega
  · exact h
  · have := s y x (by omega) h hx; unfold Ahead at this; rw [e] at this; omega
theorem tk_new {r : Nat → Int} {f : Nat → Nat} {n j : Nat} (s : Srt r f 0 n) (hj : j < n) : tk f j (f j) = false := by
  cases e : tk f j (f j)
  · rfl
  · obtain ⟨x, h, k⟩ := (tk_iff f (f j) j).1 e
    have := srt_inj s (by omega) hj k; omega
theorem count_first (c : Nat) : ∀ n, c ≤ n → sm (fun i => one (decide (i < c))) n = c
  | 0, h => by obtain rfl : c = 0 := by omega
               rfl
  | n + 1, h => by
    by_cases e : c = n + 1
    · subst e
      rw [sm_congr (g := fun _ => 1) (fun i hi => by simp [hi, one]), sm_const]; omega
    · have h1 := count_first c n (by omega)
      have e1 : sm (fun i => one (decide (i < c))) (n + 1) = sm (fun i => one (decide (i < c))) n + one (decide (n < c)) := rfl
      have e2 : one (decide (n < c)) = 0 := by simp [one]; omega
      omega
theorem first_best {r : Nat → Int} {f : Nat → Nat} {n c : Nat} (s : Srt r f 0 n) (p : Pm (fun i => if i < n then i else 0) f 0 n) (hc : c ≤ n) : Best r n c (tk f c) := by
  have ev : ∀ h : Nat → Int, sm (fun i => h (f i)) n = sm h n := fun h => by
    rw [p.ev h]; exact sm_congr (fun i hi => by simp only [hi, if_true])
  refine ⟨?_, fun i k hi hk ci ck => ?_⟩
  · unfold cnt
    rw [← ev (fun i => one (tk f c i)), ← count_first c n hc]
    refine sm_congr (fun i hi => ?_)
    congr 1
    by_cases l : i < c
    · rw [(tk_iff f (f i) c).2 ⟨i, l, rfl⟩]; simp [l]
    · cases e : tk f c (f i)
      · simp [l]
      · obtain ⟨x, h, k⟩ := (tk_iff f (f i) c).1 e
        have := srt_inj s (by omega) hi k; omega
  · obtain ⟨x, hx, rfl⟩ := (tk_iff f i c).1 ci
    have sur : ∃ y, y < n ∧ f y = k := by
      by_cases h : ∃ y, y < n ∧ f y = k
      · exact h
      · exfalso
        have e := ev (fun v => if v = k then 1 else 0)
        have e1 : sm (fun i => if f i = k then (1 : Int) else 0) n = sm (fun _ => 0) n := sm_congr (fun i hi => by rw [if_neg (fun q => h ⟨i, hi, q⟩)])
        have e2 := sm_more (F := fun i => if i = k then (1 : Int) else 0) (a := 0) (b := n) (k := k) (by omega) hk (fun i _ _ => by split <;> omega) (by simp)
        rw [sm_const] at e1
        have e3 : sm (fun i => if i = k then (1 : Int) else 0) 0 = 0 := rfl
        omega
    obtain ⟨y, hy, rfl⟩ := sur
    have l : c ≤ y := by
      by_cases l : c ≤ y
      · exact l
      · rw [(tk_iff f (f y) c).2 ⟨y, by omega, rfl⟩] at ck; cases ck
    exact s x y (by omega) (by omega) hy

end Go.Proofs.Ytodpmdmfdnbehab.Sr

/- together and Split of package share. -/
namespace Go.Proofs.Ytodpmdmfdnbehab.Sr
set_option linter.unusedSimpArgs false
set_option linter.unusedVariables false
open Go.RowKit Go.Proofs.Ytodpmdmfdnbehab.Vm Go.Proofs.Ytodpmdmfdnbehab.Vc Go.Proofs.Ytodpmdmfdnbehab.Pr Go.Proofs.Ytodpmdmfdnbehab.Rk Go.Proofs.Ytodpmdmfdnbehab.Sm Go.Proofs.Ytodpmdmfdnbehab.Om Go.Proofs.Ytodpmdmfdnbehab.Os

set_option maxHeartbeats 1000000

theorem together_any (A : Option Addr) (n cap : Nat) (zs : List Int) (v er : Int) (w : World) (hn : zs.length = n) (hm2 : (n : Int) ≤ 9223372036854775807) (hf : ∀ z ∈ zs, Fit1 z) (hr : Rd w w.heap.size A zs) (R : AllRes zs v er) :
    Calls Try.prog 12 #[.slice A n cap] w fun e w' => e = .returned (.tuple #[.int .i64 v, .int .i64 er]) ∧ Below w.heap.size w w' := by
  rcases R with ⟨h, rfl, rfl⟩ | ⟨h, ⟨y, hy, y0⟩, rfl, rfl⟩ | ⟨h, hp, R⟩
  · have d1 : decide ((4096 : Int) < (n : Int)) = true := decide_eq_true (by omega)
    clear hf hr hn h
    go_enter Try.func12, Try.ntmps12
    go_wp2
    go_ret2
    exact ⟨rfl, Below.refl _ w⟩
  · have d1 : decide ((4096 : Int) < (n : Int)) = false := decide_eq_false (by omega)
    have HN := Lib.hid hn
    have HR := Lib.hid hr
    have HF := Lib.hid hf
    have HY := Lib.hid (And.intro hy y0)
    clear hf hr hn h hy y0
    go_enter Try.func12, Try.ntmps12
    go_wp2
    go_loop [13] (fun x => ∃ k : Nat, k ≤ n ∧ x = .int .i64 k ∧ Hid (∀ i, i < k → 0 ≤ zs.getD i 0)) (fun x => n - (intOf x).toNat)
    case atStart => exact ⟨0, by omega, rfl, Lib.hid (fun i hi => by omega)⟩
    case round =>
      obtain ⟨k, hk, rfl, hg⟩ := hrel
      by_cases hlt : k < n
      · have hk2 : k < zs.length := by rw [HN.out]; exact hlt
        obtain ⟨b, off, rfl, hb0, hcell⟩ := HR.out.resolve_left (by intro e; rw [e] at hk2; simp at hk2)
        have hc1 := hcell k hk2
        obtain ⟨z, hz⟩ : ∃ s, zs.getD k 0 = s := ⟨_, rfl⟩
        rw [hz] at hc1
        clear hcell
        by_cases z0 : z < 0
        · clear hz hk2
          go_wp2
          go_ret2
          exact ⟨rfl, Below.refl _ w⟩
        · have hg2 : Hid (∀ i, i < k + 1 → 0 ≤ zs.getD i 0) := Lib.hid (fun i hi => by
            by_cases e : i = k
            · subst e; omega
            · exact hg.out i (by omega))
          clear hz hk2 hg
          go_wp2
          go_round
          case rel => exact ⟨k + 1, by omega, by go_num, hg2⟩
          case measure => simp [intOf]; omega
      · exfalso
        obtain ⟨j, hj, e⟩ := List.getElem_of_mem HY.out.1
        have := hg.out j (by have := HN.out; omega)
        rw [show zs.getD j 0 = zs[j] by simp [List.getD, hj], e] at this
        have := HY.out.2
        omega
  · have d1 : decide ((4096 : Int) < (n : Int)) = false := decide_eq_false (by omega)
    obtain ⟨s, es, rs⟩ := res1_ex zs.sum
    have cs := fun w h => Vc.Sum_any A n cap zs s es w hn hm2 hf h rs
    have O : (es ≠ 0 ∧ v = 0 ∧ er = es) ∨ (es = 0 ∧ s = 0 ∧ v = 0 ∧ er = 3) ∨ (es = 0 ∧ s ≠ 0 ∧ v = s ∧ er = 0) := by
      rcases rs with ⟨rfl, rfl, f⟩ | ⟨rfl, rfl, f⟩ <;> rcases R with ⟨g, rfl, rfl⟩ | ⟨g, rfl, rfl⟩ | ⟨g, g2, rfl, rfl⟩
      · exact absurd f g
      · exact .inr (.inl ⟨rfl, g, rfl, rfl⟩)
      · exact .inr (.inr ⟨rfl, by omega, rfl, rfl⟩)
      · exact .inl ⟨by decide, rfl, rfl⟩
      · exact absurd (by rw [g]; unfold Fit1; omega) f
      · exact absurd g2 f
    have HN := Lib.hid hn
    have HR := Lib.hid hr
    have HP := Lib.hid hp
    clear hf hr hn h hp R rs
    go_enter Try.func12, Try.ntmps12
    go_wp2
    go_loop [13] (fun x => ∃ k : Nat, k ≤ n ∧ x = .int .i64 k) (fun x => n - (intOf x).toNat)
    case atStart => exact ⟨0, by omega, rfl⟩
    case round =>
      obtain ⟨k, hk, rfl⟩ := hrel
      by_cases hlt : k < n
      · have hk2 : k < zs.length := by rw [HN.out]; exact hlt
        have z0 := HP.out _ (getD_mem hk2)
        obtain ⟨b, off, rfl, hb0, hcell⟩ := HR.out.resolve_left (by intro e; rw [e] at hk2; simp at hk2)
        have hc1 := hcell k hk2
        obtain ⟨z, hz⟩ : ∃ s, zs.getD k 0 = s := ⟨_, rfl⟩
        rw [hz] at hc1 z0
        clear hcell hz hk2
        go_wp2
        go_round
        case rel => exact ⟨k + 1, by omega, by go_num⟩
        case measure => simp [intOf]; omega
      · go_wp2_with fail
        refine (cs _ HR.out).mono ?_
        rintro e w1 ⟨rfl, hb⟩
        rcases O with ⟨o, rfl, rfl⟩ | ⟨rfl, rfl, rfl, rfl⟩ | ⟨rfl, o, rfl, rfl⟩
        · have q1 : (er != 0) = true := bne_iff_ne.2 o
          clear o
          go_wp2
          go_ret2
          exact ⟨rfl, hb⟩
        · go_wp2
          go_ret2
          exact ⟨rfl, hb⟩
        · have q1 : (v == 0) = false := beq_eq_false_iff_ne.2 o
          clear o
          go_wp2
          go_ret2
          exact ⟨rfl, hb⟩

end Go.Proofs.Ytodpmdmfdnbehab.Sr

/- Split of package share, where the weights may be. -/
namespace Go.Proofs.Ytodpmdmfdnbehab.Sr
set_option linter.unusedSimpArgs false
set_option linter.unusedVariables false
open Go.RowKit Go.Proofs.Ytodpmdmfdnbehab.Vm Go.Proofs.Ytodpmdmfdnbehab.Vc Go.Proofs.Ytodpmdmfdnbehab.Pr Go.Proofs.Ytodpmdmfdnbehab.Rk Go.Proofs.Ytodpmdmfdnbehab.Sm Go.Proofs.Ytodpmdmfdnbehab.Om Go.Proofs.Ytodpmdmfdnbehab.Os

set_option maxHeartbeats 1000000

/-- two rows that Split has made -/
structure Sp (w W : World) (gp gr n : Nat) (po re : Nat → Int) : Prop where
  below : Below w.heap.size w W
  p : Row W gp n po
  r : Row W gr n re
  ne : gp ≠ gr
  lp : w.heap.size ≤ gp
  lr : w.heap.size ≤ gr
section
variable {w W w1 : World} {gp gr n : Nat} {po re : Nat → Int}
theorem Sp.kept (x : Sp w W gp gr n po re) (hb : Below W.heap.size W w1) : Sp w w1 gp gr n po re := ⟨bthen x.below hb, x.p.kept hb, x.r.kept hb, x.ne, x.lp, x.lr⟩
theorem Sp.put (x : Sp w W gp gr n po re) {k : Nat} (hk : k < n) (u v : Int) :
    Sp w ((W.setCell ⟨gp, k, none⟩ (.int .i64 u)).setCell ⟨gr, k, none⟩ (.int .i64 v)) gp gr n (fun i => if i = k then u else po i) (fun i => if i = k then v else re i) :=
  ⟨bset (bset x.below x.lp _ _) x.lr _ _, (x.p.set u hk).other k _ x.ne, (x.r.other k _ (fun e => x.ne e.symm)).set v hk, x.ne, x.lp, x.lr⟩
theorem Sp.congr {po' re' : Nat → Int} (x : Sp w W gp gr n po re) (h1 : ∀ i, i < n → po i = po' i) (h2 : ∀ i, i < n → re i = re' i) : Sp w W gp gr n po' re' :=
  ⟨x.below, row_congr x.p h1, row_congr x.r h2, x.ne, x.lp, x.lr⟩
end

def SplitRes (w : World) (n : Nat) (P : (Nat → Int) → Prop) (e : Ending) (w' : World) : Prop :=
  ∃ (g : Nat) (o : Nat → Int), e = .returned (.tuple #[.slice (some ⟨g, 0, none⟩) n n, .int .i64 0]) ∧ Row w' g n o ∧ w.heap.size ≤ g ∧ P o ∧ Below w.heap.size w w'

theorem split_go (A : Option Addr) (n cap : Nat) (zs : List Int) (a : Int) (w : World) (hn : zs.length = n) (n0 : 0 < n) (n1 : n ≤ 4096) (fa : Fit1 a) (hf : ∀ z ∈ zs, Fit1 z) (hr : Rd w w.heap.size A zs) (hp : ∀ z ∈ zs, 0 ≤ z) (hs : 0 < zs.sum) (fs : Fit1 zs.sum) :
    Calls Try.prog 6 #[.int .i64 a, .slice A n cap] w (SplitRes w n (IsSplit a (wt zs) n)) := by
  have ct := fun w h => together_any A n cap zs zs.sum 0 w hn (by omega) hf h (.inr (.inr ⟨by omega, hp, .inr (.inr ⟨hs, fs, rfl, rfl⟩)⟩))
  obtain ⟨b, off, rfl, hb, hcell⟩ := hr.resolve_left (by intro e; rw [e] at hn; simp at hn; omega)
  have M : MayBe (wt zs) n := by rw [← hn]; exact may_list hp hs
  have te : tot (wt zs) n = zs.sum := by rw [← hn]; exact sm_list zs
  obtain ⟨t, ht⟩ : ∃ t, t = zs.sum := ⟨_, rfl⟩
  rw [← ht] at ct te hs fs
  obtain ⟨x, hx⟩ : ∃ x, x = wt zs := ⟨_, rfl⟩
  have hcell2 : ∀ i, i < n → w.cell? ⟨b, off + i, none⟩ = some (.int .i64 (x i)) := fun i hi => by rw [hx]; exact hcell i (by omega)
  have fx : ∀ i, i < n → Fit1 (x i) := fun i hi => by rw [hx]; exact hf _ (getD_mem (by omega))
  rw [← hx] at M te ⊢
  have CM : Hid (∀ i W, i < n → Calls Try.prog 13 #[.int .i64 a, .int .i64 (x i), .int .i64 t] W fun e w' => e = .returned (.tuple #[.int .i64 (quo a x n i), .int .i64 (rem a x n i), .int .i64 0]) ∧ Below W.heap.size W w') :=
    Lib.hid (fun i W hi => Vl.muldiv_to a (x i) t (quo a x n i) (rem a x n i) 0 W fa (fx i hi) fs (.inr (.inr (.inr ⟨hs, rfl, quo_fit fa M hi, by unfold quo; rw [te], by unfold rem; rw [te]⟩))))
  have HX := Lib.hid hcell2
  have HM := Lib.hid M
  have HA := Lib.hid fa
  have ct0 := ct w hr
  obtain ⟨cs, hmk, hrow⟩ := make_row infoL underL n (by omega)
  have HR := Lib.hid hrow
  clear ct hcell hcell2 M te fx hr hp hf hn ht hx hs fs hrow
  go_enter Try.func6, Try.ntmps6
  go_wp2_with fail
  refine ct0.mono ?_
  rintro e w1 ⟨rfl, hb1⟩
  clear ct0
  have R1 := ((HR.out w1).kept (balloc (Below.refl _ _) (.cells cs 2))).kept (bdrewN (Below.refl _ _) 1)
  have R2 := (HR.out (w1.alloc (.cells cs 2))).kept (bdrewN (Below.refl _ _) 1)
  rw [World.size_alloc] at R2
  have BB : Below w.heap.size w ((w1.alloc (.cells cs 2)).alloc (.cells cs 2)).drew := bdrewN (balloc (balloc hb1 _) _) 1
  have SZ := hb1.size
  go_wp2_with fail
  go_region
  · have X : Sp w ((w1.alloc (.cells cs 2)).alloc (.cells cs 2)).drew w1.heap.size (w1.heap.size + 1) n (fun _ => 0) (fun _ => 0) := ⟨BB, R1, R2, by omega, SZ, by omega⟩
    clear R1 R2 BB SZ
    have FA := HA.out
    generalize ((w1.alloc (.cells cs 2)).alloc (.cells cs 2)).drew = W2 at X ⊢
    generalize w1.heap.size + 1 = G2 at X ⊢
    generalize w1.heap.size = G1 at X ⊢
    clear hb1 hmk FA
    go_wp2
    go_loopw [10, 32] (fun L Y wr => ∃ k : Nat, k ≤ n ∧ Y = .int .i64 k ∧ (∃ l, L = .int .i64 l ∧ Hid (l = IntKind.i64.wrap (a - sm (quo a x n) k))) ∧
      Sp w wr G1 G2 n (fun i => if i < k then quo a x n i else 0) (fun i => if i < k then rem a x n i else 0)) (fun _ Y _ => n - (intOf Y).toNat)
    case atStart => exact ⟨0, by omega, rfl, ⟨a, rfl, Lib.hid (by rw [show sm (quo a x n) 0 = 0 from rfl, Int.sub_zero]; exact (IntWalk.i64_in _ (by have := HA.out; unfold Fit1 at this; omega)).symm)⟩, X.congr (fun i _ => by simp) (fun i _ => by simp)⟩
    case round =>
      clear X
      obtain ⟨k, hk, rfl, ⟨l, rfl, HL⟩, X⟩ := hrel
      by_cases hlt : k < n
      · have hc := (X.below.cell (p := ⟨b, off + k, none⟩) hb).trans (HX.out k hlt)
        have cmk := fun W => CM.out k W hlt
        have E : Hid ((∀ i, i < n → (if i = k then quo a x n k else if i < k then quo a x n i else 0) = if i < k + 1 then quo a x n i else 0) ∧ (∀ i, i < n → (if i = k then rem a x n k else if i < k then rem a x n i else 0) = if i < k + 1 then rem a x n i else 0)) := by
          refine Lib.hid ⟨fun i _ => ?_, fun i _ => ?_⟩
          all_goals
            by_cases c1 : i = k
            · subst c1; rw [if_pos rfl, if_pos (by omega)]
            · by_cases c2 : i < k
              · rw [if_neg c1, if_pos c2, if_pos (by omega)]
              · rw [if_neg c1, if_neg c2, if_neg (by omega)]
        have HL2 : Hid (IntKind.i64.wrap (l - quo a x n k) = IntKind.i64.wrap (a - sm (quo a x n) (k + 1))) := Lib.hid (by
          have e1 : sm (quo a x n) (k + 1) = sm (quo a x n) k + quo a x n k := rfl
          have e2 := HL.out
          rw [IntKind.wrap_i64] at e2
          rw [e1, IntKind.wrap_i64, IntKind.wrap_i64]; omega)
        obtain ⟨xk, hxk⟩ : ∃ s, x k = s := ⟨_, rfl⟩
        obtain ⟨q, hq⟩ : ∃ s, quo a x n k = s := ⟨_, rfl⟩
        obtain ⟨r, hr⟩ : ∃ s, rem a x n k = s := ⟨_, rfl⟩
        rw [hxk] at hc
        rw [hxk, hq, hr] at cmk
        rw [hq, hr] at E
        rw [hq] at HL2
        clear hxk hq hr HL
        go_wp2_with fail
        refine (cmk _).mono ?_
        rintro e w2 ⟨rfl, hb2⟩
        replace X := X.kept hb2
        clear hb2 hc cmk
        have p1 := X.p.c k hlt
        have p2 := X.p.fz k hlt
        have r1 := X.r.c k hlt
        have r2 := X.r.fz k hlt
        have ne := X.ne
        generalize (if k < k then quo a x n k else 0) = u1 at p1
        generalize (if k < k then rem a x n k else 0) = u2 at r1
        have r3 : (w2.setCell ⟨G1, k, none⟩ (.int .i64 q)).cell? ⟨G2, k, none⟩ = some (.int .i64 u2) := by
          rw [World.cell?_setCell_other _ _ _ _ (by intro e; simp only [Addr.mk.injEq] at e; omega)]; exact r1
        have X2 := X.put hlt q r
        have p3 := X2.p.c k hlt
        simp only [if_true] at p3
        have X3 := X2.congr E.out.1 E.out.2
        have pp : (0 : Int) ≤ (k : Int) := by omega
        have bp : (k : Int) < (n : Int) := by omega
        clear X X2 E ne
        go_wp2
        go_roundw
        case rel => exact ⟨k + 1, by omega, by go_num, ⟨_, rfl, Lib.hid (by rw [← IntWalk.i64_left]; exact HL2.out)⟩, X3⟩
        case measure => simp [intOf] <;> omega
      · obtain rfl : k = n := by omega
        have lb := left_bd (a := a) HM.out
        obtain ⟨c, hc⟩ : ∃ c : Nat, (c : Int) = left a x k := ⟨(left a x k).toNat, by omega⟩
        have cn : c ≤ k := by omega
        obtain rfl : l = (c : Int) := by
          rw [HL.out, ← (left_is HM.out).1, ← hc]
          exact IntWalk.i64_in _ (by omega)
        have HC := Lib.hid hc
        have XR := row_congr X.r (f' := rem a x k) (fun i hi => by simp only [hi, if_true])
        have XP := row_congr X.p (f' := quo a x k) (fun i hi => by simp only [hi, if_true])
        have B2 := X.below
        have LP := X.lp
        clear hc lb HL X
        go_wp2_with fail
        refine (furthest_go G2 k k (rem a x k) _ XR n0 (by omega)).mono ?_
        rintro e w2 ⟨f, rfl, F, fb, srt, pm, hb2⟩
        have HB := Lib.hid (And.intro fb (And.intro srt pm))
        have XP2 := XP.kept hb2
        have lt2 := XP.lt
        have B3 := bthen B2 hb2
        clear fb srt pm hb2 XP XR B2
        generalize hh : wr.heap.size + 1 = h at F ⊢
        have nh : G1 ≠ h := by omega
        clear hh lt2
        go_wp2_with fail
        go_loopw [63] (fun Y wr => ∃ j : Nat, j ≤ c ∧ Y = .int .i64 j ∧ Row wr G1 k (fun i => quo a x k i + one (tk f j i)) ∧ Row wr h k (fun i => (f i : Int)) ∧ Below w.heap.size w wr) (fun Y _ => c - (intOf Y).toNat)
        case atStart => exact ⟨0, by omega, rfl, row_congr XP2 (fun i _ => by simp [tk, one]), F, B3⟩
        case round =>
          clear XP2 F B3
          obtain ⟨j, hj, rfl, XP, F, B3⟩ := hrel
          by_cases hlt : j < c
          · have kj : j < k := by omega
            have fc := F.c j kj
            have fb := HB.out.1 j kj
            have p1 := XP.c (f j) fb
            have p2 := XP.fz (f j) fb
            have T := tk_new HB.out.2.1 kj
            rw [T] at p1
            have BE : Best (rem a x k) k (left a x k) (tk f c) := by rw [← HC.out]; exact first_best HB.out.2.1 HB.out.2.2 cn
            have r0 := more_pos HM.out BE fb ((tk_iff f (f j) c).2 ⟨j, hlt, rfl⟩)
            have up := quo_up HA.out HM.out fb r0
            have qf := quo_fit HA.out HM.out fb
            unfold Fit1 at qf
            obtain ⟨q0, _⟩ := qf
            have e0 : quo a x k (f j) + one false = quo a x k (f j) := by simp [one]
            rw [e0] at p1
            have XP2 := row_congr (XP.set (k := f j) (quo a x k (f j) + 1) fb) (f' := fun i => quo a x k i + one (tk f (j + 1) i)) (fun i _ => by
              rw [show tk f (j + 1) i = (if f j = i then true else tk f j i) from rfl]
              by_cases c1 : i = f j
              · subst c1; simp [one]
              · rw [if_neg c1, if_neg (fun e => c1 e.symm)])
            have F2 := F.other (f j) (.int .i64 (quo a x k (f j) + 1)) (fun e => nh e.symm)
            have B4 := bset B3 LP (f j) (.int .i64 (quo a x k (f j) + 1))
            have pj : (0 : Int) ≤ (j : Int) := by omega
            have bj : (j : Int) < (c : Int) := by omega
            have pf : (0 : Int) ≤ (f j : Int) := by omega
            have bf : (f j : Int) < (k : Int) := by omega
            generalize quo a x k (f j) = q at *
            generalize f j = y at fc fb p1 p2 XP2 F2 B4 pf bf
            clear T BE r0 e0 XP F B3
            go_wp2
            go_roundw
            case rel => exact ⟨j + 1, by omega, by go_num, XP2, F2, B4⟩
            case measure => simp [intOf] <;> omega
          · obtain rfl : j = c := by omega
            have Y : SplitRes w k (IsSplit a x k) (.returned (.tuple #[.slice (some ⟨G1, 0, none⟩) k k, .int .i64 0])) wr :=
              ⟨G1, _, rfl, XP, LP, ⟨tk f j, by rw [← HC.out]; exact first_best HB.out.2.1 HB.out.2.2 cn, fun i _ => rfl⟩, B3⟩
            have HY := Lib.hid Y
            clear Y XP F B3
            go_wp2
            exact bodyPost_ret (v := .tuple #[.slice (some ⟨G1, 0, none⟩) k k, .int .i64 0]) (by simp [results, Try.results6, go_sem]) rfl HY.out
  · have X : Sp w ((w1.alloc (.cells cs 2)).alloc (.cells cs 2)).drew (w1.heap.size + 1) w1.heap.size n (fun _ => 0) (fun _ => 0) := ⟨BB, R2, R1, by omega, by omega, SZ⟩
    clear R1 R2 BB SZ
    have FA := HA.out
    generalize ((w1.alloc (.cells cs 2)).alloc (.cells cs 2)).drew = W2 at X ⊢
    generalize w1.heap.size + 1 = G2 at X ⊢
    generalize w1.heap.size = G1 at X ⊢
    clear hb1 hmk FA
    go_wp2
    go_loopw [10, 32] (fun L Y wr => ∃ k : Nat, k ≤ n ∧ Y = .int .i64 k ∧ (∃ l, L = .int .i64 l ∧ Hid (l = IntKind.i64.wrap (a - sm (quo a x n) k))) ∧
      Sp w wr G2 G1 n (fun i => if i < k then quo a x n i else 0) (fun i => if i < k then rem a x n i else 0)) (fun _ Y _ => n - (intOf Y).toNat)
    case atStart => exact ⟨0, by omega, rfl, ⟨a, rfl, Lib.hid (by rw [show sm (quo a x n) 0 = 0 from rfl, Int.sub_zero]; exact (IntWalk.i64_in _ (by have := HA.out; unfold Fit1 at this; omega)).symm)⟩, X.congr (fun i _ => by simp) (fun i _ => by simp)⟩
    case round =>
      clear X
      obtain ⟨k, hk, rfl, ⟨l, rfl, HL⟩, X⟩ := hrel
      by_cases hlt : k < n
      · have hc := (X.below.cell (p := ⟨b, off + k, none⟩) hb).trans (HX.out k hlt)
        have cmk := fun W => CM.out k W hlt
        have E : Hid ((∀ i, i < n → (if i = k then quo a x n k else if i < k then quo a x n i else 0) = if i < k + 1 then quo a x n i else 0) ∧ (∀ i, i < n → (if i = k then rem a x n k else if i < k then rem a x n i else 0) = if i < k + 1 then rem a x n i else 0)) := by
          refine Lib.hid ⟨fun i _ => ?_, fun i _ => ?_⟩
          all_goals
            by_cases c1 : i = k
            · subst c1; rw [if_pos rfl, if_pos (by omega)]
            · by_cases c2 : i < k
              · rw [if_neg c1, if_pos c2, if_pos (by omega)]
              · rw [if_neg c1, if_neg c2, if_neg (by omega)]
        have HL2 : Hid (IntKind.i64.wrap (l - quo a x n k) = IntKind.i64.wrap (a - sm (quo a x n) (k + 1))) := Lib.hid (by
          have e1 : sm (quo a x n) (k + 1) = sm (quo a x n) k + quo a x n k := rfl
          have e2 := HL.out
          rw [IntKind.wrap_i64] at e2
          rw [e1, IntKind.wrap_i64, IntKind.wrap_i64]; omega)
        obtain ⟨xk, hxk⟩ : ∃ s, x k = s := ⟨_, rfl⟩
        obtain ⟨q, hq⟩ : ∃ s, quo a x n k = s := ⟨_, rfl⟩
        obtain ⟨r, hr⟩ : ∃ s, rem a x n k = s := ⟨_, rfl⟩
        rw [hxk] at hc
        rw [hxk, hq, hr] at cmk
        rw [hq, hr] at E
        rw [hq] at HL2
        clear hxk hq hr HL
        go_wp2_with fail
        refine (cmk _).mono ?_
        rintro e w2 ⟨rfl, hb2⟩
        replace X := X.kept hb2
        clear hb2 hc cmk
        have p1 := X.p.c k hlt
        have p2 := X.p.fz k hlt
        have r1 := X.r.c k hlt
        have r2 := X.r.fz k hlt
        have ne := X.ne
        generalize (if k < k then quo a x n k else 0) = u1 at p1
        generalize (if k < k then rem a x n k else 0) = u2 at r1
        have r3 : (w2.setCell ⟨G2, k, none⟩ (.int .i64 q)).cell? ⟨G1, k, none⟩ = some (.int .i64 u2) := by
          rw [World.cell?_setCell_other _ _ _ _ (by intro e; simp only [Addr.mk.injEq] at e; omega)]; exact r1
        have X2 := X.put hlt q r
        have p3 := X2.p.c k hlt
        simp only [if_true] at p3
        have X3 := X2.congr E.out.1 E.out.2
        have pp : (0 : Int) ≤ (k : Int) := by omega
        have bp : (k : Int) < (n : Int) := by omega
        clear X X2 E ne
        go_wp2
        go_roundw
        case rel => exact ⟨k + 1, by omega, by go_num, ⟨_, rfl, Lib.hid (by rw [← IntWalk.i64_left]; exact HL2.out)⟩, X3⟩
        case measure => simp [intOf] <;> omega
      · obtain rfl : k = n := by omega
        have lb := left_bd (a := a) HM.out
        obtain ⟨c, hc⟩ : ∃ c : Nat, (c : Int) = left a x k := ⟨(left a x k).toNat, by omega⟩
        have cn : c ≤ k := by omega
        obtain rfl : l = (c : Int) := by
          rw [HL.out, ← (left_is HM.out).1, ← hc]
          exact IntWalk.i64_in _ (by omega)
        have HC := Lib.hid hc
        have XR := row_congr X.r (f' := rem a x k) (fun i hi => by simp only [hi, if_true])
        have XP := row_congr X.p (f' := quo a x k) (fun i hi => by simp only [hi, if_true])
        have B2 := X.below
        have LP := X.lp
        clear hc lb HL X
        go_wp2_with fail
        refine (furthest_go G1 k k (rem a x k) _ XR n0 (by omega)).mono ?_
        rintro e w2 ⟨f, rfl, F, fb, srt, pm, hb2⟩
        have HB := Lib.hid (And.intro fb (And.intro srt pm))
        have XP2 := XP.kept hb2
        have lt2 := XP.lt
        have B3 := bthen B2 hb2
        clear fb srt pm hb2 XP XR B2
        generalize hh : wr.heap.size + 1 = h at F ⊢
        have nh : G2 ≠ h := by omega
        clear hh lt2
        go_wp2_with fail
        go_loopw [63] (fun Y wr => ∃ j : Nat, j ≤ c ∧ Y = .int .i64 j ∧ Row wr G2 k (fun i => quo a x k i + one (tk f j i)) ∧ Row wr h k (fun i => (f i : Int)) ∧ Below w.heap.size w wr) (fun Y _ => c - (intOf Y).toNat)
        case atStart => exact ⟨0, by omega, rfl, row_congr XP2 (fun i _ => by simp [tk, one]), F, B3⟩
        case round =>
          clear XP2 F B3
          obtain ⟨j, hj, rfl, XP, F, B3⟩ := hrel
          by_cases hlt : j < c
          · have kj : j < k := by omega
            have fc := F.c j kj
            have fb := HB.out.1 j kj
            have p1 := XP.c (f j) fb
            have p2 := XP.fz (f j) fb
            have T := tk_new HB.out.2.1 kj
            rw [T] at p1
            have BE : Best (rem a x k) k (left a x k) (tk f c) := by rw [← HC.out]; exact first_best HB.out.2.1 HB.out.2.2 cn
            have r0 := more_pos HM.out BE fb ((tk_iff f (f j) c).2 ⟨j, hlt, rfl⟩)
            have up := quo_up HA.out HM.out fb r0
            have qf := quo_fit HA.out HM.out fb
            unfold Fit1 at qf
            obtain ⟨q0, _⟩ := qf
            have e0 : quo a x k (f j) + one false = quo a x k (f j) := by simp [one]
            rw [e0] at p1
            have XP2 := row_congr (XP.set (k := f j) (quo a x k (f j) + 1) fb) (f' := fun i => quo a x k i + one (tk f (j + 1) i)) (fun i _ => by
              rw [show tk f (j + 1) i = (if f j = i then true else tk f j i) from rfl]
              by_cases c1 : i = f j
              · subst c1; simp [one]
              · rw [if_neg c1, if_neg (fun e => c1 e.symm)])
            have F2 := F.other (f j) (.int .i64 (quo a x k (f j) + 1)) (fun e => nh e.symm)
            have B4 := bset B3 LP (f j) (.int .i64 (quo a x k (f j) + 1))
            have pj : (0 : Int) ≤ (j : Int) := by omega
            have bj : (j : Int) < (c : Int) := by omega
            have pf : (0 : Int) ≤ (f j : Int) := by omega
            have bf : (f j : Int) < (k : Int) := by omega
            generalize quo a x k (f j) = q at *
            generalize f j = y at fc fb p1 p2 XP2 F2 B4 pf bf
            clear T BE r0 e0 XP F B3
            go_wp2
            go_roundw
            case rel => exact ⟨j + 1, by omega, by go_num, XP2, F2, B4⟩
            case measure => simp [intOf] <;> omega
          · obtain rfl : j = c := by omega
            have Y : SplitRes w k (IsSplit a x k) (.returned (.tuple #[.slice (some ⟨G2, 0, none⟩) k k, .int .i64 0])) wr :=
              ⟨G2, _, rfl, XP, LP, ⟨tk f j, by rw [← HC.out]; exact first_best HB.out.2.1 HB.out.2.2 cn, fun i _ => rfl⟩, B3⟩
            have HY := Lib.hid Y
            clear Y XP F B3
            go_wp2
            exact bodyPost_ret (v := .tuple #[.slice (some ⟨G2, 0, none⟩) k k, .int .i64 0]) (by simp [results, Try.results6, go_sem]) rfl HY.out

end Go.Proofs.Ytodpmdmfdnbehab.Sr

/- What the laws of layer 4 go by: Split at whatever weights, two lists held against each other, live. -/
namespace Go.Proofs.Ytodpmdmfdnbehab.Sl
set_option linter.unusedSimpArgs false
set_option linter.unusedVariables false
open Go.RowKit Go.Proofs.Ytodpmdmfdnbehab.Vm Go.Proofs.Ytodpmdmfdnbehab.Vc Go.Proofs.Ytodpmdmfdnbehab.Pr Go.Proofs.Ytodpmdmfdnbehab.Rk Go.Proofs.Ytodpmdmfdnbehab.Sm Go.Proofs.Ytodpmdmfdnbehab.Om Go.Proofs.Ytodpmdmfdnbehab.Os Go.Proofs.Ytodpmdmfdnbehab.Sr

set_option maxHeartbeats 1000000

theorem rdk {w w1 : World} {A : Option Addr} {zs : List Int} (h : Rd w w.heap.size A zs) (hb : Below w.heap.size w w1) : Rd w1 w1.heap.size A zs := by
  rcases h with h | ⟨b, off, hA, hlt, hc⟩
  · exact .inl h
  · exact .inr ⟨b, off, hA, Nat.lt_of_lt_of_le hlt hb.size, fun i hi => (hb.cell (p := ⟨b, off + i, none⟩) hlt).trans (hc i hi)⟩
theorem rdk' {w w0 w1 : World} {A : Option Addr} {zs : List Int} (h : Rd w w.heap.size A zs) (hb : Below w.heap.size w w1) : Rd w1 w1.heap.size A zs := rdk h hb

/-- the first n values of o -/
def ls (o : Nat → Int) (n : Nat) : List Int := (List.range n).map o
theorem ls_len (o : Nat → Int) (n : Nat) : (ls o n).length = n := by simp [ls]
theorem ls_at (o : Nat → Int) {n i : Nat} (h : i < n) : (ls o n).getD i 0 = o i := by simp [ls, List.getD, h]
theorem ls_sum (o : Nat → Int) (n : Nat) : (ls o n).sum = sm o n := by
  have h := sm_list (ls o n)
  rw [ls_len] at h
  rw [← h]
  exact sm_congr (fun i hi => ls_at o hi)
theorem row_rd {W : World} {g n : Nat} {o : Nat → Int} (r : Row W g n o) : Rd W W.heap.size (some ⟨g, 0, none⟩) (ls o n) :=
  .inr ⟨g, 0, rfl, r.lt, fun i hi => by
    rw [ls_len] at hi
    rw [ls_at o hi, Nat.zero_add]; exact r.c i hi⟩

/-- why weights may not be -/
theorem all_err {zs : List Int} {v er : Int} (R : AllRes zs v er) : (er = 0 ∧ zs.length ≤ 4096 ∧ (∀ z ∈ zs, 0 ≤ z) ∧ 0 < zs.sum ∧ Fit1 zs.sum ∧ v = zs.sum) ∨ (er ≠ 0 ∧ v = 0) := by
  rcases R with ⟨_, h, rfl⟩ | ⟨_, _, h, rfl⟩ | ⟨h1, h2, ⟨_, h, rfl⟩ | ⟨_, h, rfl⟩ | ⟨h3, h4, h5, rfl⟩⟩
  · exact .inr ⟨by decide, h⟩
  · exact .inr ⟨by decide, h⟩
  · exact .inr ⟨by decide, h⟩
  · exact .inr ⟨by decide, h⟩
  · exact .inl ⟨rfl, h1, h2, h3, h4, h5⟩

theorem split_no (A : Option Addr) (n cap : Nat) (zs : List Int) (a v er : Int) (w : World) (hn : zs.length = n) (hm2 : (n : Int) ≤ 9223372036854775807) (hf : ∀ z ∈ zs, Fit1 z) (hr : Rd w w.heap.size A zs) (R : AllRes zs v er) (h : er ≠ 0) :
    Calls Try.prog 6 #[.int .i64 a, .slice A n cap] w fun e w' => e = .returned (.tuple #[.slice none 0 0, .int .i64 er]) ∧ Below w.heap.size w w' := by
  have ct := together_any A n cap zs v er w hn hm2 hf hr R
  have d : (er != 0) = true := bne_iff_ne.2 h
  clear R h hf hr hn
  go_enter Try.func6, Try.ntmps6
  go_wp2_with fail
  refine ct.mono ?_
  rintro e w1 ⟨rfl, hb1⟩
  go_wp2
  go_ret2
  exact ⟨rfl, hb1⟩

theorem Same_yes (A B : Option Addr) (n c1 c2 : Nat) (f : Nat → Int) (w : World) (hm : (n : Int) ≤ 9223372036854775807) (hA : n = 0 ∨ ∃ b off, A = some ⟨b, off, none⟩ ∧ ∀ i, i < n → w.cell? ⟨b, off + i, none⟩ = some (.int .i64 (f i)))
    (hB : n = 0 ∨ ∃ b off, B = some ⟨b, off, none⟩ ∧ ∀ i, i < n → w.cell? ⟨b, off + i, none⟩ = some (.int .i64 (f i))) :
    Calls Try.prog 10 #[.slice A n c1, .slice B n c2] w fun e w' => e = .returned (.bool true) ∧ Below w.heap.size w w' := by
  have HA := Lib.hid hA
  have HB := Lib.hid hB
  clear hA hB
  go_enter Try.func10, Try.ntmps10
  go_wp2
  go_loopw [13] (fun x wr => ∃ k : Nat, k ≤ n ∧ x = .int .i64 k ∧ ∃ q, wr = w.drewN q) (fun x _ => n - (intOf x).toNat)
  case atStart => exact ⟨0, by omega, rfl, 0, rfl⟩
  case round =>
    obtain ⟨k, hk, rfl, q, rfl⟩ := hrel
    by_cases hlt : k < n
    · obtain ⟨b1, o1, rfl, h1⟩ := HA.out.resolve_left (by omega)
      obtain ⟨b2, o2, rfl, h2⟩ := HB.out.resolve_left (by omega)
      have k1 := h1 k hlt
      have k2 := h2 k hlt
      generalize f k = v at k1 k2
      have pp : (0 : Int) ≤ (k : Int) := by omega
      have bp : (k : Int) < (n : Int) := by omega
      clear h1 h2
      go_wp2_with fail
      go_quiet (fail)
      go_wp2
      go_roundw
      case rel => exact ⟨k + 1, by omega, by go_num, _, rfl⟩
      case measure => simp [intOf] <;> omega
    · obtain rfl : k = n := by omega
      go_wp2
      go_ret
      exact ⟨rfl, bdrewN (Below.refl _ w) _⟩

theorem split_congr {a : Int} {w w' : Nat → Int} {n : Nat} {o : Nat → Int} (h : ∀ i, i < n → w i = w' i) (s : IsSplit a w n o) : IsSplit a w' n o := by
  have t : tot w n = tot w' n := sm_congr h
  have q : ∀ i, i < n → quo a w n i = quo a w' n i := fun i hi => by unfold quo; rw [t, h i hi]
  have r : ∀ i, i < n → rem a w n i = rem a w' n i := fun i hi => by unfold rem; rw [t, h i hi]
  have l : left a w n = left a w' n := by unfold left; rw [t, sm_congr r]
  obtain ⟨C, hC, e⟩ := s
  refine ⟨C, ⟨by rw [← l]; exact hC.1, fun i k hi hk ci ck => ?_⟩, fun i hi => by rw [← q i hi]; exact e i hi⟩
  have := hC.2 i k hi hk ci ck
  unfold Ahead at this ⊢
  rw [← r i hi, ← r k hk]; exact this

theorem split_fit {a : Int} {w : Nat → Int} {n : Nat} {o : Nat → Int} (fa : Fit1 a) (h : MayBe w n) (s : IsSplit a w n o) : ∀ i, i < n → Fit1 (o i) := by
  obtain ⟨C, hC, e⟩ := s
  intro i hi
  have q := quo_fit fa h hi
  rw [e i hi]
  cases ci : C i
  · simpa [one] using q
  · have u := quo_up fa h hi (more_pos h hC hi ci)
    unfold Fit1 at *; simp [one]; omega
theorem ls_fit {o : Nat → Int} {n : Nat} (h : ∀ i, i < n → Fit1 (o i)) : ∀ z ∈ ls o n, Fit1 z := by
  intro z hz
  unfold ls at hz
  obtain ⟨i, hi, rfl⟩ := List.mem_map.1 hz
  exact h i (List.mem_range.1 hi)

theorem slive_ok (w : World) : Calls Try.prog 5 #[] w fun e w' => e = .returned (.bool true) ∧ Below w.heap.size w w' := by
  have E := split_even (a := 10) (x := 1) (by decide) (k := 3) (by decide)
  have hr : Rd (w.alloc (.cells #[.int .i64 1, .int .i64 1, .int .i64 1] 2)) (w.alloc (.cells #[.int .i64 1, .int .i64 1, .int .i64 1] 2)).heap.size (some ⟨w.heap.size, 0, none⟩) [1, 1, 1] :=
    .inr ⟨w.heap.size, 0, rfl, by simp, fun i hi => by
      match i, hi with
      | 0, _ => simp [go_sem]
      | 1, _ => simp [go_sem]
      | 2, _ => simp [go_sem]⟩
  have cs := split_go (some ⟨w.heap.size, 0, none⟩) 3 3 [1, 1, 1] 10 _ rfl (by decide) (by decide) (by unfold Fit1; omega) (by intro z hz; simp at hz; subst hz; unfold Fit1; omega) hr (by intro z hz; simp at hz; subst hz; decide) (by decide) (by unfold Fit1; decide)
  have U : ∀ o, IsSplit 10 (wt [1, 1, 1]) 3 o → o 0 = 4 ∧ o 1 = 3 ∧ o 2 = 3 := by
    intro o ho
    have ho2 : IsSplit 10 (fun _ => 1) 3 o := split_congr (fun i hi => by
      match i, hi with
      | 0, _ => rfl
      | 1, _ => rfl
      | 2, _ => rfl) ho
    have u := split_unique ho2 E.2
    exact ⟨(u 0 (by omega)).trans (by decide), (u 1 (by omega)).trans (by decide), (u 2 (by omega)).trans (by decide)⟩
  have HU := Lib.hid U
  clear E hr U
  go_enter Try.func5, Try.ntmps5
  go_wp2_with fail
  refine cs.mono ?_
  rintro e w1 ⟨g, o, rfl, ro, gl, ho, hb⟩
  have U := HU.out o ho
  have B1 := bthen (balloc (Below.refl _ w) _) hb
  have S := Same_yes (some ⟨g, 0, none⟩) (some ⟨w1.heap.size, 0, none⟩) 3 3 3 o (w1.alloc (.cells #[.int .i64 4, .int .i64 3, .int .i64 3] 2)) (by omega)
    (.inr ⟨g, 0, rfl, fun i hi => by rw [Nat.zero_add]; exact (ro.kept (balloc (Below.refl _ _) _)).c i hi⟩)
    (.inr ⟨w1.heap.size, 0, rfl, fun i hi => by
      match i, hi with
      | 0, _ => rw [U.1]; simp [go_sem]
      | 1, _ => rw [U.2.1]; simp [go_sem]
      | 2, _ => rw [U.2.2]; simp [go_sem]⟩)
  clear U ho hb ro
  go_wp2_with fail
  refine S.mono ?_
  rintro e w2 ⟨rfl, hb2⟩
  have B2 := bthen (balloc B1 _) hb2
  go_wp2
  go_ret
  exact ⟨rfl, B2⟩

end Go.Proofs.Ytodpmdmfdnbehab.Sl

/- Plain facts for the reference of layer 2: numbers as eight digits; nothing of the program. -/
namespace Go.Proofs.Ytodpmdmfdnbehab.Vm
set_option linter.unusedSimpArgs false
set_option linter.unusedVariables false
open Go.RowKit (wrap32 wrap64)

/-- a digit -/
def Dg (d : Int) : Prop := 0 ≤ d ∧ d ≤ 65535
/-- x has the digits d0 .. d7, the lowest one first -/
def D8 (x d0 d1 d2 d3 d4 d5 d6 d7 : Int) : Prop := Dg d0 ∧ Dg d1 ∧ Dg d2 ∧ Dg d3 ∧ Dg d4 ∧ Dg d5 ∧ Dg d6 ∧ Dg d7 ∧ x = d0 + d1 * 65536 + d2 * 4294967296 + d3 * 281474976710656 + d4 * 18446744073709551616 + d5 * 1208925819614629174706176 + d6 * 79228162514264337593543950336 + d7 * 5192296858534827628530496329220096

theorem d8_ex {x : Int} (h0 : 0 ≤ x) (h1 : x < 340282366920938463463374607431768211456) : ∃ d0 d1 d2 d3 d4 d5 d6 d7, D8 x d0 d1 d2 d3 d4 d5 d6 d7 := by
  refine ⟨x % 65536, x / 65536 % 65536, x / 4294967296 % 65536, x / 281474976710656 % 65536, x / 18446744073709551616 % 65536, x / 1208925819614629174706176 % 65536, x / 79228162514264337593543950336 % 65536, x / 5192296858534827628530496329220096 % 65536, ?_⟩
  unfold D8 Dg
  omega

theorem d8_bd {x d0 d1 d2 d3 d4 d5 d6 d7 : Int} (h : D8 x d0 d1 d2 d3 d4 d5 d6 d7) : 0 ≤ x ∧ x < 340282366920938463463374607431768211456 := by
  unfold D8 Dg at h; omega

theorem d8_inj {x d0 d1 d2 d3 d4 d5 d6 d7 e0 e1 e2 e3 e4 e5 e6 e7 : Int} (h : D8 x d0 d1 d2 d3 d4 d5 d6 d7) (k : D8 x e0 e1 e2 e3 e4 e5 e6 e7) : d0 = e0 ∧ d1 = e1 ∧ d2 = e2 ∧ d3 = e3 ∧ d4 = e4 ∧ d5 = e5 ∧ d6 = e6 ∧ d7 = e7 := by
  unfold D8 Dg at h k; omega

/-- the words' digits, one by one -/
theorem d8_words {h l d0 d1 d2 d3 d4 d5 d6 d7 : Int} (b0 : 0 ≤ l) (b1 : l ≤ 18446744073709551615) (D : D8 (num h l) d0 d1 d2 d3 d4 d5 d6 d7) : l = d0 + d1 * 65536 + d2 * 4294967296 + d3 * 281474976710656 ∧ h = d4 + d5 * 65536 + d6 * 4294967296 + d7 * 281474976710656 := by
  unfold D8 Dg num at D; omega
theorem dg4_steps {l d0 d1 d2 d3 : Int} (c0 : Dg d0) (c1 : Dg d1) (c2 : Dg d2) (c3 : Dg d3) (e : l = d0 + d1 * 65536 + d2 * 4294967296 + d3 * 281474976710656) :
    ∃ m1 m2 m3 : Int, l % 65536 = d0 ∧ l / 65536 = m1 ∧ m1 % 65536 = d1 ∧ m1 / 65536 = m2 ∧ m2 % 65536 = d2 ∧ m2 / 65536 = m3 ∧ m3 % 65536 = d3 ∧ 0 ≤ m1 ∧ 0 ≤ m2 ∧ 0 ≤ m3 ∧ m1 ≤ 18446744073709551615 ∧ m2 ≤ 18446744073709551615 ∧ m3 ≤ 18446744073709551615 := by
  unfold Dg at *
  refine ⟨d1 + d2 * 65536 + d3 * 4294967296, d2 + d3 * 65536, d3, ?_⟩
  omega

end Go.Proofs.Ytodpmdmfdnbehab.Vm

/- What put, words and of of the reference of layer 2 come to: a number as a sign and eight digits. -/
namespace Go.Proofs.Ytodpmdmfdnbehab.Vr
set_option linter.unusedSimpArgs false
set_option linter.unusedVariables false
open Go.RowKit Go.Proofs.Ytodpmdmfdnbehab.Vm Go.Proofs.Ytodpmdmfdnbehab.Vc

set_option maxHeartbeats 400000

theorem put_at (s : Bool) (h l d0 d1 d2 d3 d4 d5 d6 d7 : Int) (w : World) (h0 : 0 ≤ h) (h1 : h ≤ 18446744073709551615) (l0 : 0 ≤ l) (l1 : l ≤ 18446744073709551615) (D : D8 (num h l) d0 d1 d2 d3 d4 d5 d6 d7) :
    Calls Try.prog 35 #[.bool s, .int .u64 h, .int .u64 l] w fun e w' => e = .returned (.agg #[.bool s, .int .u64 d0, .int .u64 d1, .int .u64 d2, .int .u64 d3, .int .u64 d4, .int .u64 d5, .int .u64 d6, .int .u64 d7]) ∧
      w' = (w.alloc (.cells #[.bool s, .int .u64 d0, .int .u64 d1, .int .u64 d2, .int .u64 d3, .int .u64 d4, .int .u64 d5, .int .u64 d6, .int .u64 d7] 61)).alloc (.cells #[.bool s, .int .u64 d0, .int .u64 d1, .int .u64 d2, .int .u64 d3, .int .u64 d4, .int .u64 d5, .int .u64 d6, .int .u64 d7] 61) := by
  obtain ⟨el, eh⟩ := d8_words l0 l1 D
  obtain ⟨c0, c1, c2, c3, c4, c5, c6, c7, _⟩ := D
  obtain ⟨m1, m2, m3, a0, a1, a2, a3, a4, a5, a6, a7, a8, a9, a10, a11, a12⟩ := dg4_steps c0 c1 c2 c3 el
  obtain ⟨n1, n2, n3, b0, b1, b2, b3, b4, b5, b6, b7, b8, b9, b10, b11, b12⟩ := dg4_steps c4 c5 c6 c7 eh
  clear el eh c0 c1 c2 c3 c4 c5 c6 c7
  go_enter Try.func35, Try.ntmps35
  go_wp2
  refine wp_loop_rounds 5 ?_
  rw [rounds_succ]
  go_wp2
  rw [rounds_succ]
  go_wp2
  rw [rounds_succ]
  go_wp2
  rw [rounds_succ]
  go_wp2
  rw [rounds_succ]
  go_wp2
  refine bodyPost_ret (v := .agg #[.bool s, .int .u64 d0, .int .u64 d1, .int .u64 d2, .int .u64 d3, .int .u64 d4, .int .u64 d5, .int .u64 d6, .int .u64 d7]) (by simp [results, Try.results35, go_sem]) rfl ⟨rfl, rfl⟩

end Go.Proofs.Ytodpmdmfdnbehab.Vr

/- What words and of of the reference of layer 2 come to. -/
namespace Go.Proofs.Ytodpmdmfdnbehab.Vr
set_option linter.unusedSimpArgs false
set_option linter.unusedVariables false
open Go.RowKit Go.Proofs.Ytodpmdmfdnbehab.Vm Go.Proofs.Ytodpmdmfdnbehab.Vc

set_option maxHeartbeats 400000

theorem words_to (s : Bool) (x h l d0 d1 d2 d3 d4 d5 d6 d7 : Int) (w : World) (D : D8 x d0 d1 d2 d3 d4 d5 d6 d7) (eh : Hid (x / 18446744073709551616 = h)) (el : Hid (x % 18446744073709551616 = l)) :
    Calls Try.prog 39 #[.agg #[.bool s, .int .u64 d0, .int .u64 d1, .int .u64 d2, .int .u64 d3, .int .u64 d4, .int .u64 d5, .int .u64 d6, .int .u64 d7]] w fun e w' => e = .returned (.tuple #[.int .u64 h, .int .u64 l]) ∧ Below w.heap.size w w' := by
  have DD := Lib.hid D
  obtain ⟨⟨a0, b0⟩, ⟨a1, b1⟩, ⟨a2, b2⟩, ⟨a3, b3⟩, ⟨a4, b4⟩, ⟨a5, b5⟩, ⟨a6, b6⟩, ⟨a7, b7⟩, e⟩ := D
  have E := Lib.hid e
  clear e
  go_enter Try.func39, Try.ntmps39
  go_wp2
  refine wp_loop_rounds 5 ?_
  rw [rounds_succ]
  go_wp2
  rw [rounds_succ]
  go_wp2
  rw [rounds_succ]
  go_wp2
  rw [rounds_succ]
  go_wp2
  rw [rounds_succ]
  go_wp2
  go_ret2
  refine ⟨?_, (Below.refl _ _).alloc (Nat.le_refl _) _⟩
  have f := E.out
  have f1 := eh.out
  have f2 := el.out
  have g1 : ((d7 * 65536 + d6) * 65536 + d5) * 65536 + d4 = h := by omega
  have g2 : ((d3 * 65536 + d2) * 65536 + d1) * 65536 + d0 = l := by omega
  rw [g1, g2]
  rfl

theorem of_at (h l d0 d1 d2 d3 d4 d5 d6 d7 : Int) (w : World) (B : Bd h l) (D : D8 (num h l).natAbs d0 d1 d2 d3 d4 d5 d6 d7) :
    Calls Try.prog 33 #[.agg #[.int .i64 h, .int .u64 l]] w fun e w' => e = .returned (.agg #[.bool (decide (h < 0)), .int .u64 d0, .int .u64 d1, .int .u64 d2, .int .u64 d3, .int .u64 d4, .int .u64 d5, .int .u64 d6, .int .u64 d7]) ∧
      w' = (((w.alloc (.cells #[.int .i64 h, .int .u64 l] 44)).alloc (.cells #[.bool (decide (h < 0)), .int .u64 d0, .int .u64 d1, .int .u64 d2, .int .u64 d3, .int .u64 d4, .int .u64 d5, .int .u64 d6, .int .u64 d7] 61)).alloc
        (.cells #[.bool (decide (h < 0)), .int .u64 d0, .int .u64 d1, .int .u64 d2, .int .u64 d3, .int .u64 d4, .int .u64 d5, .int .u64 d6, .int .u64 d7] 61)).alloc (.cells #[.bool (decide (h < 0)), .int .u64 d0, .int .u64 d1, .int .u64 d2, .int .u64 d3, .int .u64 d4, .int .u64 d5, .int .u64 d6, .int .u64 d7] 61) := by
  obtain ⟨p1, p2, p3, p4⟩ := B
  by_cases c : 0 ≤ h
  · have ds : decide (h < 0) = false := decide_eq_false (by omega)
    rw [ds]
    have D2 : D8 (num h l) d0 d1 d2 d3 d4 d5 d6 d7 := by
      have e : ((num h l).natAbs : Int) = num h l := by unfold num; omega
      rw [e] at D; exact D
    have cp := fun w => put_at false h l d0 d1 d2 d3 d4 d5 d6 d7 w c (by omega) p3 p4 D2
    clear D D2 ds
    go_enter Try.func33, Try.ntmps33
    go_wp2_with fail
    refine (cp _).mono ?_
    rintro e w1 ⟨rfl, rfl⟩
    go_wp2
    exact bodyPost_ret (v := .agg #[.bool false, .int .u64 d0, .int .u64 d1, .int .u64 d2, .int .u64 d3, .int .u64 d4, .int .u64 d5, .int .u64 d6, .int .u64 d7]) (by simp [results, Try.results33, go_sem]) rfl ⟨rfl, rfl⟩
  · have ds : decide (h < 0) = true := decide_eq_true (by omega)
    have dn : decide (0 ≤ h) = false := decide_eq_false c
    rw [ds]
    by_cases z : l = 0
    · subst z
      have D2 : D8 (num (-(h + 1) + 1) 0) d0 d1 d2 d3 d4 d5 d6 d7 := by
        have e : ((num h 0).natAbs : Int) = num (-(h + 1) + 1) 0 := by unfold num; omega
        rw [e] at D; exact D
      have cp := fun w => put_at true (-(h + 1) + 1) 0 d0 d1 d2 d3 d4 d5 d6 d7 w (by omega) (by omega) (by omega) (by omega) D2
      clear D D2 ds
      go_enter Try.func33, Try.ntmps33
      go_wp2_with fail
      refine (cp _).mono ?_
      rintro e w1 ⟨rfl, rfl⟩
      go_wp2
      exact bodyPost_ret (v := .agg #[.bool true, .int .u64 d0, .int .u64 d1, .int .u64 d2, .int .u64 d3, .int .u64 d4, .int .u64 d5, .int .u64 d6, .int .u64 d7]) (by simp [results, Try.results33, go_sem]) rfl ⟨rfl, rfl⟩
    · have D2 : D8 (num (-(h + 1)) (18446744073709551615 - l + 1)) d0 d1 d2 d3 d4 d5 d6 d7 := by
        have e : ((num h l).natAbs : Int) = num (-(h + 1)) (18446744073709551615 - l + 1) := by unfold num; omega
        rw [e] at D; exact D
      have cp := fun w => put_at true (-(h + 1)) (18446744073709551615 - l + 1) d0 d1 d2 d3 d4 d5 d6 d7 w (by omega) (by omega) (by omega) (by omega) D2
      have z1 : (18446744073709551615 - l == 18446744073709551615) = false := beq_eq_false_iff_ne.2 (by omega)
      have z2 : 1 ≤ l := by omega
      clear D D2 ds z
      go_enter Try.func33, Try.ntmps33
      go_wp2_with fail
      refine (cp _).mono ?_
      rintro e w1 ⟨rfl, rfl⟩
      go_wp2
      exact bodyPost_ret (v := .agg #[.bool true, .int .u64 d0, .int .u64 d1, .int .u64 d2, .int .u64 d3, .int .u64 d4, .int .u64 d5, .int .u64 d6, .int .u64 d7]) (by simp [results, Try.results33, go_sem]) rfl ⟨rfl, rfl⟩

end Go.Proofs.Ytodpmdmfdnbehab.Vr

/- What back of the reference of layer 2 comes to. -/
namespace Go.Proofs.Ytodpmdmfdnbehab.Vr
set_option linter.unusedSimpArgs false
set_option linter.unusedVariables false
open Go.RowKit Go.Proofs.Ytodpmdmfdnbehab.Vm Go.Proofs.Ytodpmdmfdnbehab.Vc

set_option maxHeartbeats 400000

/-- the number of a sign and a size -/
def sgn (s : Bool) (x : Int) : Int := if s then -x else x

/-- what back answers: the words of v, and true; or some words, and false -/
def Backs (v : Int) (w : World) (e : Ending) (w' : World) : Prop :=
  ∃ (h l : Int) (is : Bool), e = .returned (.tuple #[.agg #[.int .i64 h, .int .u64 l], .bool is]) ∧ ((is = true ∧ Res v h l 0) ∨ (is = false ∧ ¬ Fits v)) ∧ Below w.heap.size w w'

theorem back_facts {x hh ll : Int} (h0 : 0 ≤ x) (h1 : x < 340282366920938463463374607431768211456) (eh : x / 18446744073709551616 = hh) (el : x % 18446744073709551616 = ll) :
    0 ≤ hh ∧ hh ≤ 18446744073709551615 ∧ 0 ≤ ll ∧ ll ≤ 18446744073709551615 ∧ x = num hh ll := by unfold num; omega

theorem back_tells (s : Bool) (x d0 d1 d2 d3 d4 d5 d6 d7 : Int) (w : World) (D : D8 x d0 d1 d2 d3 d4 d5 d6 d7) :
    Calls Try.prog 36 #[.agg #[.bool s, .int .u64 d0, .int .u64 d1, .int .u64 d2, .int .u64 d3, .int .u64 d4, .int .u64 d5, .int .u64 d6, .int .u64 d7]] w (Backs (sgn s x) w) := by
  obtain ⟨x0, x1⟩ := d8_bd D
  obtain ⟨hh, ehh⟩ : ∃ t, x / 18446744073709551616 = t := ⟨_, rfl⟩
  obtain ⟨ll, ell⟩ : ∃ t, x % 18446744073709551616 = t := ⟨_, rfl⟩
  obtain ⟨b0, b1, b2, b3, ex⟩ := back_facts x0 x1 ehh ell
  have cw := fun w => words_to s x hh ll d0 d1 d2 d3 d4 d5 d6 d7 w D (Lib.hid ehh) (Lib.hid ell)
  clear D ehh ell x0 x1
  have EX := Lib.hid ex
  clear ex
  cases s
  · by_cases c : hh < 9223372036854775808
    · have d1 : decide (hh < 9223372036854775808) = true := decide_eq_true c
      go_enter Try.func36, Try.ntmps36
      go_wp2_with fail
      refine (cw _).mono ?_
      rintro e w1 ⟨rfl, hb1⟩
      obtain ⟨hc, hf⟩ := bcell hb1

      have B1 : Below w.heap.size w w1 := (((Below.refl _ _).alloc (Nat.le_refl _) _).alloc (by simp) _).trans (hb1.mono (by simp <;> omega))
      go_wp2
      refine bodyPost_ret (v := .tuple #[.agg #[.int .i64 (hh % 9223372036854775808), .int .u64 ll], .bool true]) (by simp [results, Try.results36, go_sem, hc]) rfl ⟨(hh % 9223372036854775808), ll, true, rfl, ?_, (B1.setCell (by simp) _).setCell (by simp) _⟩
      exact .inl ⟨rfl, .inl ⟨rfl, by unfold num; unfold sgn; have := EX.out; unfold num at this; simp; omega, by unfold Bd; omega⟩⟩
    · have d1 : decide (hh < 9223372036854775808) = false := decide_eq_false c
      go_enter Try.func36, Try.ntmps36
      go_wp2_with fail
      refine (cw _).mono ?_
      rintro e w1 ⟨rfl, hb1⟩
      obtain ⟨hc, hf⟩ := bcell hb1

      have B1 : Below w.heap.size w w1 := (((Below.refl _ _).alloc (Nat.le_refl _) _).alloc (by simp) _).trans (hb1.mono (by simp <;> omega))
      go_wp2
      refine bodyPost_ret (v := .tuple #[.agg #[.int .i64 (hh % 9223372036854775808), .int .u64 ll], .bool false]) (by simp [results, Try.results36, go_sem, hc]) rfl ⟨(hh % 9223372036854775808), ll, false, rfl, ?_, (B1.setCell (by simp) _).setCell (by simp) _⟩
      exact .inr ⟨rfl, by unfold sgn Fits; have := EX.out; unfold num at this; simp; omega⟩
  · by_cases c0 : hh = 0 ∧ ll = 0
    · obtain ⟨rfl, rfl⟩ := c0
      go_enter Try.func36, Try.ntmps36
      go_wp2_with fail
      refine (cw _).mono ?_
      rintro e w1 ⟨rfl, hb1⟩
      obtain ⟨hc, hf⟩ := bcell hb1

      have B1 : Below w.heap.size w w1 := (((Below.refl _ _).alloc (Nat.le_refl _) _).alloc (by simp) _).trans (hb1.mono (by simp <;> omega))
      go_wp2
      refine bodyPost_ret (v := .tuple #[.agg #[.int .i64 0, .int .u64 0], .bool true]) (by simp [results, Try.results36, go_sem, hc]) rfl ⟨0, 0, true, rfl, ?_, (B1.setCell (by simp) _).setCell (by simp) _⟩
      exact .inl ⟨rfl, .inl ⟨rfl, by unfold num; unfold sgn; have := EX.out; unfold num at this; simp; omega, by unfold Bd; omega⟩⟩
    · have nz : ((hh == 0) = false ∧ True) ∨ ((hh == 0) = true ∧ (ll == 0) = false) := by
        by_cases h : hh = 0
        · exact .inr ⟨beq_iff_eq.2 h, beq_eq_false_iff_ne.2 (fun h' => c0 ⟨h, h'⟩)⟩
        · exact .inl ⟨beq_eq_false_iff_ne.2 h, trivial⟩
      by_cases c1 : 9223372036854775808 < hh
      · have d1 : decide (9223372036854775808 < hh) = true := decide_eq_true c1
        have d2 : (hh == 0) = false := beq_eq_false_iff_ne.2 (by omega)
        clear nz
        go_enter Try.func36, Try.ntmps36
        go_wp2_with fail
        refine (cw _).mono ?_
        rintro e w1 ⟨rfl, hb1⟩
        obtain ⟨hc, hf⟩ := bcell hb1

        have B1 : Below w.heap.size w w1 := (((Below.refl _ _).alloc (Nat.le_refl _) _).alloc (by simp) _).trans (hb1.mono (by simp <;> omega))
        go_wp2
        refine bodyPost_ret (v := .tuple #[.agg #[.int .i64 0, .int .u64 0], .bool false]) (by simp [results, Try.results36, go_sem, hc]) rfl ⟨0, 0, false, rfl, ?_, (B1.setCell (by simp) _).setCell (by simp) _⟩
        exact .inr ⟨rfl, by unfold sgn Fits; have := EX.out; unfold num at this; simp; omega⟩
      · have d1 : decide (9223372036854775808 < hh) = false := decide_eq_false c1
        by_cases c2 : hh = 9223372036854775808
        · subst c2
          clear nz
          by_cases c3 : 0 < ll
          · have d3 : decide (0 < ll) = true := decide_eq_true c3
            go_enter Try.func36, Try.ntmps36
            go_wp2_with fail
            refine (cw _).mono ?_
            rintro e w1 ⟨rfl, hb1⟩
            obtain ⟨hc, hf⟩ := bcell hb1

            have B1 : Below w.heap.size w w1 := (((Below.refl _ _).alloc (Nat.le_refl _) _).alloc (by simp) _).trans (hb1.mono (by simp <;> omega))
            go_wp2
            refine bodyPost_ret (v := .tuple #[.agg #[.int .i64 0, .int .u64 0], .bool false]) (by simp [results, Try.results36, go_sem, hc]) rfl ⟨0, 0, false, rfl, ?_, (B1.setCell (by simp) _).setCell (by simp) _⟩
            exact .inr ⟨rfl, by unfold sgn Fits; have := EX.out; unfold num at this; simp; omega⟩
          · obtain rfl : ll = 0 := by omega
            go_enter Try.func36, Try.ntmps36
            go_wp2_with fail
            refine (cw _).mono ?_
            rintro e w1 ⟨rfl, hb1⟩
            obtain ⟨hc, hf⟩ := bcell hb1

            have B1 : Below w.heap.size w w1 := (((Below.refl _ _).alloc (Nat.le_refl _) _).alloc (by simp) _).trans (hb1.mono (by simp <;> omega))
            go_wp2
            refine bodyPost_ret (v := .tuple #[.agg #[.int .i64 (-9223372036854775808), .int .u64 0], .bool true]) (by simp [results, Try.results36, go_sem, hc]) rfl ⟨(-9223372036854775808), 0, true, rfl, ?_, (B1.setCell (by simp) _).setCell (by simp) _⟩
            exact .inl ⟨rfl, .inl ⟨rfl, by unfold num; unfold sgn; have := EX.out; unfold num at this; simp; omega, by unfold Bd; omega⟩⟩
        · have d2 : (hh == 9223372036854775808) = false := beq_eq_false_iff_ne.2 c2
          have d4 : decide (hh < 9223372036854775808) = true := decide_eq_true (by omega)
          by_cases c3 : ll = 0
          · subst c3
            have d5 : (hh == 0) = false := beq_eq_false_iff_ne.2 (fun h => c0 ⟨h, rfl⟩)
            have d6 : 1 ≤ hh := by omega
            have d7 : hh ≤ 9223372036854775807 := by omega
            clear nz
            go_enter Try.func36, Try.ntmps36
            go_wp2_with fail
            refine (cw _).mono ?_
            rintro e w1 ⟨rfl, hb1⟩
            obtain ⟨hc, hf⟩ := bcell hb1

            have B1 : Below w.heap.size w w1 := (((Below.refl _ _).alloc (Nat.le_refl _) _).alloc (by simp) _).trans (hb1.mono (by simp <;> omega))
            go_wp2
            refine bodyPost_ret (v := .tuple #[.agg #[.int .i64 (-(hh - 1) - 1), .int .u64 0], .bool true]) (by simp [results, Try.results36, go_sem, hc]) rfl ⟨(-(hh - 1) - 1), 0, true, rfl, ?_, (B1.setCell (by simp) _).setCell (by simp) _⟩
            exact .inl ⟨rfl, .inl ⟨rfl, by unfold num; unfold sgn; have := EX.out; unfold num at this; simp; omega, by unfold Bd; omega⟩⟩
          · have d3 : (ll == 0) = false := beq_eq_false_iff_ne.2 c3
            have d6 : 1 ≤ ll := by omega
            have d7 : hh ≤ 9223372036854775807 := by omega
            rcases nz with ⟨n1, _⟩ | ⟨n1, n2⟩
            all_goals
              go_enter Try.func36, Try.ntmps36
              go_wp2_with fail
              refine (cw _).mono ?_
              rintro e w1 ⟨rfl, hb1⟩
              obtain ⟨hc, hf⟩ := bcell hb1

              have B1 : Below w.heap.size w w1 := (((Below.refl _ _).alloc (Nat.le_refl _) _).alloc (by simp) _).trans (hb1.mono (by simp <;> omega))
              go_wp2
              refine bodyPost_ret (v := .tuple #[.agg #[.int .i64 (-hh - 1), .int .u64 (18446744073709551615 - ll + 1)], .bool true]) (by simp [results, Try.results36, go_sem, hc]) rfl ⟨(-hh - 1), (18446744073709551615 - ll + 1), true, rfl, ?_, (B1.setCell (by simp) _).setCell (by simp) _⟩
              exact .inl ⟨rfl, .inl ⟨rfl, by unfold num; unfold sgn; have := EX.out; unfold num at this; simp; omega, by unfold Bd; omega⟩⟩

end Go.Proofs.Ytodpmdmfdnbehab.Vr

/- What cmp of the reference of layer 2 comes to. -/
namespace Go.Proofs.Ytodpmdmfdnbehab.Vr
set_option linter.unusedSimpArgs false
set_option linter.unusedVariables false
open Go.RowKit Go.Proofs.Ytodpmdmfdnbehab.Vm Go.Proofs.Ytodpmdmfdnbehab.Vc

/-- a draw is moved outward -/
theorem alloc_drewN (w : World) (n : Nat) (o : Obj) : (w.drewN n).alloc o = (w.alloc o).drewN n := rfl
theorem setCell_drewN (w : World) (n : Nat) (a : Addr) (v : Value) : (w.drewN n).setCell a v = (w.setCell a v).drewN n := rfl

set_option maxHeartbeats 1000000

theorem cmp_at (x y v x0 x1 x2 x3 x4 x5 x6 x7 y0 y1 y2 y3 y4 y5 y6 y7 : Int) (w : World) (D : D8 x x0 x1 x2 x3 x4 x5 x6 x7) (E : D8 y y0 y1 y2 y3 y4 y5 y6 y7) (ev : Hid (cv x y = v)) :
    Calls Try.prog 58 #[.agg #[.int .u64 x0, .int .u64 x1, .int .u64 x2, .int .u64 x3, .int .u64 x4, .int .u64 x5, .int .u64 x6, .int .u64 x7], .agg #[.int .u64 y0, .int .u64 y1, .int .u64 y2, .int .u64 y3, .int .u64 y4, .int .u64 y5, .int .u64 y6, .int .u64 y7]] w fun e w' => e = .returned (.int .i64 v) ∧
      ∃ n, w' = ((w.alloc (.cells #[.int .u64 x0, .int .u64 x1, .int .u64 x2, .int .u64 x3, .int .u64 x4, .int .u64 x5, .int .u64 x6, .int .u64 x7] 59)).alloc (.cells #[.int .u64 y0, .int .u64 y1, .int .u64 y2, .int .u64 y3, .int .u64 y4, .int .u64 y5, .int .u64 y6, .int .u64 y7] 59)).drewN n := by
  replace D := Lib.hid D
  replace E := Lib.hid E
  go_enter Try.func58, Try.ntmps58
  go_wp2
  refine wp_loop_rounds 9 ?_
  by_cases c7 : x7 < y7
  · have a7 : decide (x7 < y7) = true := decide_eq_true c7
    rw [rounds_succ]
    go_wp2
    go_quiet (fail)
    go_wp2
    have e1 : cv x y = -1 := by have f1 := D.out; have f2 := E.out; unfold D8 Dg at f1 f2; unfold cv; rw [if_pos (by omega)]
    go_ret
    refine ⟨ret_one (e1.symm.trans ev.out), ?_⟩
    try simp only [World.drewN_drewN]
    exact ⟨_, rfl⟩
  · have a7 : decide (x7 < y7) = false := decide_eq_false c7
    by_cases k7 : y7 < x7
    · have b7 : decide (y7 < x7) = true := decide_eq_true k7
      rw [rounds_succ]
      go_wp2
      go_quiet (fail)
      go_wp2
      go_quiet (fail)
      go_wp2
      have e1 : cv x y = 1 := by have f1 := D.out; have f2 := E.out; unfold D8 Dg at f1 f2; unfold cv; rw [if_neg (by omega), if_pos (by omega)]
      go_ret
      refine ⟨ret_one (e1.symm.trans ev.out), ?_⟩
      try simp only [World.drewN_drewN]
      exact ⟨_, rfl⟩
    · have b7 : decide (y7 < x7) = false := decide_eq_false k7
      have Q7 := Lib.hid (show x7 = y7 by omega)
      rw [rounds_succ]
      go_wp2
      go_quiet (fail)
      go_wp2
      go_quiet (fail)
      go_wp2
      clear a7 b7 c7 k7
      by_cases c6 : x6 < y6
      · have a6 : decide (x6 < y6) = true := decide_eq_true c6
        rw [rounds_succ]
        go_wp2
        go_quiet (fail)
        go_wp2
        have e1 : cv x y = -1 := by have f1 := D.out; have f2 := E.out; have g7 := Q7.out; unfold D8 Dg at f1 f2; unfold cv; rw [if_pos (by omega)]
        go_ret
        refine ⟨ret_one (e1.symm.trans ev.out), ?_⟩
        try simp only [World.drewN_drewN]
        exact ⟨_, rfl⟩
      · have a6 : decide (x6 < y6) = false := decide_eq_false c6
        by_cases k6 : y6 < x6
        · have b6 : decide (y6 < x6) = true := decide_eq_true k6
          rw [rounds_succ]
          go_wp2
          go_quiet (fail)
          go_wp2
          go_quiet (fail)
          go_wp2
          have e1 : cv x y = 1 := by have f1 := D.out; have f2 := E.out; have g7 := Q7.out; unfold D8 Dg at f1 f2; unfold cv; rw [if_neg (by omega), if_pos (by omega)]
          go_ret
          refine ⟨ret_one (e1.symm.trans ev.out), ?_⟩
          try simp only [World.drewN_drewN]
          exact ⟨_, rfl⟩
        · have b6 : decide (y6 < x6) = false := decide_eq_false k6
          have Q6 := Lib.hid (show x6 = y6 by omega)
          rw [rounds_succ]
          go_wp2
          go_quiet (fail)
          go_wp2
          go_quiet (fail)
          go_wp2
          clear a6 b6 c6 k6
          by_cases c5 : x5 < y5
          · have a5 : decide (x5 < y5) = true := decide_eq_true c5
            rw [rounds_succ]
            go_wp2
            go_quiet (fail)
            go_wp2
            have e1 : cv x y = -1 := by have f1 := D.out; have f2 := E.out; have g6 := Q6.out; have g7 := Q7.out; unfold D8 Dg at f1 f2; unfold cv; rw [if_pos (by omega)]
            go_ret
            refine ⟨ret_one (e1.symm.trans ev.out), ?_⟩
            try simp only [World.drewN_drewN]
            exact ⟨_, rfl⟩
          · have a5 : decide (x5 < y5) = false := decide_eq_false c5
            by_cases k5 : y5 < x5
            · have b5 : decide (y5 < x5) = true := decide_eq_true k5
              rw [rounds_succ]
              go_wp2
              go_quiet (fail)
              go_wp2
              go_quiet (fail)
              go_wp2
              have e1 : cv x y = 1 := by have f1 := D.out; have f2 := E.out; have g6 := Q6.out; have g7 := Q7.out; unfold D8 Dg at f1 f2; unfold cv; rw [if_neg (by omega), if_pos (by omega)]
              go_ret
              refine ⟨ret_one (e1.symm.trans ev.out), ?_⟩
              try simp only [World.drewN_drewN]
              exact ⟨_, rfl⟩
            · have b5 : decide (y5 < x5) = false := decide_eq_false k5
              have Q5 := Lib.hid (show x5 = y5 by omega)
              rw [rounds_succ]
              go_wp2
              go_quiet (fail)
              go_wp2
              go_quiet (fail)
              go_wp2
              clear a5 b5 c5 k5
              by_cases c4 : x4 < y4
              · have a4 : decide (x4 < y4) = true := decide_eq_true c4
                rw [rounds_succ]
                go_wp2
                go_quiet (fail)
                go_wp2
                have e1 : cv x y = -1 := by have f1 := D.out; have f2 := E.out; have g5 := Q5.out; have g6 := Q6.out; have g7 := Q7.out; unfold D8 Dg at f1 f2; unfold cv; rw [if_pos (by omega)]
                go_ret
                refine ⟨ret_one (e1.symm.trans ev.out), ?_⟩
                try simp only [World.drewN_drewN]
                exact ⟨_, rfl⟩
              · have a4 : decide (x4 < y4) = false := decide_eq_false c4
                by_cases k4 : y4 < x4
                · have b4 : decide (y4 < x4) = true := decide_eq_true k4
                  rw [rounds_succ]
                  go_wp2
                  go_quiet (fail)
                  go_wp2
                  go_quiet (fail)
                  go_wp2
                  have e1 : cv x y = 1 := by have f1 := D.out; have f2 := E.out; have g5 := Q5.out; have g6 := Q6.out; have g7 := Q7.out; unfold D8 Dg at f1 f2; unfold cv; rw [if_neg (by omega), if_pos (by omega)]
                  go_ret
                  refine ⟨ret_one (e1.symm.trans ev.out), ?_⟩
                  try simp only [World.drewN_drewN]
                  exact ⟨_, rfl⟩
                · have b4 : decide (y4 < x4) = false := decide_eq_false k4
                  have Q4 := Lib.hid (show x4 = y4 by omega)
                  rw [rounds_succ]
                  go_wp2
                  go_quiet (fail)
                  go_wp2
                  go_quiet (fail)
                  go_wp2
                  clear a4 b4 c4 k4
                  by_cases c3 : x3 < y3
                  · have a3 : decide (x3 < y3) = true := decide_eq_true c3
                    rw [rounds_succ]
                    go_wp2
                    go_quiet (fail)
                    go_wp2
                    have e1 : cv x y = -1 := by have f1 := D.out; have f2 := E.out; have g4 := Q4.out; have g5 := Q5.out; have g6 := Q6.out; have g7 := Q7.out; unfold D8 Dg at f1 f2; unfold cv; rw [if_pos (by omega)]
                    go_ret
                    refine ⟨ret_one (e1.symm.trans ev.out), ?_⟩
                    try simp only [World.drewN_drewN]
                    exact ⟨_, rfl⟩
                  · have a3 : decide (x3 < y3) = false := decide_eq_false c3
                    by_cases k3 : y3 < x3
                    · have b3 : decide (y3 < x3) = true := decide_eq_true k3
                      rw [rounds_succ]
                      go_wp2
                      go_quiet (fail)
                      go_wp2
                      go_quiet (fail)
                      go_wp2
                      have e1 : cv x y = 1 := by have f1 := D.out; have f2 := E.out; have g4 := Q4.out; have g5 := Q5.out; have g6 := Q6.out; have g7 := Q7.out; unfold D8 Dg at f1 f2; unfold cv; rw [if_neg (by omega), if_pos (by omega)]
                      go_ret
                      refine ⟨ret_one (e1.symm.trans ev.out), ?_⟩
                      try simp only [World.drewN_drewN]
                      exact ⟨_, rfl⟩
                    · have b3 : decide (y3 < x3) = false := decide_eq_false k3
                      have Q3 := Lib.hid (show x3 = y3 by omega)
                      rw [rounds_succ]
                      go_wp2
                      go_quiet (fail)
                      go_wp2
                      go_quiet (fail)
                      go_wp2
                      clear a3 b3 c3 k3
                      by_cases c2 : x2 < y2
                      · have a2 : decide (x2 < y2) = true := decide_eq_true c2
                        rw [rounds_succ]
                        go_wp2
                        go_quiet (fail)
                        go_wp2
                        have e1 : cv x y = -1 := by have f1 := D.out; have f2 := E.out; have g3 := Q3.out; have g4 := Q4.out; have g5 := Q5.out; have g6 := Q6.out; have g7 := Q7.out; unfold D8 Dg at f1 f2; unfold cv; rw [if_pos (by omega)]
                        go_ret
                        refine ⟨ret_one (e1.symm.trans ev.out), ?_⟩
                        try simp only [World.drewN_drewN]
                        exact ⟨_, rfl⟩
                      · have a2 : decide (x2 < y2) = false := decide_eq_false c2
                        by_cases k2 : y2 < x2
                        · have b2 : decide (y2 < x2) = true := decide_eq_true k2
                          rw [rounds_succ]
                          go_wp2
                          go_quiet (fail)
                          go_wp2
                          go_quiet (fail)
                          go_wp2
                          have e1 : cv x y = 1 := by have f1 := D.out; have f2 := E.out; have g3 := Q3.out; have g4 := Q4.out; have g5 := Q5.out; have g6 := Q6.out; have g7 := Q7.out; unfold D8 Dg at f1 f2; unfold cv; rw [if_neg (by omega), if_pos (by omega)]
                          go_ret
                          refine ⟨ret_one (e1.symm.trans ev.out), ?_⟩
                          try simp only [World.drewN_drewN]
                          exact ⟨_, rfl⟩
                        · have b2 : decide (y2 < x2) = false := decide_eq_false k2
                          have Q2 := Lib.hid (show x2 = y2 by omega)
                          rw [rounds_succ]
                          go_wp2
                          go_quiet (fail)
                          go_wp2
                          go_quiet (fail)
                          go_wp2
                          clear a2 b2 c2 k2
                          by_cases c1 : x1 < y1
                          · have a1 : decide (x1 < y1) = true := decide_eq_true c1
                            rw [rounds_succ]
                            go_wp2
                            go_quiet (fail)
                            go_wp2
                            have e1 : cv x y = -1 := by have f1 := D.out; have f2 := E.out; have g2 := Q2.out; have g3 := Q3.out; have g4 := Q4.out; have g5 := Q5.out; have g6 := Q6.out; have g7 := Q7.out; unfold D8 Dg at f1 f2; unfold cv; rw [if_pos (by omega)]
                            go_ret
                            refine ⟨ret_one (e1.symm.trans ev.out), ?_⟩
                            try simp only [World.drewN_drewN]
                            exact ⟨_, rfl⟩
                          · have a1 : decide (x1 < y1) = false := decide_eq_false c1
                            by_cases k1 : y1 < x1
                            · have b1 : decide (y1 < x1) = true := decide_eq_true k1
                              rw [rounds_succ]
                              go_wp2
                              go_quiet (fail)
                              go_wp2
                              go_quiet (fail)
                              go_wp2
                              have e1 : cv x y = 1 := by have f1 := D.out; have f2 := E.out; have g2 := Q2.out; have g3 := Q3.out; have g4 := Q4.out; have g5 := Q5.out; have g6 := Q6.out; have g7 := Q7.out; unfold D8 Dg at f1 f2; unfold cv; rw [if_neg (by omega), if_pos (by omega)]
                              go_ret
                              refine ⟨ret_one (e1.symm.trans ev.out), ?_⟩
                              try simp only [World.drewN_drewN]
                              exact ⟨_, rfl⟩
                            · have b1 : decide (y1 < x1) = false := decide_eq_false k1
                              have Q1 := Lib.hid (show x1 = y1 by omega)
                              rw [rounds_succ]
                              go_wp2
                              go_quiet (fail)
                              go_wp2
                              go_quiet (fail)
                              go_wp2
                              clear a1 b1 c1 k1
                              by_cases c0 : x0 < y0
                              · have a0 : decide (x0 < y0) = true := decide_eq_true c0
                                rw [rounds_succ]
                                go_wp2
                                go_quiet (fail)
                                go_wp2
                                have e1 : cv x y = -1 := by have f1 := D.out; have f2 := E.out; have g1 := Q1.out; have g2 := Q2.out; have g3 := Q3.out; have g4 := Q4.out; have g5 := Q5.out; have g6 := Q6.out; have g7 := Q7.out; unfold D8 Dg at f1 f2; unfold cv; rw [if_pos (by omega)]
                                go_ret
                                refine ⟨ret_one (e1.symm.trans ev.out), ?_⟩
                                try simp only [World.drewN_drewN]
                                exact ⟨_, rfl⟩
                              · have a0 : decide (x0 < y0) = false := decide_eq_false c0
                                by_cases k0 : y0 < x0
                                · have b0 : decide (y0 < x0) = true := decide_eq_true k0
                                  rw [rounds_succ]
                                  go_wp2
                                  go_quiet (fail)
                                  go_wp2
                                  go_quiet (fail)
                                  go_wp2
                                  have e1 : cv x y = 1 := by have f1 := D.out; have f2 := E.out; have g1 := Q1.out; have g2 := Q2.out; have g3 := Q3.out; have g4 := Q4.out; have g5 := Q5.out; have g6 := Q6.out; have g7 := Q7.out; unfold D8 Dg at f1 f2; unfold cv; rw [if_neg (by omega), if_pos (by omega)]
                                  go_ret
                                  refine ⟨ret_one (e1.symm.trans ev.out), ?_⟩
                                  try simp only [World.drewN_drewN]
                                  exact ⟨_, rfl⟩
                                · have b0 : decide (y0 < x0) = false := decide_eq_false k0
                                  have Q0 := Lib.hid (show x0 = y0 by omega)
                                  rw [rounds_succ]
                                  go_wp2
                                  go_quiet (fail)
                                  go_wp2
                                  go_quiet (fail)
                                  go_wp2
                                  clear a0 b0 c0 k0
                                  rw [rounds_succ]
                                  go_wp2
                                  have e1 : cv x y = 0 := by have f1 := D.out; have f2 := E.out; have g0 := Q0.out; have g1 := Q1.out; have g2 := Q2.out; have g3 := Q3.out; have g4 := Q4.out; have g5 := Q5.out; have g6 := Q6.out; have g7 := Q7.out; unfold D8 Dg at f1 f2; unfold cv; rw [if_neg (by omega), if_neg (by omega)]
                                  go_ret
                                  refine ⟨ret_one (e1.symm.trans ev.out), ?_⟩
                                  try simp only [World.drewN_drewN]
                                  exact ⟨_, rfl⟩

theorem cmp_to (x y v x0 x1 x2 x3 x4 x5 x6 x7 y0 y1 y2 y3 y4 y5 y6 y7 : Int) (w : World) (D : D8 x x0 x1 x2 x3 x4 x5 x6 x7) (E : D8 y y0 y1 y2 y3 y4 y5 y6 y7) (ev : Hid (cv x y = v)) :
    Calls Try.prog 58 #[.agg #[.int .u64 x0, .int .u64 x1, .int .u64 x2, .int .u64 x3, .int .u64 x4, .int .u64 x5, .int .u64 x6, .int .u64 x7], .agg #[.int .u64 y0, .int .u64 y1, .int .u64 y2, .int .u64 y3, .int .u64 y4, .int .u64 y5, .int .u64 y6, .int .u64 y7]] w fun e w' => e = .returned (.int .i64 v) ∧ Below w.heap.size w w' :=
  (cmp_at x y v x0 x1 x2 x3 x4 x5 x6 x7 y0 y1 y2 y3 y4 y5 y6 y7 w D E ev).mono fun e w' ⟨he, n, hw⟩ => ⟨he, by rw [hw]; exact below_drewN (((Below.refl _ _).alloc (Nat.le_refl _) _).alloc (by simp) _) _⟩

end Go.Proofs.Ytodpmdmfdnbehab.Vr

/- Plain facts on sums and differences digit by digit; nothing of the program. -/
namespace Go.Proofs.Ytodpmdmfdnbehab.Vm
set_option linter.unusedSimpArgs false
set_option linter.unusedVariables false
open Go.RowKit (wrap32 wrap64)

theorem dstep {t : Int} (h0 : 0 ≤ t) (h1 : t ≤ 131071) : ∃ r m : Int, t % 65536 = r ∧ t / 65536 = m ∧ 0 ≤ r ∧ r ≤ 65535 ∧ 0 ≤ m ∧ m ≤ 1 ∧ t = r + 65536 * m :=
  ⟨t % 65536, t / 65536, rfl, rfl, by omega, by omega, by omega, by omega, by omega⟩

theorem add_ex {x y x0 x1 x2 x3 x4 x5 x6 x7 y0 y1 y2 y3 y4 y5 y6 y7 : Int} (D : D8 x x0 x1 x2 x3 x4 x5 x6 x7) (E : D8 y y0 y1 y2 y3 y4 y5 y6 y7) :
    ∃ r0 r1 r2 r3 r4 r5 r6 r7 m1 m2 m3 m4 m5 m6 m7 m8 : Int, (x0 + y0) % 65536 = r0 ∧ (x0 + y0) / 65536 = m1 ∧ (m1 + (x1 + y1)) % 65536 = r1 ∧ (m1 + (x1 + y1)) / 65536 = m2 ∧ (m2 + (x2 + y2)) % 65536 = r2 ∧ (m2 + (x2 + y2)) / 65536 = m3 ∧ (m3 + (x3 + y3)) % 65536 = r3 ∧ (m3 + (x3 + y3)) / 65536 = m4 ∧ (m4 + (x4 + y4)) % 65536 = r4 ∧ (m4 + (x4 + y4)) / 65536 = m5 ∧ (m5 + (x5 + y5)) % 65536 = r5 ∧ (m5 + (x5 + y5)) / 65536 = m6 ∧ (m6 + (x6 + y6)) % 65536 = r6 ∧ (m6 + (x6 + y6)) / 65536 = m7 ∧ (m7 + (x7 + y7)) % 65536 = r7 ∧ (m7 + (x7 + y7)) / 65536 = m8 ∧ 0 ≤ m1 ∧ m1 ≤ 1 ∧ 0 ≤ m2 ∧ m2 ≤ 1 ∧ 0 ≤ m3 ∧ m3 ≤ 1 ∧ 0 ≤ m4 ∧ m4 ≤ 1 ∧ 0 ≤ m5 ∧ m5 ≤ 1 ∧ 0 ≤ m6 ∧ m6 ≤ 1 ∧ 0 ≤ m7 ∧ m7 ≤ 1 ∧ 0 ≤ m8 ∧ m8 ≤ 1 ∧ D8 (x + y - m8 * 340282366920938463463374607431768211456) r0 r1 r2 r3 r4 r5 r6 r7 := by
  unfold D8 Dg at *
  obtain ⟨⟨a0, b0⟩, ⟨a1, b1⟩, ⟨a2, b2⟩, ⟨a3, b3⟩, ⟨a4, b4⟩, ⟨a5, b5⟩, ⟨a6, b6⟩, ⟨a7, b7⟩, ex⟩ := D
  obtain ⟨⟨f0, g0⟩, ⟨f1, g1⟩, ⟨f2, g2⟩, ⟨f3, g3⟩, ⟨f4, g4⟩, ⟨f5, g5⟩, ⟨f6, g6⟩, ⟨f7, g7⟩, ey⟩ := E
  obtain ⟨r0, m1, u0, v0, p0, o0, w0, z0, l0⟩ := dstep (t := x0 + y0) (by omega) (by omega)
  obtain ⟨r1, m2, u1, v1, p1, o1, w1, z1, l1⟩ := dstep (t := m1 + (x1 + y1)) (by omega) (by omega)
  obtain ⟨r2, m3, u2, v2, p2, o2, w2, z2, l2⟩ := dstep (t := m2 + (x2 + y2)) (by omega) (by omega)
  obtain ⟨r3, m4, u3, v3, p3, o3, w3, z3, l3⟩ := dstep (t := m3 + (x3 + y3)) (by omega) (by omega)
  obtain ⟨r4, m5, u4, v4, p4, o4, w4, z4, l4⟩ := dstep (t := m4 + (x4 + y4)) (by omega) (by omega)
  obtain ⟨r5, m6, u5, v5, p5, o5, w5, z5, l5⟩ := dstep (t := m5 + (x5 + y5)) (by omega) (by omega)
  obtain ⟨r6, m7, u6, v6, p6, o6, w6, z6, l6⟩ := dstep (t := m6 + (x6 + y6)) (by omega) (by omega)
  obtain ⟨r7, m8, u7, v7, p7, o7, w7, z7, l7⟩ := dstep (t := m7 + (x7 + y7)) (by omega) (by omega)
  refine ⟨r0, r1, r2, r3, r4, r5, r6, r7, m1, m2, m3, m4, m5, m6, m7, m8, u0, v0, u1, v1, u2, v2, u3, v3, u4, v4, u5, v5, u6, v6, u7, v7, w0, z0, w1, z1, w2, z2, w3, z3, w4, z4, w5, z5, w6, z6, w7, z7, ?_⟩
  omega

theorem sub_ex {x y x0 x1 x2 x3 x4 x5 x6 x7 y0 y1 y2 y3 y4 y5 y6 y7 : Int} (D : D8 x x0 x1 x2 x3 x4 x5 x6 x7) (E : D8 y y0 y1 y2 y3 y4 y5 y6 y7) (h : y ≤ x) :
    ∃ r0 r1 r2 r3 r4 r5 r6 r7 q0 q1 q2 q3 q4 q5 q6 q7 k1 k2 k3 k4 k5 k6 k7 k8 : Int, (x0 + 65536 - y0) % 65536 = r0 ∧ (x0 + 65536 - y0) / 65536 = q0 ∧ 1 - q0 = k1 ∧ (x1 + 65536 - y1 - k1) % 65536 = r1 ∧ (x1 + 65536 - y1 - k1) / 65536 = q1 ∧ 1 - q1 = k2 ∧ (x2 + 65536 - y2 - k2) % 65536 = r2 ∧ (x2 + 65536 - y2 - k2) / 65536 = q2 ∧ 1 - q2 = k3 ∧ (x3 + 65536 - y3 - k3) % 65536 = r3 ∧ (x3 + 65536 - y3 - k3) / 65536 = q3 ∧ 1 - q3 = k4 ∧ (x4 + 65536 - y4 - k4) % 65536 = r4 ∧ (x4 + 65536 - y4 - k4) / 65536 = q4 ∧ 1 - q4 = k5 ∧ (x5 + 65536 - y5 - k5) % 65536 = r5 ∧ (x5 + 65536 - y5 - k5) / 65536 = q5 ∧ 1 - q5 = k6 ∧ (x6 + 65536 - y6 - k6) % 65536 = r6 ∧ (x6 + 65536 - y6 - k6) / 65536 = q6 ∧ 1 - q6 = k7 ∧ (x7 + 65536 - y7 - k7) % 65536 = r7 ∧ (x7 + 65536 - y7 - k7) / 65536 = q7 ∧ 1 - q7 = k8 ∧ 0 ≤ k1 ∧ k1 ≤ 1 ∧ 0 ≤ k2 ∧ k2 ≤ 1 ∧ 0 ≤ k3 ∧ k3 ≤ 1 ∧ 0 ≤ k4 ∧ k4 ≤ 1 ∧ 0 ≤ k5 ∧ k5 ≤ 1 ∧ 0 ≤ k6 ∧ k6 ≤ 1 ∧ 0 ≤ k7 ∧ k7 ≤ 1 ∧ 0 ≤ k8 ∧ k8 ≤ 1 ∧ 0 ≤ q0 ∧ q0 ≤ 1 ∧ 0 ≤ q1 ∧ q1 ≤ 1 ∧ 0 ≤ q2 ∧ q2 ≤ 1 ∧ 0 ≤ q3 ∧ q3 ≤ 1 ∧ 0 ≤ q4 ∧ q4 ≤ 1 ∧ 0 ≤ q5 ∧ q5 ≤ 1 ∧ 0 ≤ q6 ∧ q6 ≤ 1 ∧ 0 ≤ q7 ∧ q7 ≤ 1 ∧ D8 (x - y) r0 r1 r2 r3 r4 r5 r6 r7 := by
  unfold D8 Dg at *
  obtain ⟨⟨a0, b0⟩, ⟨a1, b1⟩, ⟨a2, b2⟩, ⟨a3, b3⟩, ⟨a4, b4⟩, ⟨a5, b5⟩, ⟨a6, b6⟩, ⟨a7, b7⟩, ex⟩ := D
  obtain ⟨⟨f0, g0⟩, ⟨f1, g1⟩, ⟨f2, g2⟩, ⟨f3, g3⟩, ⟨f4, g4⟩, ⟨f5, g5⟩, ⟨f6, g6⟩, ⟨f7, g7⟩, ey⟩ := E
  obtain ⟨r0, q0, u0, v0, p0, o0, w0, z0, l0⟩ := dstep (t := x0 + 65536 - y0) (by omega) (by omega)
  obtain ⟨k1, n0⟩ : ∃ k, 1 - q0 = k := ⟨_, rfl⟩
  have c0 : 0 ≤ k1 ∧ k1 ≤ 1 := by omega
  obtain ⟨r1, q1, u1, v1, p1, o1, w1, z1, l1⟩ := dstep (t := x1 + 65536 - y1 - k1) (by omega) (by omega)
  obtain ⟨k2, n1⟩ : ∃ k, 1 - q1 = k := ⟨_, rfl⟩
  have c1 : 0 ≤ k2 ∧ k2 ≤ 1 := by omega
  obtain ⟨r2, q2, u2, v2, p2, o2, w2, z2, l2⟩ := dstep (t := x2 + 65536 - y2 - k2) (by omega) (by omega)
  obtain ⟨k3, n2⟩ : ∃ k, 1 - q2 = k := ⟨_, rfl⟩
  have c2 : 0 ≤ k3 ∧ k3 ≤ 1 := by omega
  obtain ⟨r3, q3, u3, v3, p3, o3, w3, z3, l3⟩ := dstep (t := x3 + 65536 - y3 - k3) (by omega) (by omega)
  obtain ⟨k4, n3⟩ : ∃ k, 1 - q3 = k := ⟨_, rfl⟩
  have c3 : 0 ≤ k4 ∧ k4 ≤ 1 := by omega
  obtain ⟨r4, q4, u4, v4, p4, o4, w4, z4, l4⟩ := dstep (t := x4 + 65536 - y4 - k4) (by omega) (by omega)
  obtain ⟨k5, n4⟩ : ∃ k, 1 - q4 = k := ⟨_, rfl⟩
  have c4 : 0 ≤ k5 ∧ k5 ≤ 1 := by omega
  obtain ⟨r5, q5, u5, v5, p5, o5, w5, z5, l5⟩ := dstep (t := x5 + 65536 - y5 - k5) (by omega) (by omega)
  obtain ⟨k6, n5⟩ : ∃ k, 1 - q5 = k := ⟨_, rfl⟩
  have c5 : 0 ≤ k6 ∧ k6 ≤ 1 := by omega
  obtain ⟨r6, q6, u6, v6, p6, o6, w6, z6, l6⟩ := dstep (t := x6 + 65536 - y6 - k6) (by omega) (by omega)
  obtain ⟨k7, n6⟩ : ∃ k, 1 - q6 = k := ⟨_, rfl⟩
  have c6 : 0 ≤ k7 ∧ k7 ≤ 1 := by omega
  obtain ⟨r7, q7, u7, v7, p7, o7, w7, z7, l7⟩ := dstep (t := x7 + 65536 - y7 - k7) (by omega) (by omega)
  obtain ⟨k8, n7⟩ : ∃ k, 1 - q7 = k := ⟨_, rfl⟩
  have c7 : 0 ≤ k8 ∧ k8 ≤ 1 := by omega
  refine ⟨r0, r1, r2, r3, r4, r5, r6, r7, q0, q1, q2, q3, q4, q5, q6, q7, k1, k2, k3, k4, k5, k6, k7, k8, u0, v0, n0, u1, v1, n1, u2, v2, n2, u3, v3, n3, u4, v4, n4, u5, v5, n5, u6, v6, n6, u7, v7, n7, c0.1, c0.2, c1.1, c1.2, c2.1, c2.2, c3.1, c3.2, c4.1, c4.2, c5.1, c5.2, c6.1, c6.2, c7.1, c7.2, w0, z0, w1, z1, w2, z2, w3, z3, w4, z4, w5, z5, w6, z6, w7, z7, ?_⟩
  omega

end Go.Proofs.Ytodpmdmfdnbehab.Vm

/- What plus of the reference of layer 2 comes to. -/
namespace Go.Proofs.Ytodpmdmfdnbehab.Vr
set_option linter.unusedSimpArgs false
set_option linter.unusedVariables false
open Go.RowKit Go.Proofs.Ytodpmdmfdnbehab.Vm Go.Proofs.Ytodpmdmfdnbehab.Vc
attribute [local go_sem] alloc_drewN setCell_drewN

set_option maxHeartbeats 4000000

/-- what plus answers: the sum, and true; or that there are too few digits, and some digits -/
def Pluses (s t : Bool) (x y : Int) (w : World) (e : Ending) (w' : World) : Prop :=
  ∃ (v : Bool) (z r0 r1 r2 r3 r4 r5 r6 r7 : Int) (ok : Bool), e = .returned (.tuple #[.agg #[.bool v, .int .u64 r0, .int .u64 r1, .int .u64 r2, .int .u64 r3, .int .u64 r4, .int .u64 r5, .int .u64 r6, .int .u64 r7], .bool ok]) ∧ D8 z r0 r1 r2 r3 r4 r5 r6 r7 ∧
    ((ok = true ∧ sgn v z = sgn s x + sgn t y) ∨ (ok = false ∧ s = t ∧ 340282366920938463463374607431768211456 ≤ x + y)) ∧ Below w.heap.size w w'

theorem plus_same (s : Bool) (x y x0 x1 x2 x3 x4 x5 x6 x7 y0 y1 y2 y3 y4 y5 y6 y7 : Int) (w : World) (D : D8 x x0 x1 x2 x3 x4 x5 x6 x7) (E : D8 y y0 y1 y2 y3 y4 y5 y6 y7) :
    Calls Try.prog 34 #[.agg #[.bool s, .int .u64 x0, .int .u64 x1, .int .u64 x2, .int .u64 x3, .int .u64 x4, .int .u64 x5, .int .u64 x6, .int .u64 x7], .agg #[.bool s, .int .u64 y0, .int .u64 y1, .int .u64 y2, .int .u64 y3, .int .u64 y4, .int .u64 y5, .int .u64 y6, .int .u64 y7]] w (Pluses s s x y w) := by
  obtain ⟨r0, r1, r2, r3, r4, r5, r6, r7, m1, m2, m3, m4, m5, m6, m7, m8, u0, v0, u1, v1, u2, v2, u3, v3, u4, v4, u5, v5, u6, v6, u7, v7, w0, z0, w1, z1, w2, z2, w3, z3, w4, z4, w5, z5, w6, z6, w7, z7, DR⟩ := add_ex D E
  obtain ⟨⟨a0, b0⟩, ⟨a1, b1⟩, ⟨a2, b2⟩, ⟨a3, b3⟩, ⟨a4, b4⟩, ⟨a5, b5⟩, ⟨a6, b6⟩, ⟨a7, b7⟩, _⟩ := D
  obtain ⟨⟨f0, g0⟩, ⟨f1, g1⟩, ⟨f2, g2⟩, ⟨f3, g3⟩, ⟨f4, g4⟩, ⟨f5, g5⟩, ⟨f6, g6⟩, ⟨f7, g7⟩, _⟩ := E
  by_cases c : m8 = 0
  · have d1 : (m8 == 0) = true := beq_iff_eq.2 c
    have fin : sgn s (x + y - m8 * 340282366920938463463374607431768211456) = sgn s x + sgn s y := by subst c; unfold sgn; cases s <;> simp <;> omega
    replace DR := Lib.hid DR
    replace fin := Lib.hid fin
    clear c
    go_enter Try.func34, Try.ntmps34
    go_wp2
    refine wp_loop_rounds 9 ?_
    rw [rounds_succ]
    go_wp2
    go_quiet (fail)
    go_wp2
    rw [rounds_succ]
    go_wp2
    go_quiet (fail)
    go_wp2
    rw [rounds_succ]
    go_wp2
    go_quiet (fail)
    go_wp2
    rw [rounds_succ]
    go_wp2
    go_quiet (fail)
    go_wp2
    rw [rounds_succ]
    go_wp2
    go_quiet (fail)
    go_wp2
    rw [rounds_succ]
    go_wp2
    go_quiet (fail)
    go_wp2
    rw [rounds_succ]
    go_wp2
    go_quiet (fail)
    go_wp2
    rw [rounds_succ]
    go_wp2
    go_quiet (fail)
    go_wp2
    rw [rounds_succ]
    go_wp2
    replace DR := DR.out
    refine bodyPost_ret (v := .tuple #[.agg #[.bool s, .int .u64 r0, .int .u64 r1, .int .u64 r2, .int .u64 r3, .int .u64 r4, .int .u64 r5, .int .u64 r6, .int .u64 r7], .bool true]) (by simp [results, Try.results34, go_sem]) rfl ⟨s, _, r0, r1, r2, r3, r4, r5, r6, r7, true, rfl, DR, .inl ⟨rfl, fin.out⟩, ?_⟩
    repeat (first | exact Below.refl _ _ | refine below_drewN ?_ _ | refine Below.setCell ?_ (by simp <;> omega) _ | refine Below.alloc ?_ (by simp <;> omega) _)
  · have d1 : (m8 == 0) = false := beq_eq_false_iff_ne.2 c
    have fin : 340282366920938463463374607431768211456 ≤ x + y := by have := d8_bd DR; omega
    replace DR := Lib.hid DR
    replace fin := Lib.hid fin
    clear c
    go_enter Try.func34, Try.ntmps34
    go_wp2
    refine wp_loop_rounds 9 ?_
    rw [rounds_succ]
    go_wp2
    go_quiet (fail)
    go_wp2
    rw [rounds_succ]
    go_wp2
    go_quiet (fail)
    go_wp2
    rw [rounds_succ]
    go_wp2
    go_quiet (fail)
    go_wp2
    rw [rounds_succ]
    go_wp2
    go_quiet (fail)
    go_wp2
    rw [rounds_succ]
    go_wp2
    go_quiet (fail)
    go_wp2
    rw [rounds_succ]
    go_wp2
    go_quiet (fail)
    go_wp2
    rw [rounds_succ]
    go_wp2
    go_quiet (fail)
    go_wp2
    rw [rounds_succ]
    go_wp2
    go_quiet (fail)
    go_wp2
    rw [rounds_succ]
    go_wp2
    replace DR := DR.out
    refine bodyPost_ret (v := .tuple #[.agg #[.bool s, .int .u64 r0, .int .u64 r1, .int .u64 r2, .int .u64 r3, .int .u64 r4, .int .u64 r5, .int .u64 r6, .int .u64 r7], .bool false]) (by simp [results, Try.results34, go_sem]) rfl ⟨s, _, r0, r1, r2, r3, r4, r5, r6, r7, false, rfl, DR, .inr ⟨rfl, rfl, fin.out⟩, ?_⟩
    repeat (first | exact Below.refl _ _ | refine below_drewN ?_ _ | refine Below.setCell ?_ (by simp <;> omega) _ | refine Below.alloc ?_ (by simp <;> omega) _)

end Go.Proofs.Ytodpmdmfdnbehab.Vr
