/- What the reference's Mul comes to: products of halves. -/
import Derived.Laws.BitsAllLaws
import Derived.Test.YtmngbhkokglmjaaWref
namespace Go.Proofs.Ytmngbhkokglmjaa.Wr
open Go.RowKit Go.Proofs.Ytmngbhkokglmjaa.Wm Go.Proofs.Ytmngbhkokglmjaa.Wc

set_option maxHeartbeats 400000

theorem low_half (x : Nat) (h : x ≤ 9223372036854775808) : bits .and .u64 (x : Int) 4294967295 = ((x % 4294967296 : Nat) : Int) := by
  have h1 := u64_and_nat x 4294967295 (by omega) (by omega)
  have h2 : x &&& 4294967295 = x % 4294967296 := Nat.and_two_pow_sub_one_eq_mod x 32
  rw [h2] at h1
  exact h1

/-- the product by halves -/
theorem halves (xh xl yh yl : Nat) : (xh * 4294967296 + xl) * (yh * 4294967296 + yl) = xh * yh * 18446744073709551616 + (xh * yl + xl * yh) * 4294967296 + xl * yl := by
  simp only [Nat.add_mul, Nat.mul_add]
  have e1 : xh * 4294967296 * (yh * 4294967296) = xh * yh * 18446744073709551616 := by
    rw [Nat.mul_mul_mul_comm]
  have e2 : xh * 4294967296 * yl = xh * yl * 4294967296 := by rw [Nat.mul_right_comm]
  have e3 : xl * (yh * 4294967296) = xl * yh * 4294967296 := by rw [Nat.mul_assoc]
  omega

/-- a product's sign and size -/
theorem signed_prod (a b : Int) : a * b = (if (decide (a < 0) != decide (b < 0)) then -((a.natAbs * b.natAbs : Nat) : Int) else ((a.natAbs * b.natAbs : Nat) : Int)) := by
  rw [Int.natCast_mul]
  by_cases h1 : a < 0 <;> by_cases h2 : b < 0
  · have ea : -a = (a.natAbs : Int) := by omega
    have eb : -b = (b.natAbs : Int) := by omega
    simp only [h1, h2, decide_true, bne_self_eq_false, Bool.false_eq_true, if_false]
    rw [← Int.neg_mul_neg, ea, eb]
  · have ea : a = -(a.natAbs : Int) := by omega
    have eb : b = (b.natAbs : Int) := by omega
    simp only [h1, h2, decide_true, decide_false]
    simp only [bne, BEq.beq]
    simp
    rw [← Int.neg_mul, ← ea, ← eb]
  · have ea : a = (a.natAbs : Int) := by omega
    have eb : b = -(b.natAbs : Int) := by omega
    simp only [h1, h2]
    simp
    rw [← Int.mul_neg, ← ea, ← eb]
  · have ea : a = (a.natAbs : Int) := by omega
    have eb : b = (b.natAbs : Int) := by omega
    simp only [h1, h2]
    simp
    rw [← ea, ← eb]

/-- what 'signed' makes of a product's size -/
theorem signed_of (a b : Int) (s : Bool) (hs : s = (decide (a < 0) != decide (b < 0))) (m : Int) (hm : m = ((a.natAbs * b.natAbs : Nat) : Int)) (hl : m ≤ 18446744073709551615) (v e1 : Int)
    (hv : (Fit (a * b) ∧ v = a * b ∧ e1 = 0) ∨ (¬ Fit (a * b) ∧ v = 0 ∧ e1 = 2)) (w : World) :
    Calls Try.prog 87 #[.int .u64 m, .bool s] w fun e w' => e = .returned (.tuple #[.int .i64 v, .int .i64 e1]) ∧ w = w' := by
  have hp := signed_prod a b
  rw [← hs, ← hm] at hp
  have h0 : 0 ≤ m := by omega
  rw [hp] at hv
  by_cases c1 : m ≤ 9223372036854775807
  · have hf : Fit (if s = true then -m else m) := by unfold Fit; split <;> omega
    rcases hv with ⟨_, rfl, rfl⟩ | ⟨h, _⟩
    · exact signed_yes m s w h0 c1
    · exact absurd hf h
  · by_cases c2 : s = true ∧ m = 9223372036854775808
    · obtain ⟨rfl, rfl⟩ := c2
      rcases hv with ⟨_, rfl, rfl⟩ | ⟨h, _⟩
      · exact signed_least w
      · exact absurd (by decide) h
    · have hf : ¬ Fit (if s = true then -m else m) := by
        unfold Fit
        cases s
        · simp; omega
        · simp at c2; simp; omega
      rcases hv with ⟨h, _⟩ | ⟨_, rfl, rfl⟩
      · exact absurd h hf
      · refine signed_no m s w (by omega) hl ?_
        cases s
        · exact Or.inl rfl
        · simp at c2; exact Or.inr c2

/-- a size that is beyond fits in no way -/
theorem beyond (a b : Int) (h : 18446744073709551616 ≤ a.natAbs * b.natAbs) (v e1 : Int)
    (hv : (Fit (a * b) ∧ v = a * b ∧ e1 = 0) ∨ (¬ Fit (a * b) ∧ v = 0 ∧ e1 = 2)) : v = 0 ∧ e1 = 2 := by
  rcases hv with ⟨h1, _⟩ | ⟨_, h2⟩
  · have : (a * b).natAbs = a.natAbs * b.natAbs := Int.natAbs_mul a b
    unfold Fit at h1; omega
  · exact h2

theorem rmul_any (a b : Int) (w : World) (ha : Fit a) (hb : Fit b) (v e1 : Int)
    (hv : (Fit (a * b) ∧ v = a * b ∧ e1 = 0) ∨ (¬ Fit (a * b) ∧ v = 0 ∧ e1 = 2)) :
    Calls Try.prog 76 #[.int .i64 a, .int .i64 b] w fun e w' => e = .returned (.tuple #[.int .i64 v, .int .i64 e1]) ∧ w = w' := by
  have ba : a.natAbs ≤ 9223372036854775808 := by unfold Fit at ha; omega
  have bb : b.natAbs ≤ 9223372036854775808 := by unfold Fit at hb; omega
  have c1 := fun w => size_any a w ha
  have c2 := fun w => size_any b w hb
  have sg := fun m s w hs hm hl => signed_of a b s hs m hm hl v e1 hv w
  have big := fun h => beyond a b h v e1 hv
  clear hv ha hb
  generalize a.natAbs = x at *
  generalize b.natAbs = y at *
  have kx := low_half x ba
  have ky := low_half y bb
  have jx : (x : Int) / 4294967296 = ((x / 4294967296 : Nat) : Int) := by omega
  have jy : (y : Int) / 4294967296 = ((y / 4294967296 : Nat) : Int) := by omega
  have ex : x = x / 4294967296 * 4294967296 + x % 4294967296 := by omega
  have ey : y = y / 4294967296 * 4294967296 + y % 4294967296 := by omega
  have bx1 : x / 4294967296 ≤ 2147483648 := by omega
  have by1 : y / 4294967296 ≤ 2147483648 := by omega
  have bx2 : x % 4294967296 ≤ 4294967295 := by omega
  have by2 : y % 4294967296 ≤ 4294967295 := by omega
  generalize x / 4294967296 = xh at *
  generalize y / 4294967296 = yh at *
  generalize x % 4294967296 = xl at *
  generalize y % 4294967296 = yl at *
  have prod : x * y = xh * yh * 18446744073709551616 + (xh * yl + xl * yh) * 4294967296 + xl * yl := by rw [ex, ey]; exact halves xh xl yh yl
  have m1 : xh * yl ≤ 2147483648 * 4294967295 := Nat.mul_le_mul bx1 by2
  have m2 : xl * yh ≤ 4294967295 * 2147483648 := Nat.mul_le_mul bx2 by1
  have m3 : xl * yl ≤ 4294967295 * 4294967295 := Nat.mul_le_mul bx2 by2
  clear ex ey
  have p1 : (0 : Int) ≤ (xh : Int) * (yl : Int) ∧ (xh : Int) * (yl : Int) ≤ 9223372034707292160 := by
    have : (xh : Int) * (yl : Int) = ((xh * yl : Nat) : Int) := (Int.natCast_mul _ _).symm
    omega
  have p2 : (0 : Int) ≤ (xl : Int) * (yh : Int) ∧ (xl : Int) * (yh : Int) ≤ 9223372034707292160 := by
    have : (xl : Int) * (yh : Int) = ((xl * yh : Nat) : Int) := (Int.natCast_mul _ _).symm
    omega
  have p3 : (0 : Int) ≤ (xl : Int) * (yl : Int) ∧ (xl : Int) * (yl : Int) ≤ 18446744065119617025 := by
    have : (xl : Int) * (yl : Int) = ((xl * yl : Nat) : Int) := (Int.natCast_mul _ _).symm
    omega
  by_cases zx : xh = 0
  · subst zx
    rw [Nat.zero_mul, Nat.zero_mul, Nat.zero_mul, Nat.zero_add, Nat.zero_add] at prod
    replace jx : (x : Int) / 4294967296 = 0 := jx
    have hH : (xl : Int) * (yh : Int) = ((xl * yh : Nat) : Int) := (Int.natCast_mul _ _).symm
    have hD : (xl : Int) * (yl : Int) = ((xl * yl : Nat) : Int) := (Int.natCast_mul _ _).symm
    by_cases k1 : 4294967296 ≤ xl * yh
    · obtain ⟨rfl, rfl⟩ := big (by omega)
      have d1 : ((xl : Int) * (yh : Int) / 4294967296 != 0) = true := by rw [bne_iff_ne]; omega
      clear prod sg big m1 m2 m3 hH hD k1
      go_enter Try.func76, Try.ntmps76
      go_wp2_with fail
      refine (c1 _).mono ?_
      rintro e w' ⟨rfl, rfl⟩
      go_wp2_with fail
      refine (c2 _).mono ?_
      rintro e w' ⟨rfl, rfl⟩
      go_wp2_with fail
      go_ret2
      exact ⟨rfl, rfl⟩
    · have d1 : ((xl : Int) * (yh : Int) / 4294967296 != 0) = false := by rw [bne_eq_false_iff_eq]; omega
      have k2 : (xl : Int) * (yh : Int) ≤ 4294967295 := by omega
      by_cases k3 : (xl : Int) * (yh : Int) * 4294967296 + (xl : Int) * (yl : Int) ≤ 18446744073709551615
      · have ct := fun s w hs => sg ((xl : Int) * (yh : Int) * 4294967296 + (xl : Int) * (yl : Int)) s w hs (by omega) k3
        clear prod sg big m1 m2 m3 hH hD k1
        go_enter Try.func76, Try.ntmps76
        go_wp2_with fail
        refine (c1 _).mono ?_
        rintro e w' ⟨rfl, rfl⟩
        go_wp2_with fail
        refine (c2 _).mono ?_
        rintro e w' ⟨rfl, rfl⟩
        go_wp2_with fail
        refine (ct _ _ rfl).mono ?_
        rintro e w' ⟨rfl, rfl⟩
        go_wp2
        go_ret2
        exact ⟨rfl, rfl⟩
      · have o1 : IntKind.u64.wrap ((xl : Int) * (yh : Int) * 4294967296 + (xl : Int) * (yl : Int)) < (xl : Int) * (yl : Int) := by rw [IntKind.wrap_u64]; omega
        obtain ⟨rfl, rfl⟩ := big (by omega)
        clear prod sg big m1 m2 m3 hH hD k1 k3
        go_enter Try.func76, Try.ntmps76
        go_wp2_with fail
        refine (c1 _).mono ?_
        rintro e w' ⟨rfl, rfl⟩
        go_wp2_with fail
        refine (c2 _).mono ?_
        rintro e w' ⟨rfl, rfl⟩
        go_wp2_with fail
        go_ret2
        exact ⟨rfl, rfl⟩
  · by_cases zy : yh = 0
    · subst zy
      rw [Nat.mul_zero, Nat.mul_zero, Nat.zero_mul, Nat.add_zero, Nat.zero_add] at prod
      replace jy : (y : Int) / 4294967296 = 0 := jy
      have d0 : ((xh : Int) != 0) = true := nat_beq zx
      have hH : (xh : Int) * (yl : Int) = ((xh * yl : Nat) : Int) := (Int.natCast_mul _ _).symm
      have hD : (xl : Int) * (yl : Int) = ((xl * yl : Nat) : Int) := (Int.natCast_mul _ _).symm
      by_cases k1 : 4294967296 ≤ xh * yl
      · obtain ⟨rfl, rfl⟩ := big (by omega)
        have d1 : ((xh : Int) * (yl : Int) / 4294967296 != 0) = true := by rw [bne_iff_ne]; omega
        clear prod sg big m1 m2 m3 hH hD k1 zx
        go_enter Try.func76, Try.ntmps76
        go_wp2_with fail
        refine (c1 _).mono ?_
        rintro e w' ⟨rfl, rfl⟩
        go_wp2_with fail
        refine (c2 _).mono ?_
        rintro e w' ⟨rfl, rfl⟩
        go_wp2_with fail
        go_ret2
        exact ⟨rfl, rfl⟩
      · have d1 : ((xh : Int) * (yl : Int) / 4294967296 != 0) = false := by rw [bne_eq_false_iff_eq]; omega
        have k2 : (xh : Int) * (yl : Int) ≤ 4294967295 := by omega
        by_cases k3 : (xh : Int) * (yl : Int) * 4294967296 + (xl : Int) * (yl : Int) ≤ 18446744073709551615
        · have ct := fun s w hs => sg ((xh : Int) * (yl : Int) * 4294967296 + (xl : Int) * (yl : Int)) s w hs (by omega) k3
          clear prod sg big m1 m2 m3 hH hD k1 zx
          go_enter Try.func76, Try.ntmps76
          go_wp2_with fail
          refine (c1 _).mono ?_
          rintro e w' ⟨rfl, rfl⟩
          go_wp2_with fail
          refine (c2 _).mono ?_
          rintro e w' ⟨rfl, rfl⟩
          go_wp2_with fail
          refine (ct _ _ rfl).mono ?_
          rintro e w' ⟨rfl, rfl⟩
          go_wp2
          go_ret2
          exact ⟨rfl, rfl⟩
        · have o1 : IntKind.u64.wrap ((xh : Int) * (yl : Int) * 4294967296 + (xl : Int) * (yl : Int)) < (xl : Int) * (yl : Int) := by rw [IntKind.wrap_u64]; omega
          obtain ⟨rfl, rfl⟩ := big (by omega)
          clear prod sg big m1 m2 m3 hH hD k1 k3 zx
          go_enter Try.func76, Try.ntmps76
          go_wp2_with fail
          refine (c1 _).mono ?_
          rintro e w' ⟨rfl, rfl⟩
          go_wp2_with fail
          refine (c2 _).mono ?_
          rintro e w' ⟨rfl, rfl⟩
          go_wp2_with fail
          go_ret2
          exact ⟨rfl, rfl⟩
    · have q1 : 1 * 1 ≤ xh * yh := Nat.mul_le_mul (by omega) (by omega)
      obtain ⟨rfl, rfl⟩ := big (by omega)
      have d1 : ((xh : Int) != 0) = true := nat_beq zx
      have d2 : ((yh : Int) != 0) = true := nat_beq zy
      clear prod sg big m1 m2 m3 q1 zx zy
      go_enter Try.func76, Try.ntmps76
      go_wp2_with fail
      refine (c1 _).mono ?_
      rintro e w' ⟨rfl, rfl⟩
      go_wp2_with fail
      refine (c2 _).mono ?_
      rintro e w' ⟨rfl, rfl⟩
      go_wp2_with fail
      go_ret2
      exact ⟨rfl, rfl⟩

end Go.Proofs.Ytmngbhkokglmjaa.Wr
