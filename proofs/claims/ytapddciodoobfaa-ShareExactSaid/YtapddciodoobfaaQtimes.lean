/- What times of package ratio comes to. -/
import Derived.Test.YtapddciodoobfaaQchk
namespace Go.Proofs.Ytapddciodoobfaa.Qc
set_option linter.unusedSimpArgs false
set_option linter.unusedVariables false
open Go.RowKit Go.Proofs.Ytapddciodoobfaa.Vm Go.Proofs.Ytapddciodoobfaa.Vc Go.Proofs.Ytapddciodoobfaa.Pr Go.Proofs.Ytapddciodoobfaa.Qm

set_option maxHeartbeats 400000

theorem part_fit {n g x : Int} (fn : Fit1 n) (g0 : 0 < g) (e : n = g * x) : Fit1 x := by
  unfold Fit1 at *
  by_cases c : 0 ≤ x
  · have : 1 * x ≤ g * x := Int.mul_le_mul_of_nonneg_right (by omega) c
    omega
  · have : g * x ≤ 1 * x := Int.mul_le_mul_of_nonpos_right (by omega) (by omega)
    omega

theorem pos_part {g x : Int} (g0 : 0 < g) (h : 0 < g * x) : 0 < x := by
  rcases Int.lt_trichotomy x 0 with c | c | c
  · have := Int.mul_neg_of_pos_of_neg g0 c; omega
  · subst c; rw [Int.mul_zero] at h; omega
  · exact c
theorem neg_part {g x : Int} (g0 : 0 < g) (h : x < 0) : g * x < 0 := Int.mul_neg_of_pos_of_neg g0 h

/-- what lowest cuts by, and what is left -/
theorem low_cut {n d : Int} (fn : Fit1 n) (fd : Fit1 d) (hd : d ≠ 0) : ∃ g x y : Int, Fit1 x ∧ Fit1 y ∧ g ≠ 0 ∧ n = g * x ∧ d = g * y ∧ Int.gcd x y = 1 ∧
    ((Fit1 g ∧ g = (Int.gcd n d : Int)) ∨ (¬ Fit1 (Int.gcd n d : Int) ∧ g = -9223372036854775808)) ∧ y ≠ 0 ∧ (y < 0 → d < 0) ∧ (0 < d → 0 < g) := by
  obtain ⟨g, x, y, g0, hg, en, ed, hc, hy⟩ := gcd_out (a := n) hd
  by_cases c : Fit1 g
  · refine ⟨g, x, y, part_fit fn g0 en, part_fit fd g0 ed, by omega, en, ed, hc, .inl ⟨c, hg⟩, hy, ?_, fun _ => g0⟩
    intro h; rw [ed]; exact neg_part g0 h
  · have g1 : 9223372036854775808 ≤ g := by unfold Fit1 at c; omega
    have yb : y = 1 ∨ y = -1 := by
      rcases Int.lt_trichotomy y 0 with h | h | h
      · right
        have : g * y ≤ 9223372036854775808 * y := Int.mul_le_mul_of_nonpos_right g1 (by omega)
        unfold Fit1 at fd; omega
      · exact absurd h hy
      · left
        have : 9223372036854775808 * y ≤ g * y := Int.mul_le_mul_of_nonneg_right g1 (by omega)
        unfold Fit1 at fd; omega
    have ge : g = 9223372036854775808 ∧ y = -1 := by
      unfold Fit1 at fd
      rcases yb with rfl | rfl <;> omega
    obtain ⟨rfl, rfl⟩ := ge
    have fx : x = 0 ∨ x = -1 := by unfold Fit1 at fn; omega
    refine ⟨-9223372036854775808, -x, 1, by unfold Fit1; omega, by unfold Fit1; omega, by omega, by omega, by omega, by simp, .inr ⟨by rw [← hg]; exact c, rfl⟩, by omega, by omega, by omega⟩

theorem times_any (x p n d N D er : Int) (w : World) (fx : Fit1 x) (fp : Fit1 p) (fn : Fit1 n) (fd : Fit1 d) (hx : Low x p) (hn : Int.gcd n d = 1) (hd : d ≠ 0) (hs : d < 0 → 0 < n)
    (R : Rat1 (x * n) (p * d) N D er) :
    Calls Try.prog 56 #[.agg #[.int .i64 x, .int .i64 p], .int .i64 n, .int .i64 d] w fun e w' =>
      e = .returned (.tuple #[.agg #[.int .i64 N, .int .i64 D], .int .i64 er]) ∧ Below w.heap.size w w' := by
  have hpd : p * d ≠ 0 := Int.mul_ne_zero (by have := hx.1; omega) hd
  obtain ⟨g1, x', d', fx', fd', g10, ex, ed, hc1, hg1, hd', sd, _⟩ := low_cut fx fd hd
  obtain ⟨g2, n', p', fn', fp', g20, en, ep, hc2, hg2, hp', _, sp⟩ := low_cut fn fp (by have := hx.1; omega)
  have g2p : 0 < g2 := sp hx.1
  have p'p : 0 < p' := pos_part g2p (by rw [← ep]; exact hx.1)
  have cl1 := fun w => lowest_any x d x' d' g1 w fx fd fx' fd' g10 ex ed hg1
  have cl2 := fun w => lowest_any n p n' p' g2 w fn fp fn' fp' g20 en ep hg2
  by_cases c : d' < 0
  · have n'p : 0 < n' := pos_part g2p (by rw [← en]; exact hs (sd c))
    have n1 : -9223372036854775807 ≤ n' := by omega
    have p1 : -9223372036854775807 ≤ p' := by omega
    have fn'' : Fit1 (-n') := by unfold Fit1 at *; omega
    have fp'' : Fit1 (-p') := by unfold Fit1 at *; omega
    obtain ⟨h1, l1, e1, b1⟩ := words_ex (x := x' * -n') (by have := prod_fits fx' fn''; unfold Fits; omega)
    obtain ⟨h2, l2, e2, b2⟩ := words_ex (x := -p' * d') (by have := prod_fits fp'' fd'; unfold Fits; omega)
    obtain ⟨L, E⟩ := times_low (x := x) (p := p) (n := n) (d := d) (g1 := g1) (x' := x') (d' := d') (g2 := -g2) (n' := -n') (p' := -p') hx.2 hn ex ed hc1 (by rw [en]; exact (Int.neg_mul_neg g2 n').symm) (by rw [ep]; exact (Int.neg_mul_neg g2 p').symm) (by rw [Int.neg_gcd, Int.gcd_neg]; exact hc2) (Int.mul_pos_of_neg_of_neg (by omega) c)
    rw [← e1, ← e2] at L E
    have F := fitres_of hpd L E R
    have cm1 := fun w => Mul_any x' (-n') h1 l1 w fx' fn'' b1 e1
    have cm2 := fun w => Mul_any (-p') d' h2 l2 w fp'' fd' b2 e2
    have cf := fun w => fitting_any h1 l1 h2 l2 N D er w b1 b2 F
    unfold Fit1 at fn' fp'
    obtain ⟨_, fn1⟩ := fn'
    obtain ⟨_, fp1⟩ := fp'
    clear L E F b1 b2 e1 e2 R hx hn hd hs hpd ex ed en ep hc1 hc2 hg1 hg2 hd' hp' sd sp fx fp fn fd fx' fd' fn'' fp'' g10 g20 g2p
    go_enter Try.func56, Try.ntmps56
    go_wp2_with fail
    refine (cl1 _).mono ?_
    rintro e w1 ⟨rfl, m1, rfl⟩
    go_wp2_with fail
    refine (cl2 _).mono ?_
    rintro e w1 ⟨rfl, m2, rfl⟩
    go_wp2_with fail
    refine (cm1 _).mono ?_
    rintro e w1 ⟨rfl, hb1⟩
    have P4 := ((Two.new (w.alloc (.cells #[.int .i64 x, .int .i64 p] 38)) (.int .i64 0) (.int .i64 0) 38).drewN (m1 + m2)).kept hb1
    have B1 := bthen (bdrewN (balloc (balloc (Below.refl _ w) _) _) (m1 + m2)) hb1
    clear hb1
    go_wp2_with fail
    refine (cm2 _).mono ?_
    rintro e w2 ⟨rfl, hb1⟩
    replace P4 := P4.kept hb1
    replace B1 := bthen B1 hb1
    clear hb1
    go_wp2_with fail
    refine (cf _).mono ?_
    rintro e w3 ⟨rfl, hb1⟩
    replace P4 := P4.kept hb1
    replace B1 := bthen B1 hb1
    clear hb1
    obtain ⟨z, c0, c1, f0, f1⟩ := id P4
    simp only [World.size_alloc] at z c0 c1 f0 f1
    go_wp2
    refine bodyPost_ret (v := .tuple #[.agg #[.int .i64 N, .int .i64 D], .int .i64 er]) (by simp [results, Try.results56, go_sem, c0, c1]) rfl ⟨rfl, ?_⟩
    exact bset (bset B1 (by simp) _ _) (by simp) _ _
  · have d'p : 0 < d' := by omega
    have d2 : decide (d' < 0) = false := decide_eq_false c
    obtain ⟨h1, l1, e1, b1⟩ := words_ex (x := x' * n') (by have := prod_fits fx' fn'; unfold Fits; omega)
    obtain ⟨h2, l2, e2, b2⟩ := words_ex (x := p' * d') (by have := prod_fits fp' fd'; unfold Fits; omega)
    obtain ⟨L, E⟩ := times_low (x := x) (p := p) (n := n) (d := d) (g1 := g1) (x' := x') (d' := d') (g2 := g2) (n' := n') (p' := p') hx.2 hn ex ed hc1 en ep hc2 (Int.mul_pos p'p d'p)
    rw [← e1, ← e2] at L E
    have F := fitres_of hpd L E R
    have cm1 := fun w => Mul_any x' n' h1 l1 w fx' fn' b1 e1
    have cm2 := fun w => Mul_any p' d' h2 l2 w fp' fd' b2 e2
    have cf := fun w => fitting_any h1 l1 h2 l2 N D er w b1 b2 F
    clear L E F b1 b2 e1 e2 R hx hn hd hs hpd ex ed en ep hc1 hc2 hg1 hg2 hd' hp' sd sp fx fp fn fd fx' fd' fn' fp' g10 g20 g2p c
    go_enter Try.func56, Try.ntmps56
    go_wp2_with fail
    refine (cl1 _).mono ?_
    rintro e w1 ⟨rfl, m1, rfl⟩
    go_wp2_with fail
    refine (cl2 _).mono ?_
    rintro e w1 ⟨rfl, m2, rfl⟩
    go_wp2_with fail
    refine (cm1 _).mono ?_
    rintro e w1 ⟨rfl, hb1⟩
    have P4 := ((Two.new (w.alloc (.cells #[.int .i64 x, .int .i64 p] 38)) (.int .i64 0) (.int .i64 0) 38).drewN (m1 + m2)).kept hb1
    have B1 := bthen (bdrewN (balloc (balloc (Below.refl _ w) _) _) (m1 + m2)) hb1
    clear hb1
    go_wp2_with fail
    refine (cm2 _).mono ?_
    rintro e w2 ⟨rfl, hb1⟩
    replace P4 := P4.kept hb1
    replace B1 := bthen B1 hb1
    clear hb1
    go_wp2_with fail
    refine (cf _).mono ?_
    rintro e w3 ⟨rfl, hb1⟩
    replace P4 := P4.kept hb1
    replace B1 := bthen B1 hb1
    clear hb1
    obtain ⟨z, c0, c1, f0, f1⟩ := id P4
    simp only [World.size_alloc] at z c0 c1 f0 f1
    go_wp2
    refine bodyPost_ret (v := .tuple #[.agg #[.int .i64 N, .int .i64 D], .int .i64 er]) (by simp [results, Try.results56, go_sem, c0, c1]) rfl ⟨rfl, ?_⟩
    exact bset (bset B1 (by simp) _ _) (by simp) _ _

end Go.Proofs.Ytapddciodoobfaa.Qc
