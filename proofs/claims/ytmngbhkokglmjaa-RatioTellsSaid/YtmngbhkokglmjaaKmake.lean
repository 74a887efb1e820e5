/- What Make of the reference of layer 3 comes to. -/
import Derived.Test.YtmngbhkokglmjaaKchk
import Derived.Test.YtmngbhkokglmjaaKmath
namespace Go.Proofs.Ytmngbhkokglmjaa.Kc
open Go.RowKit Go.Proofs.Ytmngbhkokglmjaa.Vm Go.Proofs.Ytmngbhkokglmjaa.Vc Go.Proofs.Ytmngbhkokglmjaa.Pr Go.Proofs.Ytmngbhkokglmjaa.Qm

set_option maxHeartbeats 1000000

theorem rMake_any (n d N D er : Int) (w : World) (fn : Fit1 n) (fd : Fit1 d) (R : MakeRes n d N D er) :
    Calls Try.prog 21 #[.int .i64 n, .int .i64 d] w fun e w' =>
      e = .returned (.tuple #[.agg #[.int .i64 N, .int .i64 D], .int .i64 er]) ∧ Below w.heap.size w w' := by
  rcases R with ⟨rfl, rfl, rfl, rfl⟩ | ⟨hd, R⟩
  · go_enter Try.func21, Try.ntmps21
    go_wp2
    refine bodyPost_ret (v := .tuple #[.agg #[.int .i64 0, .int .i64 0], .int .i64 3]) (by simp [results, Try.results21, go_sem]) rfl ⟨rfl, ?_⟩
    exact balloc (Below.refl _ w) _
  obtain ⟨g, x, y, g0, g1, hg, ex, ey, x0, x1, y0, y1, xz, F⟩ := make_parts fn fd hd R
  have d0 : (d == 0) = false := beq_eq_false_iff_ne.2 hd
  have cs1 := fun w => Vr.rsize_any n w fn
  have cs2 := fun w => Vr.rsize_any d w fd
  have an : (n.natAbs : Int) ≤ 9223372036854775808 := by unfold Fit1 at fn; omega
  have ad : (d.natAbs : Int) ≤ 9223372036854775808 := by unfold Fit1 at fd; omega
  have an0 : 0 ≤ (n.natAbs : Int) := by omega
  have ad0 : 0 ≤ (d.natAbs : Int) := by omega
  have cc := fun w => common_any (n.natAbs : Int) (d.natAbs : Int) g w an0 (by omega) ad0 (by omega) hg
  have k1 : (n.natAbs : Int).tdiv g = x := by rw [ex]; exact Int.mul_tdiv_cancel_left x (by omega)
  have k2 : (d.natAbs : Int).tdiv g = y := by rw [ey]; exact Int.mul_tdiv_cancel_left y (by omega)
  have k3 : (n.natAbs : Int) / g = x := by rw [ex]; exact Int.mul_ediv_cancel_left x (by omega)
  have k4 : (d.natAbs : Int) / g = y := by rw [ey]; exact Int.mul_ediv_cancel_left y (by omega)
  have gz : (g == 0) = false := beq_eq_false_iff_ne.2 (by omega)
  -- the ways: both signs, and what fits
  have O : ∃ s1 s2 s3 s4 : Bool, (decide (n < 0) = s1 ∧ decide (0 < n) = s2 ∧ decide (d < 0) = s3 ∧ decide (0 < d) = s4) ∧
      (((s1 = true ∧ s2 = false ∧ s3 = false ∧ s4 = true) ∨ (s1 = false ∧ s2 = true ∧ s3 = true ∧ s4 = false)) ∧ ((1 ≤ x ∧ x ≤ 9223372036854775807 ∧ y ≤ 9223372036854775807 ∧ N = -(x - 1) - 1 ∧ D = y ∧ er = 0) ∨ (x = 9223372036854775808 ∧ y ≤ 9223372036854775807 ∧ N = -9223372036854775808 ∧ D = y ∧ er = 0) ∨ (9223372036854775807 < y ∧ N = 0 ∧ D = 0 ∧ er = 2)) ∨
       ((s1 = true ∧ s2 = false ∧ s3 = true ∧ s4 = false) ∨ (s1 = false ∧ s2 = true ∧ s3 = false ∧ s4 = true) ∨ (s1 = false ∧ s2 = false ∧ s3 = true ∧ s4 = false) ∨ (s1 = false ∧ s2 = false ∧ s3 = false ∧ s4 = true)) ∧
         ((x ≤ 9223372036854775807 ∧ y ≤ 9223372036854775807 ∧ N = x ∧ D = y ∧ er = 0) ∨ (9223372036854775807 < y ∧ N = 0 ∧ D = 0 ∧ er = 2) ∨ (y ≤ 9223372036854775807 ∧ x = 9223372036854775808 ∧ N = 0 ∧ D = 0 ∧ er = 2))) := by
    refine ⟨_, _, _, _, ⟨rfl, rfl, rfl, rfl⟩, ?_⟩
    simp only [decide_eq_true_eq, decide_eq_false_iff_not]
    unfold FitRes Fit1 at F
    by_cases c : (n < 0 ∧ 0 < d) ∨ (0 < n ∧ d < 0)
    · rw [if_pos c] at F
      refine .inl ⟨by omega, ?_⟩
      omega
    · rw [if_neg c] at F
      refine .inr ⟨by omega, ?_⟩
      omega
  obtain ⟨s1, s2, s3, s4, ⟨t1, t2, t3, t4⟩, O⟩ := O
  have K := Lib.hid (And.intro k1 (And.intro k2 (And.intro k3 k4)))
  clear k1 k2 k3 k4 F R xz fn fd hd ex ey hg
  generalize (n.natAbs : Int) = X at *
  generalize (d.natAbs : Int) = Y at *
  rcases O with ⟨⟨rfl, rfl, rfl, rfl⟩ | ⟨rfl, rfl, rfl, rfl⟩, ⟨x2, x3, y2, rfl, rfl, rfl⟩ | ⟨rfl, y2, rfl, rfl, rfl⟩ | ⟨y2, rfl, rfl, rfl⟩⟩ | ⟨⟨rfl, rfl, rfl, rfl⟩ | ⟨rfl, rfl, rfl, rfl⟩ | ⟨rfl, rfl, rfl, rfl⟩ | ⟨rfl, rfl, rfl, rfl⟩, ⟨x2, y2, rfl, rfl, rfl⟩ | ⟨y2, rfl, rfl, rfl⟩ | ⟨y2, x2, rfl, rfl, rfl⟩⟩
  all_goals
    go_enter Try.func21, Try.ntmps21
    go_wp2_with fail
    refine (cs1 _).mono ?_
    rintro e w' ⟨rfl, rfl⟩
    go_wp2_with fail
    refine (cs2 _).mono ?_
    rintro e w' ⟨rfl, rfl⟩
    go_wp2_with fail
    refine (cc _).mono ?_
    rintro e w' ⟨rfl, rfl⟩
    obtain ⟨k1, k2, k3, k4⟩ := K.out
    go_wp2_with fail
    refine (cs1 _).mono ?_
    rintro e w' ⟨rfl, rfl⟩
    go_wp2_with fail
    refine (cs2 _).mono ?_
    rintro e w' ⟨rfl, rfl⟩
    clear cs1 cs2 cc
    go_wp2
  all_goals
    first
      | (refine bodyPost_ret (v := .tuple #[.agg #[.int .i64 0, .int .i64 0], .int .i64 2]) (by simp [results, Try.results21, go_sem]) rfl ⟨rfl, ?_⟩; exact balloc (Below.refl _ w) _)
      | (refine bodyPost_ret (v := .tuple #[.agg #[.int .i64 N, .int .i64 D], .int .i64 0]) (by simp [results, Try.results21, go_sem]) rfl ⟨rfl, ?_⟩; exact balloc (Below.refl _ w) _)
      | (refine bodyPost_ret (v := .tuple #[.agg #[.int .i64 (-(x - 1) - 1), .int .i64 D], .int .i64 0]) (by simp [results, Try.results21, go_sem]) rfl ⟨rfl, ?_⟩; exact balloc (Below.refl _ w) _)
      | (refine bodyPost_ret (v := .tuple #[.agg #[.int .i64 (-9223372036854775808), .int .i64 D], .int .i64 0]) (by simp [results, Try.results21, go_sem]) rfl ⟨rfl, ?_⟩; exact balloc (Below.refl _ w) _)

end Go.Proofs.Ytmngbhkokglmjaa.Kc
