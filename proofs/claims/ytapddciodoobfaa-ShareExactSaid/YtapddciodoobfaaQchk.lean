/- What Check, fitting and lowest of package ratio come to. -/
import Derived.Test.YtapddciodoobfaaVdiv
import Derived.Test.YtapddciodoobfaaPairs
import Derived.Test.YtapddciodoobfaaGcode
import Derived.Test.YtapddciodoobfaaQmath
namespace Go.Proofs.Ytapddciodoobfaa.Qc
set_option linter.unusedSimpArgs false
set_option linter.unusedVariables false
open Go.RowKit Go.Proofs.Ytapddciodoobfaa.Vm Go.Proofs.Ytapddciodoobfaa.Vc Go.Proofs.Ytapddciodoobfaa.Pr Go.Proofs.Ytapddciodoobfaa.Qm

set_option maxHeartbeats 400000

theorem gcd_le {N D : Int} (h : 0 < D) : (Int.gcd N D : Int) ≤ D ∧ 0 < (Int.gcd N D : Int) := by
  have h1 := Int.le_of_dvd h (Int.gcd_dvd_right N D)
  have h2 : 0 < Int.gcd N D := Int.gcd_pos_of_ne_zero_right N (by omega)
  omega

theorem Check_yes (N D : Int) (w : World) (fN : Fit1 N) (fD : Fit1 D) (h : Low N D) :
    Calls Try.prog 67 #[.agg #[.int .i64 N, .int .i64 D]] w fun e w' => e = .returned (.int .i64 0) ∧ Below w.heap.size w w' := by
  have cg := fun w => Wc.gcd_to N D 1 w fN fD (by rw [h.2]; rfl) (by unfold Fit1; omega)
  have d1 : decide (D ≤ 0) = false := decide_eq_false (by have := h.1; omega)
  clear h fN fD
  go_enter Try.func67, Try.ntmps67
  go_wp2_with fail
  refine (cg _).mono ?_
  rintro e w' ⟨rfl, n, rfl⟩
  go_wp2
  go_ret
  exact ⟨rfl, below_drewN ((Below.refl _ _).alloc (Nat.le_refl _) _) _⟩

theorem Check_no (N D : Int) (w : World) (fN : Fit1 N) (fD : Fit1 D) (h : ¬ Low N D) :
    Calls Try.prog 67 #[.agg #[.int .i64 N, .int .i64 D]] w fun e w' => e = .returned (.int .i64 1) ∧ Below w.heap.size w w' := by
  by_cases c : D ≤ 0
  · clear h fN fD
    go_enter Try.func67, Try.ntmps67
    go_wp2
    go_ret
    exact ⟨rfl, (Below.refl _ _).alloc (Nat.le_refl _) _⟩
  · have g0 := gcd_le (N := N) (D := D) (by omega)
    obtain ⟨g, hg⟩ : ∃ g, g = (Int.gcd N D : Int) := ⟨_, rfl⟩
    rw [← hg] at g0
    have cg := fun w => Wc.gcd_to N D g w fN fD hg (by unfold Fit1 at *; omega)
    have d1 : decide (D ≤ 0) = false := decide_eq_false c
    have d2 : (g != 1) = true := by
      rw [bne_iff_ne]; intro e; exact h ⟨by omega, by omega⟩
    clear h fN fD hg c g0
    go_enter Try.func67, Try.ntmps67
    go_wp2_with fail
    refine (cg _).mono ?_
    rintro e w' ⟨rfl, n, rfl⟩
    go_wp2
    go_ret
    exact ⟨rfl, below_drewN ((Below.refl _ _).alloc (Nat.le_refl _) _) _⟩

theorem fitting_any (h1 l1 h2 l2 N D er : Int) (w : World) (b1 : Bd h1 l1) (b2 : Bd h2 l2) (F : FitRes (num h1 l1) (num h2 l2) N D er) :
    Calls Try.prog 70 #[.agg #[.int .i64 h1, .int .u64 l1], .agg #[.int .i64 h2, .int .u64 l2]] w fun e w' =>
      e = .returned (.tuple #[.agg #[.int .i64 N, .int .i64 D], .int .i64 er]) ∧ Below w.heap.size w w' := by
  obtain ⟨v1, e1, r1⟩ := res1_ex (num h1 l1)
  obtain ⟨v2, e2, r2⟩ := res1_ex (num h2 l2)
  have cf1 := fun w => Fit_any h1 l1 v1 e1 w b1 r1
  have cf2 := fun w => Fit_any h2 l2 v2 e2 w b2 r2
  have O : (e1 ≠ 0 ∧ N = 0 ∧ D = 0 ∧ er = e1) ∨ (e1 = 0 ∧ e2 ≠ 0 ∧ N = 0 ∧ D = 0 ∧ er = e2) ∨ (e1 = 0 ∧ e2 = 0 ∧ N = v1 ∧ D = v2 ∧ er = 0) := by
    rcases r1 with ⟨rfl, rfl, f1⟩ | ⟨rfl, rfl, f1⟩
    · rcases r2 with ⟨rfl, rfl, f2⟩ | ⟨rfl, rfl, f2⟩
      · rcases F with ⟨rfl, rfl, rfl, _⟩ | ⟨_, _, _, no⟩
        · exact .inr (.inr ⟨rfl, rfl, rfl, rfl, rfl⟩)
        · exact absurd ⟨f1, f2⟩ no
      · rcases F with ⟨_, _, _, _, f⟩ | ⟨rfl, rfl, rfl, no⟩
        · exact absurd f f2
        · exact .inr (.inl ⟨rfl, by decide, rfl, rfl, rfl⟩)
    · rcases F with ⟨_, _, _, f, _⟩ | ⟨rfl, rfl, rfl, no⟩
      · exact absurd f f1
      · exact .inl ⟨by decide, rfl, rfl, rfl⟩
  clear F r1 r2 b1 b2
  rcases O with ⟨o1, rfl, rfl, rfl⟩ | ⟨rfl, o2, rfl, rfl, rfl⟩ | ⟨rfl, rfl, rfl, rfl, rfl⟩
  · have d1 : (er != 0) = true := bne_iff_ne.2 o1
    clear o1
    go_enter Try.func70, Try.ntmps70
    go_wp2_with fail
    refine (cf1 _).mono ?_
    rintro e w1 ⟨rfl, hb1⟩
    have P3 := (Two.new _ (.int .i64 0) (.int .i64 0) 38).kept hb1
    have B1 := bthen (balloc (balloc (balloc (Below.refl _ w) _) _) _) hb1
    clear hb1
    obtain ⟨z, c0, c1, f0, f1⟩ := id P3
    simp only [World.size_alloc] at z c0 c1 f0 f1
    go_wp2
    refine bodyPost_ret (v := .tuple #[.agg #[.int .i64 0, .int .i64 0], .int .i64 er]) (by simp [results, Try.results70, go_sem, c0, c1]) rfl ⟨rfl, ?_⟩
    exact bset (bset B1 (by omega) _ _) (by omega) _ _
  all_goals
    go_enter Try.func70, Try.ntmps70
    go_wp2_with fail
    refine (cf1 _).mono ?_
    rintro e w1 ⟨rfl, hb1⟩
    have P2 := ((Two.new _ (.int .i64 h2) (.int .u64 l2) 51).alloc (.cells #[.int .i64 0, .int .i64 0] 38)).kept hb1
    have P3 := (Two.new _ (.int .i64 0) (.int .i64 0) 38).kept hb1
    have B1 := bthen (balloc (balloc (balloc (Below.refl _ w) _) _) _) hb1
    clear hb1
    obtain ⟨z', d0, d1, _, _⟩ := id P2
    simp only [World.size_alloc] at z' d0 d1
    go_wp2_with fail
    refine (cf2 _).mono ?_
    rintro e w2 ⟨rfl, hb2⟩
    replace P3 := P3.kept hb2
    replace B1 := bthen B1 hb2
    clear hb2 z' d0 d1
    obtain ⟨z, c0, c1, f0, f1⟩ := id P3
    simp only [World.size_alloc] at z c0 c1 f0 f1
  · have d1 : (er != 0) = true := bne_iff_ne.2 o2
    clear o2
    go_wp2
    refine bodyPost_ret (v := .tuple #[.agg #[.int .i64 0, .int .i64 0], .int .i64 er]) (by simp [results, Try.results70, go_sem, c0, c1]) rfl ⟨rfl, ?_⟩
    exact bset (bset B1 (by omega) _ _) (by omega) _ _
  · go_wp2
    refine bodyPost_ret (v := .tuple #[.agg #[.int .i64 N, .int .i64 D], .int .i64 0]) (by simp [results, Try.results70, go_sem, c0, c1]) rfl ⟨rfl, ?_⟩
    exact bset (bset B1 (by omega) _ _) (by omega) _ _

/-- both cut by what divides them; g: that, or -2^63 -/
theorem lowest_any (n d x y g : Int) (w : World) (fn : Fit1 n) (fd : Fit1 d) (fx : Fit1 x) (fy : Fit1 y) (g0 : g ≠ 0) (en : n = g * x) (ed : d = g * y)
    (hg : (Fit1 g ∧ g = (Int.gcd n d : Int)) ∨ (¬ Fit1 (Int.gcd n d : Int) ∧ g = -9223372036854775808)) :
    Calls Try.prog 74 #[.int .i64 n, .int .i64 d] w fun e w' => e = .returned (.tuple #[.int .i64 x, .int .i64 y]) ∧ Wc.Drew w w' := by
  have k1 : n.tdiv g = x := by rw [en]; exact Int.mul_tdiv_cancel_left x g0
  have k2 : d.tdiv g = y := by rw [ed]; exact Int.mul_tdiv_cancel_left y g0
  have k3 : IntKind.i64.wrap x = x := IntWalk.i64_in _ fx
  have k4 : IntKind.i64.wrap y = y := IntWalk.i64_in _ fy
  have d0 : (g == 0) = false := beq_eq_false_iff_ne.2 g0
  have fin : ∀ n m, Wc.Drew w ((w.drewN n).drewN m) := fun n m => ⟨n + m, by rw [World.drewN_drewN]⟩
  rcases hg with ⟨fg, hg⟩ | ⟨fg, rfl⟩
  · have cg := fun w => Wc.gcd_to n d g w fn fd hg fg
    unfold Fit1 at fx fy fg
    obtain ⟨fx0, fx1⟩ := fx
    obtain ⟨fy0, fy1⟩ := fy
    obtain ⟨fg0, fg1⟩ := fg
    clear hg fn fd en ed
    go_enter Try.func74, Try.ntmps74
    go_wp2_with fail
    refine (cg _).mono ?_
    rintro e w1 ⟨rfl, n1, rfl⟩
    go_wp2
    go_quiet (fail)
    go_wp2
    go_ret2
    exact ⟨rfl, fin _ _⟩
  · have cg := fun w => Wc.gcd_lost n d w fn fd fg
    unfold Fit1 at fx fy
    obtain ⟨fx0, fx1⟩ := fx
    obtain ⟨fy0, fy1⟩ := fy
    clear fg fn fd en ed
    go_enter Try.func74, Try.ntmps74
    go_wp2_with fail
    refine (cg _).mono ?_
    rintro e w1 ⟨rfl, n1, rfl⟩
    go_wp2
    go_quiet (fail)
    go_wp2
    go_ret2
    exact ⟨rfl, fin _ _⟩

end Go.Proofs.Ytapddciodoobfaa.Qc
