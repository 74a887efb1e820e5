/- What the functions of package week come to. -/
import Derived.Test.YtkpjkdeomoecjaaDoorCcode2
import Derived.Test.YtkpjkdeomoecjaaDoorElaw
namespace Go.Proofs.YtkpjkdeomoecjaaDoor.Ep
set_option linter.unusedSimpArgs false
set_option linter.unusedVariables false
open Go.RowKit Go.Proofs.YtkpjkdeomoecjaaDoor.Bx Go.Proofs.YtkpjkdeomoecjaaDoor.Cm Go.Proofs.YtkpjkdeomoecjaaDoor.Cp Go.Proofs.YtkpjkdeomoecjaaDoor.Em

set_option maxHeartbeats 1000000

theorem wOf_any (n d v : Int) (w : World) (n0 : -1000 ≤ n) (n1 : n ≤ 3068040) (d0 : 1 ≤ d) (d1 : d ≤ 7) (hv : v = n - (d - 1)) :
    Calls Tryd.prog 61 #[.int .i64 n, .int .i64 d] w fun e w' => e = .returned (.int .i64 v) ∧ w = w' := by
  subst hv
  go_enter Tryd.func61, Tryd.ntmps61
  go_wp2
  go_ret
  exact ⟨rfl, rfl⟩

theorem wYear_any (n y : Int) (w : World) (R : YearAt n y) (T : Tab w) :
    Calls Tryd.prog 62 #[.int .i64 n] w fun e w' => e = .returned (.int .i64 y) ∧ Below w.heap.size w w' := by
  rcases R with ⟨h, rfl⟩ | ⟨h0, h1, m, d, ok, hn⟩
  · have co := fun w T => Of_any n 0 0 0 4 w (.inr ⟨by omega, rfl, rfl, rfl, rfl⟩) T
    clear h
    go_enter Tryd.func62, Tryd.ntmps62
    go_wp2_with fail
    refine (co _ T).mono ?_
    rintro e w1 ⟨rfl, hb⟩
    go_wp2
    go_ret
    exact ⟨rfl, balloc hb _⟩
  · have co := fun w T => Of_any n y m d 0 w (.inl ⟨h0, h1, ok, hn, rfl⟩) T
    clear h0 h1 ok hn
    go_enter Tryd.func62, Tryd.ntmps62
    go_wp2_with fail
    refine (co _ T).mono ?_
    rintro e w1 ⟨rfl, hb⟩
    go_wp2
    go_ret
    exact ⟨rfl, balloc hb _⟩

theorem wFirst_pos (y v er : Int) (w : World) (hy : y ≠ 1599) (R : FirstRes y v er) (T : Tab w) :
    Calls Tryd.prog 63 #[.int .i64 y] w fun e w' => e = .returned (.tuple #[.int .i64 v, .int .i64 er]) ∧ Below w.heap.size w w' := by
  have d0 : (y == 1599) = false := beq_eq_false_iff_ne.2 hy
  rcases R with ⟨h0, h1, hv, rfl⟩ | ⟨h, rfl, rfl⟩
  · have F := first_ok (y := y) (by omega) h1
    have db := dby_bd (t := y) (by omega) (by omega)
    obtain ⟨j, hj⟩ : ∃ j, j = dby y + 3 := ⟨_, rfl⟩
    have j0 : 0 ≤ j := by omega
    have j1 : j ≤ 3068040 := by omega
    have j2 : j ≤ 3068036 := by have := dby_step (a := y) (b := 10000) (by omega); rw [dby_last] at this; have := lp_01 y; omega
    have cd := fun w T => Day_any y 1 4 j 0 w (.inl ⟨F.1, by rw [F.2.1]; exact hj, rfl⟩) T
    obtain ⟨u, hu⟩ : ∃ u, u = wday j := ⟨_, rfl⟩
    have ub := wday_bd j
    rw [← hu] at ub
    have cw := fun w => Weekday_any j u 0 w (.inl ⟨j0, j2, hu, rfl⟩)
    have cf := fun w => wOf_any j u v w (by omega) j1 ub.1 ub.2 (by rw [hv, hu, hj]; unfold fm wday; omega)
    clear F db hj hu ub hv hy h0 h1 j0 j1 j2
    go_enter Tryd.func63, Tryd.ntmps63
    go_wp2_with fail
    refine (cd _ T).mono ?_
    rintro e w1 ⟨rfl, hb⟩
    go_wp2_with fail
    refine (cw _).mono ?_
    rintro e w' ⟨rfl, rfl⟩
    go_wp2_with fail
    refine (cf _).mono ?_
    rintro e w' ⟨rfl, rfl⟩
    go_wp2
    go_ret2
    exact ⟨rfl, hb⟩
  · have cd := fun w T => Day_any y 1 4 0 4 w (.inr ⟨fun k => h ⟨by have := k.1.1; omega, k.1.2.1⟩, rfl, rfl⟩) T
    clear h hy
    go_enter Tryd.func63, Tryd.ntmps63
    go_wp2_with fail
    refine (cd _ T).mono ?_
    rintro e w1 ⟨rfl, hb⟩
    go_wp2
    go_ret2
    exact ⟨rfl, hb⟩

theorem wFirst_any (y v er : Int) (w : World) (R : FirstRes y v er) (T : Tab w) :
    Calls Tryd.prog 63 #[.int .i64 y] w fun e w' => e = .returned (.tuple #[.int .i64 v, .int .i64 er]) ∧ Below w.heap.size w w' := by
  by_cases hy : y = 1599
  · subst hy
    have c := fun w T => wFirst_pos 1600 2 0 w (by omega) (.inl ⟨by omega, by omega, fm_first.symm, rfl⟩) T
    rcases R with ⟨_, _, hv, rfl⟩ | ⟨h, _⟩
    · rw [fm_0] at hv
      subst hv
      go_enter Tryd.func63, Tryd.ntmps63
      go_wp2_with fail
      refine (c _ T).mono ?_
      rintro e w1 ⟨rfl, hb⟩
      go_wp2
      go_ret2
      exact ⟨rfl, hb⟩
    · exact absurd ⟨by omega, by omega⟩ h
  · exact wFirst_pos y v er w hy R T

theorem Iso_any (n y k d er : Int) (w : World) (R : IsoRes n y k d er) (T : Tab w) :
    Calls Tryd.prog 29 #[.int .i64 n] w fun e w' => e = .returned (.tuple #[.agg #[.int .i64 y, .int .i64 k, .int .i64 d], .int .i64 er]) ∧ Below w.heap.size w w' := by
  rcases R with ⟨h0, h1, ok, hn, rfl⟩ | ⟨h, rfl, rfl, rfl, rfl⟩
  · obtain ⟨ya, hk, fl, hd⟩ := iso_year ok hn
    have fb := fm_bd ok.1 ok.2.1
    have d0 := ok.2.2.2.2.1
    have d1 := ok.2.2.2.2.2.1
    obtain ⟨f, hf⟩ : ∃ f, f = fm y := ⟨_, rfl⟩
    have cw := fun w => Weekday_any n d 0 w (.inl ⟨h0, h1, hd, rfl⟩)
    have cf := fun w => wOf_any n d (n - (d - 1)) w (by omega) (by omega) d0 d1 rfl
    have cy := fun w T => wYear_any (n - (d - 1) + 3) y w ya T
    have cg := fun w T => wFirst_any y f 0 w (.inl ⟨ok.1, ok.2.1, hf, rfl⟩) T
    rw [← hf] at hk fb fl
    obtain ⟨f0, f1⟩ := fb
    obtain ⟨m, hm⟩ : ∃ m, n - (d - 1) = m := ⟨_, rfl⟩
    have m0 : -6 ≤ m := by omega
    have m1 : m ≤ 3068036 := by omega
    rw [hm] at cf cy hk fl
    obtain rfl := hk
    clear ya hd ok hn hf hm h0 h1 d0 d1
    go_enter Tryd.func29, Tryd.ntmps29
    go_wp2_with fail
    refine (cw _).mono ?_
    rintro e w' ⟨rfl, rfl⟩
    go_wp2_with fail
    refine (cf _).mono ?_
    rintro e w' ⟨rfl, rfl⟩
    go_wp2_with fail
    refine (cy _ (T.alloc _)).mono ?_
    rintro e w1 ⟨rfl, hb⟩
    have P := (Tri.new w (.int .i64 0) (.int .i64 0) (.int .i64 0) 39).kept hb
    have B1 := bthen (balloc (Below.refl _ w) _) hb
    have T1 := (T.alloc _).kept hb
    clear hb
    go_wp2_with fail
    refine (cg _ T1).mono ?_
    rintro e w2 ⟨rfl, hb⟩
    replace P := P.kept hb
    replace B1 := bthen B1 hb
    clear hb T1
    obtain ⟨z, c0, c1, c2, g0, g1, g2⟩ := id P
    go_wp2
    refine bodyPost_ret (v := .tuple #[.agg #[.int .i64 y, .int .i64 ((m - f) / 7 + 1), .int .i64 d], .int .i64 0]) (by simp [results, Tryd.results29, go_sem, c0, c1, c2]) rfl ⟨rfl, ?_⟩
    exact bset (bset (bset B1 (Nat.le_refl _) _ _) (Nat.le_refl _) _ _) (Nat.le_refl _) _ _
  · have cw := fun w => Weekday_any n 0 4 w (.inr ⟨h, rfl, rfl⟩)
    clear h
    go_enter Tryd.func29, Tryd.ntmps29
    go_wp2_with fail
    refine (cw _).mono ?_
    rintro e w' ⟨rfl, rfl⟩
    go_wp2
    refine bodyPost_ret (v := .tuple #[.agg #[.int .i64 0, .int .i64 0, .int .i64 0], .int .i64 4]) (by simp [results, Tryd.results29, go_sem]) rfl ⟨rfl, ?_⟩
    exact balloc (Below.refl _ w) _

end Go.Proofs.YtkpjkdeomoecjaaDoor.Ep
