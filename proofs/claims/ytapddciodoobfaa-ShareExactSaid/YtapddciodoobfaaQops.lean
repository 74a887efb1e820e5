/- What Make, Mul and Div of package ratio come to, and the closures by which two are counted with. -/
import Derived.Test.YtapddciodoobfaaQtimes
namespace Go.Proofs.Ytapddciodoobfaa.Qc
set_option linter.unusedSimpArgs false
set_option linter.unusedVariables false
open Go.RowKit Go.Proofs.Ytapddciodoobfaa.Vm Go.Proofs.Ytapddciodoobfaa.Vc Go.Proofs.Ytapddciodoobfaa.Pr Go.Proofs.Ytapddciodoobfaa.Qm

set_option maxHeartbeats 400000

theorem Make_any (n d N D er : Int) (w : World) (fn : Fit1 n) (fd : Fit1 d) (R : MakeRes n d N D er) :
    Calls Try.prog 29 #[.int .i64 n, .int .i64 d] w fun e w' =>
      e = .returned (.tuple #[.agg #[.int .i64 N, .int .i64 D], .int .i64 er]) ∧ Below w.heap.size w w' := by
  rcases R with ⟨rfl, rfl, rfl, rfl⟩ | ⟨hd, R⟩
  · go_enter Try.func29, Try.ntmps29
    go_wp2
    refine bodyPost_ret (v := .tuple #[.agg #[.int .i64 0, .int .i64 0], .int .i64 3]) (by simp [results, Try.results29, go_sem]) rfl ⟨rfl, ?_⟩
    exact balloc (Below.refl _ w) _
  · have d0 : (d == 0) = false := beq_eq_false_iff_ne.2 hd
    have ct := fun w => times_any n 1 1 d N D er w fn (by unfold Fit1; omega) (by unfold Fit1; omega) fd ⟨by omega, by simp⟩ (by simp) hd (by omega) (by simpa using R)
    clear R hd fn fd
    go_enter Try.func29, Try.ntmps29
    go_wp2_with fail
    refine (ct _).mono ?_
    rintro e w1 ⟨rfl, hb1⟩
    have P4 := (Two.new w (.int .i64 0) (.int .i64 0) 38).kept hb1
    have B1 := bthen (balloc (Below.refl _ w) _) hb1
    clear hb1
    obtain ⟨z, c0, c1, f0, f1⟩ := id P4
    go_wp2
    refine bodyPost_ret (v := .tuple #[.agg #[.int .i64 N, .int .i64 D], .int .i64 er]) (by simp [results, Try.results29, go_sem, c0, c1]) rfl ⟨rfl, ?_⟩
    exact bset (bset B1 (by simp) _ _) (by simp) _ _

theorem mulf_any (p q : Nat) (a b c d N D er : Int) (w : World) (A : Two w p (.int .i64 a) (.int .i64 b)) (B : Two w q (.int .i64 c) (.int .i64 d)) (fa : Fit1 a) (fb : Fit1 b) (fc : Fit1 c) (fd : Fit1 d)
    (h1 : Low a b) (h2 : Low c d) (R : Rat1 (a * c) (b * d) N D er) :
    Calls Try.prog 57 #[.pointer (some ⟨p, 0, none⟩), .pointer (some ⟨q, 0, none⟩)] w fun e w' =>
      e = .returned (.tuple #[.agg #[.int .i64 N, .int .i64 D], .int .i64 er]) ∧ Below w.heap.size w w' := by
  have ct := fun w => times_any a b c d N D er w fa fb fc fd h1 h2.2 (by have := h2.1; omega) (by have := h2.1; omega) R
  clear R h1 h2 fa fb fc fd
  obtain ⟨z1, a0, a1, _, _⟩ := id A
  obtain ⟨z2, b0, b1, _, _⟩ := id B
  go_enter Try.func57, Try.ntmps57
  go_wp2_with fail
  refine (ct _).mono ?_
  rintro e w1 ⟨rfl, hb1⟩
  have P4 := (Two.new w (.int .i64 0) (.int .i64 0) 38).kept hb1
  have B1 := bthen (balloc (Below.refl _ w) _) hb1
  clear hb1 z1 a0 a1 z2 b0 b1 A B
  obtain ⟨z, c0, c1, f0, f1⟩ := id P4
  go_wp2
  refine bodyPost_ret (v := .tuple #[.agg #[.int .i64 N, .int .i64 D], .int .i64 er]) (by simp [results, Try.results57, go_sem, c0, c1]) rfl ⟨rfl, ?_⟩
  exact bset (bset B1 (by simp) _ _) (by simp) _ _

theorem counted_yes (K : Nat) (caps : Array Value) (a b c d N D er : Int) (w : World) (fa : Fit1 a) (fb : Fit1 b) (fc : Fit1 c) (fd : Fit1 d)
    (h1 : Low a b) (h2 : Low c d) (hE : ∀ w1, Sem.run Try.prog (callFunc K caps) w1 = .ok (.enter K caps) w1) (hK : ∀ w1, Below w.heap.size w w1 → Calls Try.prog K caps w1 fun e w' => e = .returned (.tuple #[.agg #[.int .i64 N, .int .i64 D], .int .i64 er]) ∧ Below w1.heap.size w1 w') :
    Calls Try.prog 41 #[.agg #[.int .i64 a, .int .i64 b], .agg #[.int .i64 c, .int .i64 d], .func (.func K) #[] caps] w fun e w' =>
      e = .returned (.tuple #[.agg #[.int .i64 N, .int .i64 D], .int .i64 er]) ∧ Below w.heap.size w w' := by
  have c1 := fun w => Check_yes a b w fa fb h1
  have c2 := fun w => Check_yes c d w fc fd h2
  clear h1 h2 fa fb fc fd
  go_enter Try.func41, Try.ntmps41
  go_wp2_with fail
  refine (c1 _).mono ?_
  rintro e w1 ⟨rfl, hb1⟩
  have P2 := ((Two.new (w.alloc (.cells #[.int .i64 a, .int .i64 b] 38)) (.int .i64 c) (.int .i64 d) 38).alloc (.cells #[.int .i64 0, .int .i64 0] 38)).alloc (.cells #[.int .i64 0, .int .i64 0] 38)
  replace P2 := P2.kept hb1
  have P3 := ((Two.new ((w.alloc (.cells #[.int .i64 a, .int .i64 b] 38)).alloc (.cells #[.int .i64 c, .int .i64 d] 38)) (.int .i64 0) (.int .i64 0) 38).alloc (.cells #[.int .i64 0, .int .i64 0] 38)).kept hb1
  have B1 := bthen (balloc (balloc (balloc (balloc (Below.refl _ w) _) _) _) _) hb1
  clear hb1
  obtain ⟨z2, b0, b1, _, _⟩ := id P2
  simp only [World.size_alloc] at z2 b0 b1 P3
  go_wp2_with fail
  refine (c2 _).mono ?_
  rintro e w2 ⟨rfl, hb1⟩
  replace P3 := P3.kept hb1
  replace B1 := bthen B1 hb1
  clear hb1 z2 b0 b1 P2
  go_wp2_with fail
  refine (hK _ B1).mono ?_
  rintro e w3 ⟨rfl, hb1⟩
  replace P3 := P3.kept hb1
  replace B1 := bthen B1 hb1
  clear hb1
  obtain ⟨z, c0, c1, f0, f1⟩ := id P3
  go_wp2
  refine bodyPost_ret (v := .tuple #[.agg #[.int .i64 N, .int .i64 D], .int .i64 er]) (by simp [results, Try.results41, go_sem, c0, c1]) rfl ⟨rfl, ?_⟩
  exact bset (bset B1 (by omega) _ _) (by omega) _ _

theorem counted_no (K : Nat) (caps : Array Value) (a b c d : Int) (w : World) (fa : Fit1 a) (fb : Fit1 b) (fc : Fit1 c) (fd : Fit1 d) (h : ¬ (Low a b ∧ Low c d)) :
    Calls Try.prog 41 #[.agg #[.int .i64 a, .int .i64 b], .agg #[.int .i64 c, .int .i64 d], .func (.func K) #[] caps] w fun e w' =>
      e = .returned (.tuple #[.agg #[.int .i64 0, .int .i64 0], .int .i64 1]) ∧ Below w.heap.size w w' := by
  by_cases h1 : Low a b
  · have c1 := fun w => Check_yes a b w fa fb h1
    have c2 := fun w => Check_no c d w fc fd (fun h2 => h ⟨h1, h2⟩)
    clear h h1 fa fb fc fd
    go_enter Try.func41, Try.ntmps41
    go_wp2_with fail
    refine (c1 _).mono ?_
    rintro e w1 ⟨rfl, hb1⟩
    have P2 := ((Two.new (w.alloc (.cells #[.int .i64 a, .int .i64 b] 38)) (.int .i64 c) (.int .i64 d) 38).alloc (.cells #[.int .i64 0, .int .i64 0] 38)).alloc (.cells #[.int .i64 0, .int .i64 0] 38)
    replace P2 := P2.kept hb1
    have P3 := ((Two.new ((w.alloc (.cells #[.int .i64 a, .int .i64 b] 38)).alloc (.cells #[.int .i64 c, .int .i64 d] 38)) (.int .i64 0) (.int .i64 0) 38).alloc (.cells #[.int .i64 0, .int .i64 0] 38)).kept hb1
    have P5 := (Two.new (((w.alloc (.cells #[.int .i64 a, .int .i64 b] 38)).alloc (.cells #[.int .i64 c, .int .i64 d] 38)).alloc (.cells #[.int .i64 0, .int .i64 0] 38)) (.int .i64 0) (.int .i64 0) 38).kept hb1
    have B1 := bthen (balloc (balloc (balloc (balloc (Below.refl _ w) _) _) _) _) hb1
    clear hb1
    obtain ⟨z2, b0, b1, _, _⟩ := id P2
    simp only [World.size_alloc] at z2 b0 b1 P3 P5
    go_wp2_with fail
    refine (c2 _).mono ?_
    rintro e w2 ⟨rfl, hb1⟩
    replace P3 := P3.kept hb1
    replace P5 := P5.kept hb1
    replace B1 := bthen B1 hb1
    clear hb1 z2 b0 b1 P2
    obtain ⟨z, c0, c1, f0, f1⟩ := id P3
    obtain ⟨z5, d0, d1, _, _⟩ := id P5
    go_wp2
    refine bodyPost_ret (v := .tuple #[.agg #[.int .i64 0, .int .i64 0], .int .i64 1]) (by simp [results, Try.results41, go_sem, c0, c1]) rfl ⟨rfl, ?_⟩
    exact bset (bset B1 (by omega) _ _) (by omega) _ _
  · have c1 := fun w => Check_no a b w fa fb h1
    clear h h1 fa fb fc fd
    go_enter Try.func41, Try.ntmps41
    go_wp2_with fail
    refine (c1 _).mono ?_
    rintro e w1 ⟨rfl, hb1⟩
    have P3 := ((Two.new ((w.alloc (.cells #[.int .i64 a, .int .i64 b] 38)).alloc (.cells #[.int .i64 c, .int .i64 d] 38)) (.int .i64 0) (.int .i64 0) 38).alloc (.cells #[.int .i64 0, .int .i64 0] 38)).kept hb1
    have P5 := (Two.new (((w.alloc (.cells #[.int .i64 a, .int .i64 b] 38)).alloc (.cells #[.int .i64 c, .int .i64 d] 38)).alloc (.cells #[.int .i64 0, .int .i64 0] 38)) (.int .i64 0) (.int .i64 0) 38).kept hb1
    have B1 := bthen (balloc (balloc (balloc (balloc (Below.refl _ w) _) _) _) _) hb1
    clear hb1
    simp only [World.size_alloc] at P3 P5
    obtain ⟨z, c0, c1, f0, f1⟩ := id P3
    obtain ⟨z5, d0, d1, _, _⟩ := id P5
    go_wp2
    refine bodyPost_ret (v := .tuple #[.agg #[.int .i64 0, .int .i64 0], .int .i64 1]) (by simp [results, Try.results41, go_sem, c0, c1]) rfl ⟨rfl, ?_⟩
    exact bset (bset B1 (by omega) _ _) (by omega) _ _

theorem Mul_op (a b c d N D er : Int) (w : World) (fa : Fit1 a) (fb : Fit1 b) (fc : Fit1 c) (fd : Fit1 d) (R : OpRes a b c d (a * c) (b * d) N D er) :
    Calls Try.prog 30 #[.agg #[.int .i64 a, .int .i64 b], .agg #[.int .i64 c, .int .i64 d]] w fun e w' =>
      e = .returned (.tuple #[.agg #[.int .i64 N, .int .i64 D], .int .i64 er]) ∧ Below w.heap.size w w' := by
  have P1 := ((Two.new w (.int .i64 a) (.int .i64 b) 38).alloc (.cells #[.int .i64 c, .int .i64 d] 38)).alloc (.cells #[.int .i64 0, .int .i64 0] 38)
  have P2 := (Two.new (w.alloc (.cells #[.int .i64 a, .int .i64 b] 38)) (.int .i64 c) (.int .i64 d) 38).alloc (.cells #[.int .i64 0, .int .i64 0] 38)
  have P3 := Two.new ((w.alloc (.cells #[.int .i64 a, .int .i64 b] 38)).alloc (.cells #[.int .i64 c, .int .i64 d] 38)) (.int .i64 0) (.int .i64 0) 38
  have B0 := balloc (balloc (balloc (Below.refl _ w) (.cells #[.int .i64 a, .int .i64 b] 38)) (.cells #[.int .i64 c, .int .i64 d] 38)) (.cells #[.int .i64 0, .int .i64 0] 38)
  simp only [World.size_alloc] at P1 P2 P3
  have ct : Calls Try.prog 41 #[.agg #[.int .i64 a, .int .i64 b], .agg #[.int .i64 c, .int .i64 d], .func (.func 57) #[] #[.pointer (some ⟨w.heap.size, 0, none⟩), .pointer (some ⟨w.heap.size + 1, 0, none⟩)]]
      (((w.alloc (.cells #[.int .i64 a, .int .i64 b] 38)).alloc (.cells #[.int .i64 c, .int .i64 d] 38)).alloc (.cells #[.int .i64 0, .int .i64 0] 38)) fun e w' =>
      e = .returned (.tuple #[.agg #[.int .i64 N, .int .i64 D], .int .i64 er]) ∧ Below w.heap.size w w' ∧ Two w' (w.heap.size + 1 + 1) (.int .i64 0) (.int .i64 0) := by
    rcases R with ⟨h1, h2, R⟩ | ⟨h, rfl, rfl, rfl⟩
    · refine (counted_yes _ _ a b c d N D er _ fa fb fc fd h1 h2 (fun w1 => by rfl) (fun w1 hb => mulf_any _ _ a b c d N D er w1 (P1.kept hb) (P2.kept hb) fa fb fc fd h1 h2 R)).mono ?_
      rintro e w1 ⟨rfl, hb⟩
      exact ⟨rfl, bthen B0 hb, P3.kept hb⟩
    · refine (counted_no _ _ a b c d _ fa fb fc fd h).mono ?_
      rintro e w1 ⟨rfl, hb⟩
      exact ⟨rfl, bthen B0 hb, P3.kept hb⟩
  clear R fa fb fc fd P1 P2 P3 B0
  go_enter Try.func30, Try.ntmps30
  go_wp2_with fail
  refine ct.mono ?_
  rintro e w1 ⟨rfl, B1, P3⟩
  clear ct
  obtain ⟨z, c0, c1, f0, f1⟩ := id P3
  go_wp2
  refine bodyPost_ret (v := .tuple #[.agg #[.int .i64 N, .int .i64 D], .int .i64 er]) (by simp [results, Try.results30, go_sem, c0, c1]) rfl ⟨rfl, ?_⟩
  exact bset (bset B1 (by omega) _ _) (by omega) _ _

end Go.Proofs.Ytapddciodoobfaa.Qc
