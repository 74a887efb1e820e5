/- What Add, Sub, Div, Cmp, Floor and Ceil of package ratio come to. -/
import Derived.Test.YtapddciodoobfaaQplus
namespace Go.Proofs.Ytapddciodoobfaa.Qc
set_option linter.unusedSimpArgs false
set_option linter.unusedVariables false
open Go.RowKit Go.Proofs.Ytapddciodoobfaa.Vm Go.Proofs.Ytapddciodoobfaa.Vc Go.Proofs.Ytapddciodoobfaa.Pr Go.Proofs.Ytapddciodoobfaa.Qm

set_option maxHeartbeats 400000

theorem addf_any (p q : Nat) (a b c d N D er : Int) (w : World) (A : Two w p (.int .i64 a) (.int .i64 b)) (B : Two w q (.int .i64 c) (.int .i64 d)) (fa : Fit1 a) (fb : Fit1 b) (fc : Fit1 c) (fd : Fit1 d)
    (h1 : Low a b) (h2 : Low c d) (R : Rat1 (a * d + c * b) (b * d) N D er) :
    Calls Try.prog 42 #[.pointer (some ⟨p, 0, none⟩), .pointer (some ⟨q, 0, none⟩)] w fun e w' =>
      e = .returned (.tuple #[.agg #[.int .i64 N, .int .i64 D], .int .i64 er]) ∧ Below w.heap.size w w' := by
  have ct := fun w => plus_any a b c d 1 N D er w fa fb fc fd (by omega) h1 h2 (by rw [show a * d + 1 * (c * b) = a * d + c * b by omega]; exact R)
  clear R h1 h2 fa fb fc fd
  obtain ⟨z1, a0, a1, _, _⟩ := id A
  obtain ⟨z2, b0, b1, _, _⟩ := id B
  go_enter Try.func42, Try.ntmps42
  go_wp2_with fail
  refine (ct _).mono ?_
  rintro e w1 ⟨rfl, hb1⟩
  have P4 := (Two.new w (.int .i64 0) (.int .i64 0) 38).kept hb1
  have B1 := bthen (balloc (Below.refl _ w) _) hb1
  clear hb1 z1 a0 a1 z2 b0 b1 A B
  obtain ⟨z, c0, c1, f0, f1⟩ := id P4
  go_wp2
  refine bodyPost_ret (v := .tuple #[.agg #[.int .i64 N, .int .i64 D], .int .i64 er]) (by simp [results, Try.results42, go_sem, c0, c1]) rfl ⟨rfl, ?_⟩
  exact bset (bset B1 (by simp) _ _) (by simp) _ _

theorem Add_op (a b c d N D er : Int) (w : World) (fa : Fit1 a) (fb : Fit1 b) (fc : Fit1 c) (fd : Fit1 d) (R : OpRes a b c d (a * d + c * b) (b * d) N D er) :
    Calls Try.prog 21 #[.agg #[.int .i64 a, .int .i64 b], .agg #[.int .i64 c, .int .i64 d]] w fun e w' =>
      e = .returned (.tuple #[.agg #[.int .i64 N, .int .i64 D], .int .i64 er]) ∧ Below w.heap.size w w' := by
  have P1 := ((Two.new w (.int .i64 a) (.int .i64 b) 38).alloc (.cells #[.int .i64 c, .int .i64 d] 38)).alloc (.cells #[.int .i64 0, .int .i64 0] 38)
  have P2 := (Two.new (w.alloc (.cells #[.int .i64 a, .int .i64 b] 38)) (.int .i64 c) (.int .i64 d) 38).alloc (.cells #[.int .i64 0, .int .i64 0] 38)
  have P3 := Two.new ((w.alloc (.cells #[.int .i64 a, .int .i64 b] 38)).alloc (.cells #[.int .i64 c, .int .i64 d] 38)) (.int .i64 0) (.int .i64 0) 38
  have B0 := balloc (balloc (balloc (Below.refl _ w) (.cells #[.int .i64 a, .int .i64 b] 38)) (.cells #[.int .i64 c, .int .i64 d] 38)) (.cells #[.int .i64 0, .int .i64 0] 38)
  simp only [World.size_alloc] at P1 P2 P3
  have ct : Calls Try.prog 41 #[.agg #[.int .i64 a, .int .i64 b], .agg #[.int .i64 c, .int .i64 d], .func (.func 42) #[] #[.pointer (some ⟨w.heap.size, 0, none⟩), .pointer (some ⟨w.heap.size + 1, 0, none⟩)]]
      (((w.alloc (.cells #[.int .i64 a, .int .i64 b] 38)).alloc (.cells #[.int .i64 c, .int .i64 d] 38)).alloc (.cells #[.int .i64 0, .int .i64 0] 38)) fun e w' =>
      e = .returned (.tuple #[.agg #[.int .i64 N, .int .i64 D], .int .i64 er]) ∧ Below w.heap.size w w' ∧ Two w' (w.heap.size + 1 + 1) (.int .i64 0) (.int .i64 0) := by
    rcases R with ⟨h1, h2, R⟩ | ⟨h, rfl, rfl, rfl⟩
    · refine (counted_yes _ _ a b c d N D er _ fa fb fc fd h1 h2 (fun w1 => by rfl) (fun w1 hb => addf_any _ _ a b c d N D er w1 (P1.kept hb) (P2.kept hb) fa fb fc fd h1 h2 R)).mono ?_
      rintro e w1 ⟨rfl, hb⟩
      exact ⟨rfl, bthen B0 hb, P3.kept hb⟩
    · refine (counted_no _ _ a b c d _ fa fb fc fd h).mono ?_
      rintro e w1 ⟨rfl, hb⟩
      exact ⟨rfl, bthen B0 hb, P3.kept hb⟩
  clear R fa fb fc fd P1 P2 P3 B0
  go_enter Try.func21, Try.ntmps21
  go_wp2_with fail
  refine ct.mono ?_
  rintro e w1 ⟨rfl, B1, P3⟩
  clear ct
  obtain ⟨z, c0, c1, f0, f1⟩ := id P3
  go_wp2
  refine bodyPost_ret (v := .tuple #[.agg #[.int .i64 N, .int .i64 D], .int .i64 er]) (by simp [results, Try.results21, go_sem, c0, c1]) rfl ⟨rfl, ?_⟩
  exact bset (bset B1 (by omega) _ _) (by omega) _ _

end Go.Proofs.Ytapddciodoobfaa.Qc
