/- What Add, Sub, Div, Cmp, Floor and Ceil of package ratio come to. -/
import Derived.Test.YtmngbhkokglmjaaQplus
namespace Go.Proofs.Ytmngbhkokglmjaa.Qc
open Go.RowKit Go.Proofs.Ytmngbhkokglmjaa.Vm Go.Proofs.Ytmngbhkokglmjaa.Vc Go.Proofs.Ytmngbhkokglmjaa.Pr Go.Proofs.Ytmngbhkokglmjaa.Qm

set_option maxHeartbeats 400000

theorem addf_any (p q : Nat) (a b c d N D er : Int) (w : World) (A : Two w p (.int .i64 a) (.int .i64 b)) (B : Two w q (.int .i64 c) (.int .i64 d)) (fa : Fit1 a) (fb : Fit1 b) (fc : Fit1 c) (fd : Fit1 d)
    (h1 : Low a b) (h2 : Low c d) (R : Rat1 (a * d + c * b) (b * d) N D er) :
    Calls Try.prog 41 #[.pointer (some ⟨p, 0, none⟩), .pointer (some ⟨q, 0, none⟩)] w fun e w' =>
      e = .returned (.tuple #[.agg #[.int .i64 N, .int .i64 D], .int .i64 er]) ∧ Below w.heap.size w w' := by
  have ct := fun w => plus_any a b c d 1 N D er w fa fb fc fd (by omega) h1 h2 (by rw [show a * d + 1 * (c * b) = a * d + c * b by omega]; exact R)
  clear R h1 h2 fa fb fc fd
  obtain ⟨z1, a0, a1, _, _⟩ := id A
  obtain ⟨z2, b0, b1, _, _⟩ := id B
  go_enter Try.func41, Try.ntmps41
  go_wp2_with fail
  refine (ct _).mono ?_
  rintro e w1 ⟨rfl, hb1⟩
  have P4 := (Two.new w (.int .i64 0) (.int .i64 0) 23).kept hb1
  have B1 := bthen (balloc (Below.refl _ w) _) hb1
  clear hb1 z1 a0 a1 z2 b0 b1 A B
  obtain ⟨z, c0, c1, f0, f1⟩ := id P4
  go_wp2
  refine bodyPost_ret (v := .tuple #[.agg #[.int .i64 N, .int .i64 D], .int .i64 er]) (by simp [results, Try.results41, go_sem, c0, c1]) rfl ⟨rfl, ?_⟩
  exact bset (bset B1 (by simp) _ _) (by simp) _ _

theorem subf_any (p q : Nat) (a b c d N D er : Int) (w : World) (A : Two w p (.int .i64 a) (.int .i64 b)) (B : Two w q (.int .i64 c) (.int .i64 d)) (fa : Fit1 a) (fb : Fit1 b) (fc : Fit1 c) (fd : Fit1 d)
    (h1 : Low a b) (h2 : Low c d) (R : Rat1 (a * d - c * b) (b * d) N D er) :
    Calls Try.prog 46 #[.pointer (some ⟨p, 0, none⟩), .pointer (some ⟨q, 0, none⟩)] w fun e w' =>
      e = .returned (.tuple #[.agg #[.int .i64 N, .int .i64 D], .int .i64 er]) ∧ Below w.heap.size w w' := by
  have ct := fun w => plus_any a b c d (-1) N D er w fa fb fc fd (by omega) h1 h2 (by rw [show a * d + (-1) * (c * b) = a * d - c * b by omega]; exact R)
  clear R h1 h2 fa fb fc fd
  obtain ⟨z1, a0, a1, _, _⟩ := id A
  obtain ⟨z2, b0, b1, _, _⟩ := id B
  go_enter Try.func46, Try.ntmps46
  go_wp2_with fail
  refine (ct _).mono ?_
  rintro e w1 ⟨rfl, hb1⟩
  have P4 := (Two.new w (.int .i64 0) (.int .i64 0) 23).kept hb1
  have B1 := bthen (balloc (Below.refl _ w) _) hb1
  clear hb1 z1 a0 a1 z2 b0 b1 A B
  obtain ⟨z, c0, c1, f0, f1⟩ := id P4
  go_wp2
  refine bodyPost_ret (v := .tuple #[.agg #[.int .i64 N, .int .i64 D], .int .i64 er]) (by simp [results, Try.results46, go_sem, c0, c1]) rfl ⟨rfl, ?_⟩
  exact bset (bset B1 (by simp) _ _) (by simp) _ _

theorem divf_any (p q : Nat) (a b c d N D er : Int) (w : World) (A : Two w p (.int .i64 a) (.int .i64 b)) (B : Two w q (.int .i64 c) (.int .i64 d)) (fa : Fit1 a) (fb : Fit1 b) (fc : Fit1 c) (fd : Fit1 d)
    (h1 : Low a b) (h2 : Low c d) (R : MakeRes (a * d) (b * c) N D er) :
    Calls Try.prog 50 #[.pointer (some ⟨q, 0, none⟩), .pointer (some ⟨p, 0, none⟩)] w fun e w' =>
      e = .returned (.tuple #[.agg #[.int .i64 N, .int .i64 D], .int .i64 er]) ∧ Below w.heap.size w w' := by
  obtain ⟨z1, a0, a1, _, _⟩ := id A
  obtain ⟨z2, b0, b1, _, _⟩ := id B
  by_cases c0 : c = 0
  · subst c0
    have R' : N = 0 ∧ D = 0 ∧ er = 3 := by
      rcases R with ⟨_, r⟩ | ⟨h, _⟩
      · exact r
      · exact absurd (Int.mul_zero b) h
    obtain ⟨rfl, rfl, rfl⟩ := R'
    clear R h1 h2 fa fb fc fd
    go_enter Try.func50, Try.ntmps50
    go_wp2
    refine bodyPost_ret (v := .tuple #[.agg #[.int .i64 0, .int .i64 0], .int .i64 3]) (by simp [results, Try.results50, go_sem]) rfl ⟨rfl, ?_⟩
    exact balloc (Below.refl _ w) _
  · have R' : Rat1 (a * d) (b * c) N D er := by
      rcases R with ⟨h, _⟩ | ⟨_, r⟩
      · exact absurd h (Int.mul_ne_zero (by have := h1.1; omega) c0)
      · exact r
    have dc : (c == 0) = false := beq_eq_false_iff_ne.2 c0
    have ct := fun w => times_any a b d c N D er w fa fb fd fc h1 (by rw [Int.gcd_comm]; exact h2.2) c0 (fun _ => h2.1) R'
    clear R R' h1 h2 fa fb fc fd c0
    go_enter Try.func50, Try.ntmps50
    go_wp2_with fail
    refine (ct _).mono ?_
    rintro e w1 ⟨rfl, hb1⟩
    have P4 := (Two.new w (.int .i64 0) (.int .i64 0) 23).kept hb1
    have B1 := bthen (balloc (Below.refl _ w) _) hb1
    clear hb1 z1 a0 a1 z2 b0 b1 A B
    obtain ⟨z, c0, c1, f0, f1⟩ := id P4
    go_wp2
    refine bodyPost_ret (v := .tuple #[.agg #[.int .i64 N, .int .i64 D], .int .i64 er]) (by simp [results, Try.results50, go_sem, c0, c1]) rfl ⟨rfl, ?_⟩
    exact bset (bset B1 (by simp) _ _) (by simp) _ _

theorem Add_op (a b c d N D er : Int) (w : World) (fa : Fit1 a) (fb : Fit1 b) (fc : Fit1 c) (fd : Fit1 d) (R : OpRes a b c d (a * d + c * b) (b * d) N D er) :
    Calls Try.prog 12 #[.agg #[.int .i64 a, .int .i64 b], .agg #[.int .i64 c, .int .i64 d]] w fun e w' =>
      e = .returned (.tuple #[.agg #[.int .i64 N, .int .i64 D], .int .i64 er]) ∧ Below w.heap.size w w' := by
  have P1 := ((Two.new w (.int .i64 a) (.int .i64 b) 23).alloc (.cells #[.int .i64 c, .int .i64 d] 23)).alloc (.cells #[.int .i64 0, .int .i64 0] 23)
  have P2 := (Two.new (w.alloc (.cells #[.int .i64 a, .int .i64 b] 23)) (.int .i64 c) (.int .i64 d) 23).alloc (.cells #[.int .i64 0, .int .i64 0] 23)
  have P3 := Two.new ((w.alloc (.cells #[.int .i64 a, .int .i64 b] 23)).alloc (.cells #[.int .i64 c, .int .i64 d] 23)) (.int .i64 0) (.int .i64 0) 23
  have B0 := balloc (balloc (balloc (Below.refl _ w) (.cells #[.int .i64 a, .int .i64 b] 23)) (.cells #[.int .i64 c, .int .i64 d] 23)) (.cells #[.int .i64 0, .int .i64 0] 23)
  simp only [World.size_alloc] at P1 P2 P3
  have ct : Calls Try.prog 40 #[.agg #[.int .i64 a, .int .i64 b], .agg #[.int .i64 c, .int .i64 d], .func (.func 41) #[] #[.pointer (some ⟨w.heap.size, 0, none⟩), .pointer (some ⟨w.heap.size + 1, 0, none⟩)]]
      (((w.alloc (.cells #[.int .i64 a, .int .i64 b] 23)).alloc (.cells #[.int .i64 c, .int .i64 d] 23)).alloc (.cells #[.int .i64 0, .int .i64 0] 23)) fun e w' =>
      e = .returned (.tuple #[.agg #[.int .i64 N, .int .i64 D], .int .i64 er]) ∧ Below w.heap.size w w' ∧ Two w' (w.heap.size + 1 + 1) (.int .i64 0) (.int .i64 0) := by
    rcases R with ⟨h1, h2, R⟩ | ⟨h, rfl, rfl, rfl⟩
    · refine (counted_yes _ _ a b c d N D er _ fa fb fc fd h1 h2 (fun w1 => by rfl) (fun w1 hb => addf_any _ _ a b c d N D er w1 (P1.kept hb) (P2.kept hb) fa fb fc fd h1 h2 R)).mono ?_
      rintro e w1 ⟨rfl, hb⟩
      exact ⟨rfl, bthen B0 hb, P3.kept hb⟩
    · refine (counted_no _ _ a b c d _ fa fb fc fd h).mono ?_
      rintro e w1 ⟨rfl, hb⟩
      exact ⟨rfl, bthen B0 hb, P3.kept hb⟩
  clear R fa fb fc fd P1 P2 P3 B0
  go_enter Try.func12, Try.ntmps12
  go_wp2_with fail
  refine ct.mono ?_
  rintro e w1 ⟨rfl, B1, P3⟩
  clear ct
  obtain ⟨z, c0, c1, f0, f1⟩ := id P3
  go_wp2
  refine bodyPost_ret (v := .tuple #[.agg #[.int .i64 N, .int .i64 D], .int .i64 er]) (by simp [results, Try.results12, go_sem, c0, c1]) rfl ⟨rfl, ?_⟩
  exact bset (bset B1 (by omega) _ _) (by omega) _ _

theorem Sub_op (a b c d N D er : Int) (w : World) (fa : Fit1 a) (fb : Fit1 b) (fc : Fit1 c) (fd : Fit1 d) (R : OpRes a b c d (a * d - c * b) (b * d) N D er) :
    Calls Try.prog 14 #[.agg #[.int .i64 a, .int .i64 b], .agg #[.int .i64 c, .int .i64 d]] w fun e w' =>
      e = .returned (.tuple #[.agg #[.int .i64 N, .int .i64 D], .int .i64 er]) ∧ Below w.heap.size w w' := by
  have P1 := ((Two.new w (.int .i64 a) (.int .i64 b) 23).alloc (.cells #[.int .i64 c, .int .i64 d] 23)).alloc (.cells #[.int .i64 0, .int .i64 0] 23)
  have P2 := (Two.new (w.alloc (.cells #[.int .i64 a, .int .i64 b] 23)) (.int .i64 c) (.int .i64 d) 23).alloc (.cells #[.int .i64 0, .int .i64 0] 23)
  have P3 := Two.new ((w.alloc (.cells #[.int .i64 a, .int .i64 b] 23)).alloc (.cells #[.int .i64 c, .int .i64 d] 23)) (.int .i64 0) (.int .i64 0) 23
  have B0 := balloc (balloc (balloc (Below.refl _ w) (.cells #[.int .i64 a, .int .i64 b] 23)) (.cells #[.int .i64 c, .int .i64 d] 23)) (.cells #[.int .i64 0, .int .i64 0] 23)
  simp only [World.size_alloc] at P1 P2 P3
  have ct : Calls Try.prog 40 #[.agg #[.int .i64 a, .int .i64 b], .agg #[.int .i64 c, .int .i64 d], .func (.func 46) #[] #[.pointer (some ⟨w.heap.size, 0, none⟩), .pointer (some ⟨w.heap.size + 1, 0, none⟩)]]
      (((w.alloc (.cells #[.int .i64 a, .int .i64 b] 23)).alloc (.cells #[.int .i64 c, .int .i64 d] 23)).alloc (.cells #[.int .i64 0, .int .i64 0] 23)) fun e w' =>
      e = .returned (.tuple #[.agg #[.int .i64 N, .int .i64 D], .int .i64 er]) ∧ Below w.heap.size w w' ∧ Two w' (w.heap.size + 1 + 1) (.int .i64 0) (.int .i64 0) := by
    rcases R with ⟨h1, h2, R⟩ | ⟨h, rfl, rfl, rfl⟩
    · refine (counted_yes _ _ a b c d N D er _ fa fb fc fd h1 h2 (fun w1 => by rfl) (fun w1 hb => subf_any _ _ a b c d N D er w1 (P1.kept hb) (P2.kept hb) fa fb fc fd h1 h2 R)).mono ?_
      rintro e w1 ⟨rfl, hb⟩
      exact ⟨rfl, bthen B0 hb, P3.kept hb⟩
    · refine (counted_no _ _ a b c d _ fa fb fc fd h).mono ?_
      rintro e w1 ⟨rfl, hb⟩
      exact ⟨rfl, bthen B0 hb, P3.kept hb⟩
  clear R fa fb fc fd P1 P2 P3 B0
  go_enter Try.func14, Try.ntmps14
  go_wp2_with fail
  refine ct.mono ?_
  rintro e w1 ⟨rfl, B1, P3⟩
  clear ct
  obtain ⟨z, c0, c1, f0, f1⟩ := id P3
  go_wp2
  refine bodyPost_ret (v := .tuple #[.agg #[.int .i64 N, .int .i64 D], .int .i64 er]) (by simp [results, Try.results14, go_sem, c0, c1]) rfl ⟨rfl, ?_⟩
  exact bset (bset B1 (by omega) _ _) (by omega) _ _

theorem Div_op (a b c d N D er : Int) (w : World) (fa : Fit1 a) (fb : Fit1 b) (fc : Fit1 c) (fd : Fit1 d) (R : DivRes2 a b c d N D er) :
    Calls Try.prog 18 #[.agg #[.int .i64 a, .int .i64 b], .agg #[.int .i64 c, .int .i64 d]] w fun e w' =>
      e = .returned (.tuple #[.agg #[.int .i64 N, .int .i64 D], .int .i64 er]) ∧ Below w.heap.size w w' := by
  have P1 := ((Two.new w (.int .i64 a) (.int .i64 b) 23).alloc (.cells #[.int .i64 c, .int .i64 d] 23)).alloc (.cells #[.int .i64 0, .int .i64 0] 23)
  have P2 := (Two.new (w.alloc (.cells #[.int .i64 a, .int .i64 b] 23)) (.int .i64 c) (.int .i64 d) 23).alloc (.cells #[.int .i64 0, .int .i64 0] 23)
  have P3 := Two.new ((w.alloc (.cells #[.int .i64 a, .int .i64 b] 23)).alloc (.cells #[.int .i64 c, .int .i64 d] 23)) (.int .i64 0) (.int .i64 0) 23
  have B0 := balloc (balloc (balloc (Below.refl _ w) (.cells #[.int .i64 a, .int .i64 b] 23)) (.cells #[.int .i64 c, .int .i64 d] 23)) (.cells #[.int .i64 0, .int .i64 0] 23)
  simp only [World.size_alloc] at P1 P2 P3
  have ct : Calls Try.prog 40 #[.agg #[.int .i64 a, .int .i64 b], .agg #[.int .i64 c, .int .i64 d], .func (.func 50) #[] #[.pointer (some ⟨w.heap.size + 1, 0, none⟩), .pointer (some ⟨w.heap.size, 0, none⟩)]]
      (((w.alloc (.cells #[.int .i64 a, .int .i64 b] 23)).alloc (.cells #[.int .i64 c, .int .i64 d] 23)).alloc (.cells #[.int .i64 0, .int .i64 0] 23)) fun e w' =>
      e = .returned (.tuple #[.agg #[.int .i64 N, .int .i64 D], .int .i64 er]) ∧ Below w.heap.size w w' ∧ Two w' (w.heap.size + 1 + 1) (.int .i64 0) (.int .i64 0) := by
    rcases R with ⟨h1, h2, R⟩ | ⟨h, rfl, rfl, rfl⟩
    · refine (counted_yes _ _ a b c d N D er _ fa fb fc fd h1 h2 (fun w1 => by rfl) (fun w1 hb => divf_any _ _ a b c d N D er w1 (P1.kept hb) (P2.kept hb) fa fb fc fd h1 h2 R)).mono ?_
      rintro e w1 ⟨rfl, hb⟩
      exact ⟨rfl, bthen B0 hb, P3.kept hb⟩
    · refine (counted_no _ _ a b c d _ fa fb fc fd h).mono ?_
      rintro e w1 ⟨rfl, hb⟩
      exact ⟨rfl, bthen B0 hb, P3.kept hb⟩
  clear R fa fb fc fd P1 P2 P3 B0
  go_enter Try.func18, Try.ntmps18
  go_wp2_with fail
  refine ct.mono ?_
  rintro e w1 ⟨rfl, B1, P3⟩
  clear ct
  obtain ⟨z, c0, c1, f0, f1⟩ := id P3
  go_wp2
  refine bodyPost_ret (v := .tuple #[.agg #[.int .i64 N, .int .i64 D], .int .i64 er]) (by simp [results, Try.results18, go_sem, c0, c1]) rfl ⟨rfl, ?_⟩
  exact bset (bset B1 (by omega) _ _) (by omega) _ _

end Go.Proofs.Ytmngbhkokglmjaa.Qc
