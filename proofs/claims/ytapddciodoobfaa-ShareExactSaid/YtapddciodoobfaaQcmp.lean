/- What Cmp, Floor and Ceil of package ratio come to. -/
import Derived.Test.YtapddciodoobfaaQplus
namespace Go.Proofs.Ytapddciodoobfaa.Qc
set_option linter.unusedSimpArgs false
set_option linter.unusedVariables false
open Go.RowKit Go.Proofs.Ytapddciodoobfaa.Vm Go.Proofs.Ytapddciodoobfaa.Vc Go.Proofs.Ytapddciodoobfaa.Pr Go.Proofs.Ytapddciodoobfaa.Qm

set_option maxHeartbeats 400000

theorem cm_held {p q : Nat} {a b c d : Int} {w W : World} (A : Two w p (.int .i64 a) (.int .i64 b)) (B : Two w q (.int .i64 c) (.int .i64 d)) (h : Below w.heap.size w W) :
    Below w.heap.size w W ∧ W.cell? ⟨p, 0, none⟩ = some (.int .i64 a) ∧ W.cell? ⟨p, 1, none⟩ = some (.int .i64 b) ∧ W.cell? ⟨q, 0, none⟩ = some (.int .i64 c) ∧ W.cell? ⟨q, 1, none⟩ = some (.int .i64 d) :=
  ⟨h, (A.kept h).c0, (A.kept h).c1, (B.kept h).c0, (B.kept h).c1⟩

theorem parts_yes (a b q r : Int) (w : World) (fa : Fit1 a) (fb : Fit1 b) (h : Low a b) (e1 : Hid (a / b = q)) (e2 : Hid (a % b = r)) :
    Calls Try.prog 40 #[.agg #[.int .i64 a, .int .i64 b]] w fun e w' => e = .returned (.tuple #[.int .i64 q, .int .i64 r, .int .i64 0]) ∧ Below w.heap.size w w' := by
  have c1 := fun w => Check_yes a b w fa fb h
  have c2 := fun w => wholeDiv_to a b q r w fa h.1 fb.2 e1 e2
  clear h fa fb e1 e2
  go_enter Try.func40, Try.ntmps40
  go_wp2_with fail
  refine (c1 _).mono ?_
  rintro e w1 ⟨rfl, hb1⟩
  have P1 := (Two.new w (.int .i64 a) (.int .i64 b) 38).kept hb1
  have B1 := bthen (balloc (Below.refl _ w) _) hb1
  clear hb1
  obtain ⟨z1, a0, a1, _, _⟩ := id P1
  go_wp2_with fail
  refine (c2 _).mono ?_
  rintro e w' ⟨rfl, n, rfl⟩
  go_wp2
  go_ret3
  exact ⟨rfl, bdrewN B1 n⟩

theorem parts_no (a b : Int) (w : World) (fa : Fit1 a) (fb : Fit1 b) (h : ¬ Low a b) :
    Calls Try.prog 40 #[.agg #[.int .i64 a, .int .i64 b]] w fun e w' => e = .returned (.tuple #[.int .i64 0, .int .i64 0, .int .i64 1]) ∧ Below w.heap.size w w' := by
  have c1 := fun w => Check_no a b w fa fb h
  clear h fa fb
  go_enter Try.func40, Try.ntmps40
  go_wp2_with fail
  refine (c1 _).mono ?_
  rintro e w1 ⟨rfl, hb1⟩
  have B1 := bthen (balloc (Below.refl _ w) _) hb1
  clear hb1
  go_wp2
  go_ret3
  exact ⟨rfl, B1⟩

theorem Floor_any (a b v er : Int) (w : World) (fa : Fit1 a) (fb : Fit1 b) (R : FloorRes a b v er) :
    Calls Try.prog 19 #[.agg #[.int .i64 a, .int .i64 b]] w fun e w' => e = .returned (.tuple #[.int .i64 v, .int .i64 er]) ∧ Below w.heap.size w w' := by
  have ct : ∃ r, ∀ w, Calls Try.prog 40 #[.agg #[.int .i64 a, .int .i64 b]] w fun e w' => e = .returned (.tuple #[.int .i64 v, .int .i64 r, .int .i64 er]) ∧ Below w.heap.size w w' := by
    rcases R with ⟨h, rfl, rfl⟩ | ⟨h, rfl, rfl⟩
    · exact ⟨a % b, fun w => parts_yes a b _ _ w fa fb h (Lib.hid rfl) (Lib.hid rfl)⟩
    · exact ⟨0, fun w => parts_no a b w fa fb h⟩
  obtain ⟨r, ct⟩ := ct
  clear R fa fb
  go_enter Try.func19, Try.ntmps19
  go_wp2_with fail
  refine (ct _).mono ?_
  rintro e w1 ⟨rfl, hb1⟩
  have B1 := bthen (balloc (Below.refl _ w) _) hb1
  clear hb1
  go_wp2
  go_ret2
  exact ⟨rfl, B1⟩

theorem Ceil_any (a b v er : Int) (w : World) (fa : Fit1 a) (fb : Fit1 b) (R : CeilRes a b v er) :
    Calls Try.prog 20 #[.agg #[.int .i64 a, .int .i64 b]] w fun e w' => e = .returned (.tuple #[.int .i64 v, .int .i64 er]) ∧ Below w.heap.size w w' := by
  have ct : ∃ q r, ((r = 0 ∧ q = v) ∨ (r ≠ 0 ∧ v = q + 1 ∧ -9223372036854775808 ≤ q ∧ q < 9223372036854775807)) ∧ ∀ w, Calls Try.prog 40 #[.agg #[.int .i64 a, .int .i64 b]] w fun e w' => e = .returned (.tuple #[.int .i64 q, .int .i64 r, .int .i64 er]) ∧ Below w.heap.size w w' := by
    rcases R with ⟨h, rfl, rfl⟩ | ⟨h, rfl, rfl⟩
    · refine ⟨a / b, a % b, ?_, fun w => parts_yes a b _ _ w fa fb h (Lib.hid rfl) (Lib.hid rfl)⟩
      by_cases c : a % b = 0
      · exact .inl ⟨c, by rw [if_pos c]⟩
      · refine .inr ⟨c, by rw [if_neg c], ?_⟩
        have h0 := h.1
        have h1 := Int.mul_ediv_add_emod a b
        have h2 := Int.emod_nonneg a (b := b) (by omega)
        have h3 : b ≠ 1 := by intro e; subst e; exact c (Int.emod_one a)
        unfold Fit1 at fa
        constructor
        · by_cases hq : a / b < 0
          · have : b * (a / b) ≤ 1 * (a / b) := Int.mul_le_mul_of_nonpos_right (by omega) (by omega)
            have h4 := Int.emod_lt_of_pos a h0
            have h5 : b * (a / b) ≤ 2 * (a / b) := Int.mul_le_mul_of_nonpos_right (by omega) (by omega)
            have h6 : b * (a / b + 1) ≤ 1 * (a / b + 1) := Int.mul_le_mul_of_nonpos_right (by omega) (by omega)
            rw [Int.mul_add] at h6
            omega
          · omega
        · by_cases hq : a / b < 0
          · omega
          · have : 2 * (a / b) ≤ b * (a / b) := Int.mul_le_mul_of_nonneg_right (by omega) (by omega)
            omega
    · exact ⟨0, 0, .inl ⟨rfl, rfl⟩, fun w => parts_no a b w fa fb h⟩
  obtain ⟨q, r, O, ct⟩ := ct
  clear R fa fb
  rcases O with ⟨rfl, rfl⟩ | ⟨o1, rfl, o2, o3⟩
  · go_enter Try.func20, Try.ntmps20
    go_wp2_with fail
    refine (ct _).mono ?_
    rintro e w1 ⟨rfl, hb1⟩
    have B1 := bthen (balloc (Below.refl _ w) _) hb1
    clear hb1
    go_wp2
    go_ret2
    exact ⟨rfl, B1⟩
  · have d1 : (r != 0) = true := bne_iff_ne.2 o1
    clear o1
    go_enter Try.func20, Try.ntmps20
    go_wp2_with fail
    refine (ct _).mono ?_
    rintro e w1 ⟨rfl, hb1⟩
    have B1 := bthen (balloc (Below.refl _ w) _) hb1
    clear hb1
    go_wp2
    go_ret2
    exact ⟨rfl, B1⟩

end Go.Proofs.Ytapddciodoobfaa.Qc
