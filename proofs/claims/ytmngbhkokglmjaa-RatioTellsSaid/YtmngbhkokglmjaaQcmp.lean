/- What Cmp, Floor and Ceil of package ratio come to. -/
import Derived.Test.YtmngbhkokglmjaaQplus
namespace Go.Proofs.Ytmngbhkokglmjaa.Qc
open Go.RowKit Go.Proofs.Ytmngbhkokglmjaa.Vm Go.Proofs.Ytmngbhkokglmjaa.Vc Go.Proofs.Ytmngbhkokglmjaa.Pr Go.Proofs.Ytmngbhkokglmjaa.Qm

set_option maxHeartbeats 400000

theorem cm_held {p q : Nat} {a b c d : Int} {w W : World} (A : Two w p (.int .i64 a) (.int .i64 b)) (B : Two w q (.int .i64 c) (.int .i64 d)) (h : Below w.heap.size w W) :
    Below w.heap.size w W ∧ W.cell? ⟨p, 0, none⟩ = some (.int .i64 a) ∧ W.cell? ⟨p, 1, none⟩ = some (.int .i64 b) ∧ W.cell? ⟨q, 0, none⟩ = some (.int .i64 c) ∧ W.cell? ⟨q, 1, none⟩ = some (.int .i64 d) :=
  ⟨h, (A.kept h).c0, (A.kept h).c1, (B.kept h).c0, (B.kept h).c1⟩

theorem cmpf_any (p q : Nat) (a b c d v : Int) (w : World) (A : Two w p (.int .i64 a) (.int .i64 b)) (B : Two w q (.int .i64 c) (.int .i64 d)) (fa : Fit1 a) (fb : Fit1 b) (fc : Fit1 c) (fd : Fit1 d)
    (R : v = cv (a * d) (c * b)) :
    Calls Try.prog 54 #[.pointer (some ⟨p, 0, none⟩), .pointer (some ⟨q, 0, none⟩)] w fun e w' =>
      e = .returned (.tuple #[.int .i64 v, .int .i64 0]) ∧ Below w.heap.size w w' := by
  obtain ⟨h1, l1, e1, b1⟩ := words_ex (x := a * d) (by have := prod_fits fa fd; unfold Fits; omega)
  obtain ⟨h2, l2, e2, b2⟩ := words_ex (x := c * b) (by have := prod_fits fc fb; unfold Fits; omega)
  have cm1 := fun w => Mul_any a d h1 l1 w fa fd b1 e1
  have cm2 := fun w => Mul_any c b h2 l2 w fc fb b2 e2
  have cc : ∀ w, Calls Try.prog 30 #[.agg #[.int .i64 h1, .int .u64 l1], .agg #[.int .i64 h2, .int .u64 l2]] w fun e w' => e = .returned (.int .i64 v) ∧ Below w.heap.size w w' := fun w => by
    rw [R, ← e1, ← e2]; exact Cmp_any h1 l1 h2 l2 w b1.2.2.1 b1.2.2.2 b2.2.2.1 b2.2.2.2
  clear R b1 b2 e1 e2 fa fb fc fd
  have K := fun (W : World) (h : Below w.heap.size w W) => cm_held A B h
  replace K := Lib.hid K
  obtain ⟨z1, a0, a1, _, _⟩ := id A
  obtain ⟨z2, b0, b1, _, _⟩ := id B
  clear A B
  go_enter Try.func54, Try.ntmps54
  go_wp2
  go_region_held3 (fun w' => Below w.heap.size w w' ∧ w'.cell? ⟨p, 0, none⟩ = some (.int .i64 a) ∧ w'.cell? ⟨p, 1, none⟩ = some (.int .i64 b) ∧ w'.cell? ⟨q, 0, none⟩ = some (.int .i64 c) ∧ w'.cell? ⟨q, 1, none⟩ = some (.int .i64 d))
    ((refine K.out _ ?_; first | (with_reducible assumption) | exact (Below.refl _ _).drew))
    (first
      | (go_at_call 31; first
          | ((with_reducible refine (cm1 _).mono ?_); rintro e w4 ⟨rfl, hb⟩; have hB := bthen (w := w) (by first | (with_reducible assumption) | exact (Below.refl _ _).drew) hb)
          | ((with_reducible refine (cm2 _).mono ?_); rintro e w4 ⟨rfl, hb⟩; have hB := bthen (w := w) (by first | (with_reducible assumption) | exact (Below.refl _ _).drew) hb))
      | (go_at_call 30; (with_reducible refine (cc _).mono ?_); rintro e w4 ⟨rfl, hb⟩; have hB := bthen (w := w) (by first | (with_reducible assumption) | exact (Below.refl _ _).drew) hb))
  all_goals go_wp2
  all_goals
    go_ret2
    exact ⟨rfl, hB⟩

theorem counted1_yes (K : Nat) (caps : Array Value) (a b c d v er : Int) (w : World) (fa : Fit1 a) (fb : Fit1 b) (fc : Fit1 c) (fd : Fit1 d)
    (h1 : Low a b) (h2 : Low c d) (hE : ∀ w1, Sem.run Try.prog (callFunc K caps) w1 = .ok (.enter K caps) w1) (hK : ∀ w1, Below w.heap.size w w1 → Calls Try.prog K caps w1 fun e w' => e = .returned (.tuple #[.int .i64 v, .int .i64 er]) ∧ Below w1.heap.size w1 w') :
    Calls Try.prog 53 #[.agg #[.int .i64 a, .int .i64 b], .agg #[.int .i64 c, .int .i64 d], .func (.func K) #[] caps] w fun e w' =>
      e = .returned (.tuple #[.int .i64 v, .int .i64 er]) ∧ Below w.heap.size w w' := by
  have c1 := fun w => Check_yes a b w fa fb h1
  have c2 := fun w => Check_yes c d w fc fd h2
  clear h1 h2 fa fb fc fd
  go_enter Try.func53, Try.ntmps53
  go_wp2_with fail
  refine (c1 _).mono ?_
  rintro e w1 ⟨rfl, hb1⟩
  have P2 := (Two.new (w.alloc (.cells #[.int .i64 a, .int .i64 b] 23)) (.int .i64 c) (.int .i64 d) 23).kept hb1
  have B1 := bthen (balloc (balloc (Below.refl _ w) _) _) hb1
  clear hb1
  obtain ⟨z2, b0, b1, _, _⟩ := id P2
  simp only [World.size_alloc] at z2 b0 b1
  go_wp2_with fail
  refine (c2 _).mono ?_
  rintro e w2 ⟨rfl, hb1⟩
  replace B1 := bthen B1 hb1
  clear hb1 z2 b0 b1 P2
  go_wp2_with fail
  refine (hK _ B1).mono ?_
  rintro e w3 ⟨rfl, hb1⟩
  replace B1 := bthen B1 hb1
  clear hb1
  go_wp2
  go_ret2
  exact ⟨rfl, B1⟩

theorem counted1_no (K : Nat) (caps : Array Value) (a b c d : Int) (w : World) (fa : Fit1 a) (fb : Fit1 b) (fc : Fit1 c) (fd : Fit1 d) (h : ¬ (Low a b ∧ Low c d)) :
    Calls Try.prog 53 #[.agg #[.int .i64 a, .int .i64 b], .agg #[.int .i64 c, .int .i64 d], .func (.func K) #[] caps] w fun e w' =>
      e = .returned (.tuple #[.int .i64 0, .int .i64 1]) ∧ Below w.heap.size w w' := by
  by_cases h1 : Low a b
  · have c1 := fun w => Check_yes a b w fa fb h1
    have c2 := fun w => Check_no c d w fc fd (fun h2 => h ⟨h1, h2⟩)
    clear h h1 fa fb fc fd
    go_enter Try.func53, Try.ntmps53
    go_wp2_with fail
    refine (c1 _).mono ?_
    rintro e w1 ⟨rfl, hb1⟩
    have P2 := (Two.new (w.alloc (.cells #[.int .i64 a, .int .i64 b] 23)) (.int .i64 c) (.int .i64 d) 23).kept hb1
    have B1 := bthen (balloc (balloc (Below.refl _ w) _) _) hb1
    clear hb1
    obtain ⟨z2, b0, b1, _, _⟩ := id P2
    simp only [World.size_alloc] at z2 b0 b1
    go_wp2_with fail
    refine (c2 _).mono ?_
    rintro e w2 ⟨rfl, hb1⟩
    replace B1 := bthen B1 hb1
    clear hb1 z2 b0 b1 P2
    go_wp2
    go_ret2
    exact ⟨rfl, B1⟩
  · have c1 := fun w => Check_no a b w fa fb h1
    clear h h1 fa fb fc fd
    go_enter Try.func53, Try.ntmps53
    go_wp2_with fail
    refine (c1 _).mono ?_
    rintro e w1 ⟨rfl, hb1⟩
    have B1 := bthen (balloc (balloc (Below.refl _ w) _) _) hb1
    clear hb1
    go_wp2
    go_ret2
    exact ⟨rfl, B1⟩

theorem Cmp_op (a b c d v er : Int) (w : World) (fa : Fit1 a) (fb : Fit1 b) (fc : Fit1 c) (fd : Fit1 d) (R : CmpRes a b c d v er) :
    Calls Try.prog 22 #[.agg #[.int .i64 a, .int .i64 b], .agg #[.int .i64 c, .int .i64 d]] w fun e w' =>
      e = .returned (.tuple #[.int .i64 v, .int .i64 er]) ∧ Below w.heap.size w w' := by
  have P1 := (Two.new w (.int .i64 a) (.int .i64 b) 23).alloc (.cells #[.int .i64 c, .int .i64 d] 23)
  have P2 := Two.new (w.alloc (.cells #[.int .i64 a, .int .i64 b] 23)) (.int .i64 c) (.int .i64 d) 23
  have B0 := balloc (balloc (Below.refl _ w) (.cells #[.int .i64 a, .int .i64 b] 23)) (.cells #[.int .i64 c, .int .i64 d] 23)
  simp only [World.size_alloc] at P1 P2
  have ct : Calls Try.prog 53 #[.agg #[.int .i64 a, .int .i64 b], .agg #[.int .i64 c, .int .i64 d], .func (.func 54) #[] #[.pointer (some ⟨w.heap.size, 0, none⟩), .pointer (some ⟨w.heap.size + 1, 0, none⟩)]]
      ((w.alloc (.cells #[.int .i64 a, .int .i64 b] 23)).alloc (.cells #[.int .i64 c, .int .i64 d] 23)) fun e w' =>
      e = .returned (.tuple #[.int .i64 v, .int .i64 er]) ∧ Below w.heap.size w w' := by
    rcases R with ⟨h1, h2, R, rfl⟩ | ⟨h, rfl, rfl⟩
    · refine (counted1_yes _ _ a b c d v 0 _ fa fb fc fd h1 h2 (fun w1 => by rfl) (fun w1 hb => cmpf_any _ _ a b c d v w1 (P1.kept hb) (P2.kept hb) fa fb fc fd R)).mono ?_
      rintro e w1 ⟨rfl, hb⟩
      exact ⟨rfl, bthen B0 hb⟩
    · refine (counted1_no _ _ a b c d _ fa fb fc fd h).mono ?_
      rintro e w1 ⟨rfl, hb⟩
      exact ⟨rfl, bthen B0 hb⟩
  clear R fa fb fc fd P1 P2 B0
  go_enter Try.func22, Try.ntmps22
  go_wp2_with fail
  refine ct.mono ?_
  rintro e w1 ⟨rfl, B1⟩
  clear ct
  go_wp2
  go_ret2
  exact ⟨rfl, B1⟩

theorem parts_yes (a b q r : Int) (w : World) (fa : Fit1 a) (fb : Fit1 b) (h : Low a b) (e1 : Hid (a / b = q)) (e2 : Hid (a % b = r)) :
    Calls Try.prog 56 #[.agg #[.int .i64 a, .int .i64 b]] w fun e w' => e = .returned (.tuple #[.int .i64 q, .int .i64 r, .int .i64 0]) ∧ Below w.heap.size w w' := by
  have c1 := fun w => Check_yes a b w fa fb h
  have c2 := fun w => wholeDiv_to a b q r w fa h.1 fb.2 e1 e2
  clear h fa fb e1 e2
  go_enter Try.func56, Try.ntmps56
  go_wp2_with fail
  refine (c1 _).mono ?_
  rintro e w1 ⟨rfl, hb1⟩
  have P1 := (Two.new w (.int .i64 a) (.int .i64 b) 23).kept hb1
  have B1 := bthen (balloc (Below.refl _ w) _) hb1
  clear hb1
  obtain ⟨z1, a0, a1, _, _⟩ := id P1
  go_wp2_with fail
  refine (c2 _).mono ?_
  rintro e w' ⟨rfl, n, rfl⟩
  go_wp2
  go_ret3
  exact ⟨rfl, bdrewN B1 n⟩

theorem parts_no (a b : Int) (w : World) (fa : Fit1 a) (fb : Fit1 b) (h : ¬ Low a b) :
    Calls Try.prog 56 #[.agg #[.int .i64 a, .int .i64 b]] w fun e w' => e = .returned (.tuple #[.int .i64 0, .int .i64 0, .int .i64 1]) ∧ Below w.heap.size w w' := by
  have c1 := fun w => Check_no a b w fa fb h
  clear h fa fb
  go_enter Try.func56, Try.ntmps56
  go_wp2_with fail
  refine (c1 _).mono ?_
  rintro e w1 ⟨rfl, hb1⟩
  have B1 := bthen (balloc (Below.refl _ w) _) hb1
  clear hb1
  go_wp2
  go_ret3
  exact ⟨rfl, B1⟩

theorem Floor_any (a b v er : Int) (w : World) (fa : Fit1 a) (fb : Fit1 b) (R : FloorRes a b v er) :
    Calls Try.prog 24 #[.agg #[.int .i64 a, .int .i64 b]] w fun e w' => e = .returned (.tuple #[.int .i64 v, .int .i64 er]) ∧ Below w.heap.size w w' := by
  have ct : ∃ r, ∀ w, Calls Try.prog 56 #[.agg #[.int .i64 a, .int .i64 b]] w fun e w' => e = .returned (.tuple #[.int .i64 v, .int .i64 r, .int .i64 er]) ∧ Below w.heap.size w w' := by
    rcases R with ⟨h, rfl, rfl⟩ | ⟨h, rfl, rfl⟩
    · exact ⟨a % b, fun w => parts_yes a b _ _ w fa fb h (Lib.hid rfl) (Lib.hid rfl)⟩
    · exact ⟨0, fun w => parts_no a b w fa fb h⟩
  obtain ⟨r, ct⟩ := ct
  clear R fa fb
  go_enter Try.func24, Try.ntmps24
  go_wp2_with fail
  refine (ct _).mono ?_
  rintro e w1 ⟨rfl, hb1⟩
  have B1 := bthen (balloc (Below.refl _ w) _) hb1
  clear hb1
  go_wp2
  go_ret2
  exact ⟨rfl, B1⟩

theorem Ceil_any (a b v er : Int) (w : World) (fa : Fit1 a) (fb : Fit1 b) (R : CeilRes a b v er) :
    Calls Try.prog 26 #[.agg #[.int .i64 a, .int .i64 b]] w fun e w' => e = .returned (.tuple #[.int .i64 v, .int .i64 er]) ∧ Below w.heap.size w w' := by
  have ct : ∃ q r, ((r = 0 ∧ q = v) ∨ (r ≠ 0 ∧ v = q + 1 ∧ -9223372036854775808 ≤ q ∧ q < 9223372036854775807)) ∧ ∀ w, Calls Try.prog 56 #[.agg #[.int .i64 a, .int .i64 b]] w fun e w' => e = .returned (.tuple #[.int .i64 q, .int .i64 r, .int .i64 er]) ∧ Below w.heap.size w w' := by
    rcases R with ⟨h, rfl, rfl⟩ | ⟨h, rfl, rfl⟩
    · refine ⟨a / b, a % b, ?_, fun w => parts_yes a b _ _ w fa fb h (Lib.hid rfl) (Lib.hid rfl)⟩
      by_cases c : a % b = 0
      · exact .inl ⟨c, by rw [if_pos c]⟩
      · refine .inr ⟨c, by rw [if_neg c], ?_⟩
        have h0 := h.1
        have h1 := Int.mul_ediv_add_emod a b
        have h2 := Int.emod_nonneg a (b := b) (by omega)
        have h3 : b ≠ 1 := by intro e; subst e; exact c (Int.emod_one a)
        unfold Fit1 at fa
        constructor
        · by_cases hq : a / b < 0
          · have : b * (a / b) ≤ 1 * (a / b) := Int.mul_le_mul_of_nonpos_right (by omega) (by omega)
            have h4 := Int.emod_lt_of_pos a h0
            have h5 : b * (a / b) ≤ 2 * (a / b) := Int.mul_le_mul_of_nonpos_right (by omega) (by omega)
            have h6 : b * (a / b + 1) ≤ 1 * (a / b + 1) := Int.mul_le_mul_of_nonpos_right (by omega) (by omega)
            rw [Int.mul_add] at h6
            omega
          · omega
        · by_cases hq : a / b < 0
          · omega
          · have : 2 * (a / b) ≤ b * (a / b) := Int.mul_le_mul_of_nonneg_right (by omega) (by omega)
            omega
    · exact ⟨0, 0, .inl ⟨rfl, rfl⟩, fun w => parts_no a b w fa fb h⟩
  obtain ⟨q, r, O, ct⟩ := ct
  clear R fa fb
  rcases O with ⟨rfl, rfl⟩ | ⟨o1, rfl, o2, o3⟩
  · go_enter Try.func26, Try.ntmps26
    go_wp2_with fail
    refine (ct _).mono ?_
    rintro e w1 ⟨rfl, hb1⟩
    have B1 := bthen (balloc (Below.refl _ w) _) hb1
    clear hb1
    go_wp2
    go_ret2
    exact ⟨rfl, B1⟩
  · have d1 : (r != 0) = true := bne_iff_ne.2 o1
    clear o1
    go_enter Try.func26, Try.ntmps26
    go_wp2_with fail
    refine (ct _).mono ?_
    rintro e w1 ⟨rfl, hb1⟩
    have B1 := bthen (balloc (Below.refl _ w) _) hb1
    clear hb1
    go_wp2
    go_ret2
    exact ⟨rfl, B1⟩

end Go.Proofs.Ytmngbhkokglmjaa.Qc
