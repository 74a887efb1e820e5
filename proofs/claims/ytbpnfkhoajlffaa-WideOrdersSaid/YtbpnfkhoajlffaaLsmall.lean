/- WideSmall's walk. -/
import Derived.Test.YtbpnfkhoajlffaaLlive
import Derived.Test.YtbpnfkhoajlffaaLmd
namespace Go.Proofs.Ytbpnfkhoajlffaa.Vl
open Go.RowKit Go.Proofs.Ytbpnfkhoajlffaa.Vm Go.Proofs.Ytbpnfkhoajlffaa.Vc

set_option maxHeartbeats 400000

theorem wadd_to (a b v er : Int) (w : World) (fa : Fit1 a) (fb : Fit1 b) (r : Res1 (a + b) v er) :
    Calls Try.prog 31 #[.int .i64 a, .int .i64 b] w fun e w' => e = .returned (.tuple #[.int .i64 v, .int .i64 er]) ∧ w = w' := by
  rcases r with ⟨rfl, rfl, f⟩ | ⟨rfl, rfl, f⟩
  · exact Wc.add_yes a b w fa fb f
  · exact Wc.add_no a b w fa fb f

theorem wmul_to (a b v er : Int) (w : World) (fa : Fit1 a) (fb : Fit1 b) (r : Res1 (a * b) v er) :
    Calls Try.prog 30 #[.int .i64 a, .int .i64 b] w fun e w' => e = .returned (.tuple #[.int .i64 v, .int .i64 er]) ∧ w = w' := by
  rcases r with ⟨rfl, rfl, f⟩ | ⟨rfl, rfl, f⟩
  · exact Wc.mul_yes a b w fa fb f
  · exact Wc.mul_no a b w fa fb f

theorem small_walk (a b c : Int) (w : World) (w1 : (Lit.int .i64 a).wf = true) (w2 : (Lit.int .i64 b).wf = true) (w3 : (Lit.int .i64 c).wf = true) :
    Calls Try.prog 9 #[.int .i64 a, .int .i64 b, .int .i64 c] w fun e w' => e = .returned (.bool true) ∧ Below w.heap.size w w' := by
  have fa : Fit1 a := bounds_i64 w1
  have fb : Fit1 b := bounds_i64 w2
  have fc : Fit1 c := bounds_i64 w3
  clear w1 w2 w3
  have pf := prod_fits fa fb
  obtain ⟨hx, lx, nx, bx⟩ := words_ex (x := a * b) (by unfold Fits; omega)
  obtain ⟨v1, e1, r1⟩ := res1_ex (a * b)
  obtain ⟨v2, e2, r2⟩ := res1_ex (a + b)
  have c1 := fun w => wmul_to a b v1 e1 w fa fb r1
  have c2 := fun w => Mul_any a b hx lx w fa fb bx nx
  have c3 := fun w => Fit_any hx lx v1 e1 w bx (by rw [nx]; exact r1)
  have c4 := fun w => wadd_to a b v2 e2 w fa fb r2
  have hf : ∀ z ∈ [a, b], Fit1 z := by
    intro z hz
    simp at hz
    rcases hz with rfl | rfl
    · exact fa
    · exact fb
  have c5 : ∀ w W, Rd W W.heap.size (some ⟨w, 0, none⟩) [a, b] → Calls Try.prog 28 #[.slice (some ⟨w, 0, none⟩) 2 2] W fun e w' => e = .returned (.tuple #[.int .i64 v2, .int .i64 e2]) ∧ Below W.heap.size W w' :=
    fun w W h => Sum_any _ 2 2 [a, b] v2 e2 W rfl (by omega) hf h (by simpa using r2)
  clear pf nx bx r1 r2 hf
  by_cases p : c < 1
  · clear fa fb fc
    go_enter Try.func9, Try.ntmps9
    go_wp2_with fail
    refine (live_ok _).mono ?_
    rintro e w1 ⟨rfl, hb1⟩
    go_wp2_with fail
    refine (c1 _).mono ?_
    rintro e w' ⟨rfl, rfl⟩
    go_wp2_with fail
    refine (c2 _).mono ?_
    rintro e w2 ⟨rfl, hb2⟩
    go_wp2_with fail
    refine (c3 _).mono ?_
    rintro e w3 ⟨rfl, hb3⟩
    go_wp2_with fail
    refine (c4 _).mono ?_
    rintro e w' ⟨rfl, rfl⟩
    have B3 := bthen (bthen hb1 hb2) hb3
    clear hb1 hb2 hb3
    go_wp2_with fail
    refine (c5 _ _ (.inr ⟨_, _, rfl, ?_, ?_⟩)).mono ?_
    · simp
    · intro i hi
      match i, hi with
      | 0, _ => simp [go_sem]
      | 1, _ => simp [go_sem]
    rintro e w4 ⟨rfl, hb4⟩
    have B4 := bthen (balloc B3 _) hb4
    go_wp2
    go_ret
    exact ⟨rfl, B4⟩
  · have hc : 0 < c := by omega
    obtain ⟨q, hq⟩ : ∃ s, a / c = s := ⟨_, rfl⟩
    obtain ⟨r, hr⟩ : ∃ s, a % c = s := ⟨_, rfl⟩
    have fq : Fit1 (a / c) := by
      have h1 : Fits (a / c) := quot_fits (by unfold Fits; unfold Fit1 at fa; omega) hc
      unfold Fit1 at *
      have e := Int.mul_ediv_add_emod a c
      have m0 := Int.emod_nonneg a (show c ≠ 0 by omega)
      have m1 := Int.emod_lt_of_pos a hc
      constructor
      · refine Int.le_ediv_of_mul_le hc ?_
        have : -9223372036854775808 * c ≤ -9223372036854775808 * 1 := Int.mul_le_mul_of_nonpos_left (by omega) (by omega)
        omega
      · have : a / c < 9223372036854775808 := by
          refine Int.ediv_lt_of_lt_mul hc ?_
          have : 9223372036854775808 * 1 ≤ 9223372036854775808 * c := Int.mul_le_mul_of_nonneg_left (by omega) (by omega)
          omega
        omega
    have c6 := fun w => wholeDiv_to a c q r w fa hc fc.2 (Lib.hid hq) (Lib.hid hr)
    have c7 := fun w => muldiv_to a 1 c q r 0 w fa (by unfold Fit1; omega) fc (.inr (.inr (.inr ⟨hc, rfl, by rw [← hq]; exact fq, by rw [Int.mul_one]; exact hq.symm, by rw [Int.mul_one]; exact hr.symm⟩)))
    clear fa fb fc hq hr fq hc
    go_enter Try.func9, Try.ntmps9
    go_wp2_with fail
    refine (live_ok _).mono ?_
    rintro e w1 ⟨rfl, hb1⟩
    go_wp2_with fail
    refine (c1 _).mono ?_
    rintro e w' ⟨rfl, rfl⟩
    go_wp2_with fail
    refine (c2 _).mono ?_
    rintro e w2 ⟨rfl, hb2⟩
    go_wp2_with fail
    refine (c3 _).mono ?_
    rintro e w3 ⟨rfl, hb3⟩
    go_wp2_with fail
    refine (c4 _).mono ?_
    rintro e w' ⟨rfl, rfl⟩
    have B3 := bthen (bthen hb1 hb2) hb3
    clear hb1 hb2 hb3
    go_wp2_with fail
    refine (c5 _ _ (.inr ⟨_, _, rfl, ?_, ?_⟩)).mono ?_
    · simp
    · intro i hi
      match i, hi with
      | 0, _ => simp [go_sem]
      | 1, _ => simp [go_sem]
    rintro e w4 ⟨rfl, hb4⟩
    have B4 := bthen (balloc B3 _) hb4
    go_wp2_with fail
    refine (c6 _).mono ?_
    rintro e w5 ⟨rfl, nd, rfl⟩
    have B5 := bdrewN B4 nd
    go_wp2_with fail
    refine (c7 _).mono ?_
    rintro e w6 ⟨rfl, hb6⟩
    go_wp2
    go_ret
    exact ⟨by simp, bthen B5 hb6⟩

end Go.Proofs.Ytbpnfkhoajlffaa.Vl
