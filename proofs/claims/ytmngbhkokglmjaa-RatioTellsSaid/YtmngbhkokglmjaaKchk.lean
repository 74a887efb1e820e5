/- What common, Check, may and Make of the reference of layer 3 come to. -/
import Derived.Test.YtmngbhkokglmjaaWrmul
import Derived.Test.YtmngbhkokglmjaaRfuns
import Derived.Test.YtmngbhkokglmjaaPairs
import Derived.Test.YtmngbhkokglmjaaQmath
namespace Go.Proofs.Ytmngbhkokglmjaa.Kc
open Go.RowKit Go.Proofs.Ytmngbhkokglmjaa.Vm Go.Proofs.Ytmngbhkokglmjaa.Vc Go.Proofs.Ytmngbhkokglmjaa.Pr Go.Proofs.Ytmngbhkokglmjaa.Qm

set_option maxHeartbeats 400000

theorem quiet_same {P : Program} {f : FuncId} {args : Array Value} {w : World} {n : Nat} {v : Value}
    (h : Calls P f args (w.drewN n) fun e w' => e = .returned v ∧ w.drewN n = w') : Calls P f args (w.drewN n) fun e w'' => e = .returned v ∧ ∃ m, w'' = w.drewN m :=
  h.mono fun _ _ ⟨he, hm⟩ => ⟨he, n, hm.symm⟩

theorem gcd_abs (a b : Int) : Int.gcd (a.natAbs : Int) b = Int.gcd a b := by simp [Int.gcd]

theorem gcd_rem (a b : Int) : Int.gcd b (a % b) = Int.gcd a b := by
  rw [Int.gcd_comm]
  conv => rhs; rw [← Int.mul_ediv_add_emod a b]
  rw [Int.gcd_mul_left_add_left]

theorem common_any (a b G : Int) (w : World) (a0 : 0 ≤ a) (a1 : a ≤ 18446744073709551615) (b0 : 0 ≤ b) (b1 : b ≤ 18446744073709551615) (hG : G = (Int.gcd a b : Int)) :
    Calls Try.prog 51 #[.int .u64 a, .int .u64 b] w fun e w' => e = .returned (.int .u64 G) ∧ w = w' := by
  have HG := Lib.hid hG
  clear hG
  go_enter Try.func51, Try.ntmps51
  go_wp2
  go_loop [0, 1] (fun x y => ∃ p q : Int, x = .int .u64 p ∧ y = .int .u64 q ∧ 0 ≤ p ∧ p ≤ 18446744073709551615 ∧ 0 ≤ q ∧ q ≤ 18446744073709551615 ∧ Hid (Int.gcd p q = Int.gcd a b)) (fun _ y => (intOf y).toNat)
  case atStart => exact ⟨a, b, rfl, rfl, a0, a1, b0, b1, Lib.hid rfl⟩
  case round =>
    obtain ⟨p, q, rfl, rfl, p0, p1, q0, q1, hg⟩ := hrel
    by_cases hz : q = 0
    · subst hz
      have hp : p = G := by
        have h1 := hg.out
        rw [Int.gcd_zero_right] at h1
        rw [HG.out, ← h1]; omega
      subst hp
      clear hg HG
      go_wp2
      go_ret
      exact ⟨rfl, rfl⟩
    · have d0 : (q != 0) = true := by rw [bne_iff_ne]; exact hz
      have hs := Lib.hid ((gcd_rem p q).trans hg.out)
      have r0 := Int.emod_nonneg p hz
      have r1 := Int.emod_lt_of_pos p (b := q) (by omega)
      go_wp2
      go_round
      case rel => exact ⟨q, p % q, rfl, rfl, q0, q1, r0, by omega, hs⟩
      case measure => simp [intOf]; omega

theorem rCheck_yes (N D : Int) (w : World) (fN : Fit1 N) (fD : Fit1 D) (h : Low N D) :
    Calls Try.prog 29 #[.agg #[.int .i64 N, .int .i64 D]] w fun e w' => e = .returned (.int .i64 0) ∧ Below w.heap.size w w' := by
  have cs := fun w => Vr.rsize_any N w fN
  have D0 : 0 ≤ D := by have := h.1; omega
  have D1 : D ≤ 9223372036854775807 := fD.2
  have cc := fun w => common_any (N.natAbs : Int) D 1 w (by omega) (by unfold Fit1 at fN; omega) D0 (by omega) (by rw [gcd_abs, h.2]; rfl)
  have d1 : decide (D < 1) = false := decide_eq_false (by have := h.1; omega)
  clear h fN fD
  generalize (N.natAbs : Int) = x at *
  go_enter Try.func29, Try.ntmps29
  go_wp2
  go_quiet ((first | (go_at_call 52; exact quiet_same (cs _)) | (go_at_call 51; exact quiet_same (cc _))))
  go_wp2
  go_ret
  exact ⟨rfl, bdrewN (balloc (Below.refl _ w) _) _⟩

theorem rCheck_no (N D : Int) (w : World) (fN : Fit1 N) (fD : Fit1 D) (h : ¬ Low N D) :
    Calls Try.prog 29 #[.agg #[.int .i64 N, .int .i64 D]] w fun e w' => e = .returned (.int .i64 1) ∧ Below w.heap.size w w' := by
  by_cases c : D < 1
  · have d1 : decide (D < 1) = true := decide_eq_true c
    clear h fN fD
    go_enter Try.func29, Try.ntmps29
    go_wp2
    go_quiet (fail)
    go_wp2
    go_ret
    exact ⟨rfl, bdrewN (balloc (Below.refl _ w) _) _⟩
  · have cs := fun w => Vr.rsize_any N w fN
    have D0 : 0 ≤ D := by omega
    have D1 : D ≤ 9223372036854775807 := fD.2
    obtain ⟨G, hG⟩ : ∃ G, G = (Int.gcd N D : Int) := ⟨_, rfl⟩
    have cc := fun w => common_any (N.natAbs : Int) D G w (by omega) (by unfold Fit1 at fN; omega) D0 (by omega) (by rw [gcd_abs, hG])
    have d1 : decide (D < 1) = false := decide_eq_false c
    have d2 : (G != 1) = true := by rw [bne_iff_ne]; intro e; exact h ⟨by omega, by omega⟩
    clear h fN fD hG
    generalize (N.natAbs : Int) = x at *
    go_enter Try.func29, Try.ntmps29
    go_wp2
    go_quiet ((first | (go_at_call 52; exact quiet_same (cs _)) | (go_at_call 51; exact quiet_same (cc _))))
    go_wp2
    go_ret
    exact ⟨rfl, bdrewN (balloc (Below.refl _ w) _) _⟩

theorem may_yes (a b c d : Int) (w : World) (fa : Fit1 a) (fb : Fit1 b) (fc : Fit1 c) (fd : Fit1 d) (h1 : Low a b) (h2 : Low c d) :
    Calls Try.prog 43 #[.agg #[.int .i64 a, .int .i64 b], .agg #[.int .i64 c, .int .i64 d]] w fun e w' => e = .returned (.int .i64 0) ∧ Below w.heap.size w w' := by
  have c1 := fun w => rCheck_yes a b w fa fb h1
  have c2 := fun w => rCheck_yes c d w fc fd h2
  clear h1 h2 fa fb fc fd
  go_enter Try.func43, Try.ntmps43
  go_wp2_with fail
  refine (c1 _).mono ?_
  rintro e w1 ⟨rfl, hb1⟩
  have P2 := (Two.new (w.alloc (.cells #[.int .i64 a, .int .i64 b] 23)) (.int .i64 c) (.int .i64 d) 23).kept hb1
  have B1 := bthen (balloc (balloc (Below.refl _ w) _) _) hb1
  clear hb1
  obtain ⟨z2, b0, b1, _, _⟩ := id P2
  simp only [World.size_alloc] at z2 b0 b1
  go_wp2_with fail
  refine (c2 _).mono ?_
  rintro e w2 ⟨rfl, hb1⟩
  replace B1 := bthen B1 hb1
  clear hb1 z2 b0 b1 P2
  go_wp2
  go_ret
  exact ⟨rfl, B1⟩

theorem may_no (a b c d : Int) (w : World) (fa : Fit1 a) (fb : Fit1 b) (fc : Fit1 c) (fd : Fit1 d) (h : ¬ (Low a b ∧ Low c d)) :
    Calls Try.prog 43 #[.agg #[.int .i64 a, .int .i64 b], .agg #[.int .i64 c, .int .i64 d]] w fun e w' => e = .returned (.int .i64 1) ∧ Below w.heap.size w w' := by
  by_cases h1 : Low a b
  · have c1 := fun w => rCheck_yes a b w fa fb h1
    have c2 := fun w => rCheck_no c d w fc fd (fun h2 => h ⟨h1, h2⟩)
    clear h h1 fa fb fc fd
    go_enter Try.func43, Try.ntmps43
    go_wp2_with fail
    refine (c1 _).mono ?_
    rintro e w1 ⟨rfl, hb1⟩
    have P2 := (Two.new (w.alloc (.cells #[.int .i64 a, .int .i64 b] 23)) (.int .i64 c) (.int .i64 d) 23).kept hb1
    have B1 := bthen (balloc (balloc (Below.refl _ w) _) _) hb1
    clear hb1
    obtain ⟨z2, b0, b1, _, _⟩ := id P2
    simp only [World.size_alloc] at z2 b0 b1
    go_wp2_with fail
    refine (c2 _).mono ?_
    rintro e w2 ⟨rfl, hb1⟩
    replace B1 := bthen B1 hb1
    clear hb1 z2 b0 b1 P2
    go_wp2
    go_ret
    exact ⟨rfl, B1⟩
  · have c1 := fun w => rCheck_no a b w fa fb h1
    clear h h1 fa fb fc fd
    go_enter Try.func43, Try.ntmps43
    go_wp2_with fail
    refine (c1 _).mono ?_
    rintro e w1 ⟨rfl, hb1⟩
    have B1 := bthen (balloc (balloc (Below.refl _ w) _) _) hb1
    clear hb1
    go_wp2
    go_ret
    exact ⟨rfl, B1⟩

end Go.Proofs.Ytmngbhkokglmjaa.Kc
