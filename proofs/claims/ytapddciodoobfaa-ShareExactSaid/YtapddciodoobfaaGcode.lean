/- What Gcd of package whole comes to (out of XWcode, over XUcode). -/
import Derived.Test.YtapddciodoobfaaUcode
import Derived.Test.YtapddciodoobfaaVmath2
namespace Go.Proofs.Ytapddciodoobfaa.Wc
set_option linter.unusedSimpArgs false
set_option linter.unusedVariables false
open Go.RowKit Go.Proofs.Ytapddciodoobfaa.Wm

set_option maxHeartbeats 400000

/-- a number that a remainder of two numbers is fits -/
theorem tmod_fit {a b : Int} (hb : Fit b) (h : b ≠ 0) : Fit (a.tmod b) := by
  have := tmod_abs a h
  unfold Fit at *; omega

theorem gcd_any (a b : Int) (w : World) (ha : Fit a) (hb : Fit b) (v e1 : Int)
    (hv : (Fit (Nat.gcd a.natAbs b.natAbs : Int) ∧ v = (Nat.gcd a.natAbs b.natAbs : Int) ∧ e1 = 0) ∨ (¬ Fit (Nat.gcd a.natAbs b.natAbs : Int) ∧ v = 0 ∧ e1 = 2)) :
    Calls Try.prog 68 #[.int .i64 a, .int .i64 b] w fun e w' => e = .returned (.tuple #[.int .i64 v, .int .i64 e1]) ∧ Drew w w' := by
  have HV := Lib.hid hv
  clear hv
  go_enter Try.func68, Try.ntmps68
  go_wp2
  go_loopw [0, 1] (fun x y w' => ∃ p q : Int, x = .int .i64 p ∧ y = .int .i64 q ∧ Fit p ∧ Fit q ∧ Hid (Nat.gcd p.natAbs q.natAbs = Nat.gcd a.natAbs b.natAbs) ∧ Drew w w') (fun _ y _ => (intOf y).natAbs)
  case atStart => exact ⟨a, b, rfl, rfl, ha, hb, Lib.hid rfl, 0, rfl⟩
  case round =>
    obtain ⟨p, q, rfl, rfl, hp, hq, hg, n, rfl⟩ := hrel
    by_cases hz : q = 0
    · subst hz
      rw [gcd_zero] at hg
      by_cases c1 : p < 0
      · have d1 : decide (p < 0) = true := decide_eq_true c1
        by_cases c2 : p = -9223372036854775808
        · subst c2
          have hv : v = 0 ∧ e1 = 2 := by
            rcases HV.out with ⟨h1, h2, h3⟩ | ⟨h1, h2, h3⟩
            · rw [← hg.out] at h1; exact absurd h1 (by decide)
            · exact ⟨h2, h3⟩
          obtain ⟨rfl, rfl⟩ := hv
          clear HV hg hp hq c1
          go_wp2_with (go_at_call 79; refine (neg_no _).mono ?_; rintro e w' ⟨rfl, rfl⟩)
          go_ret2
          exact ⟨rfl, n, rfl⟩
        · have hv : v = -p ∧ e1 = 0 := by
            rcases HV.out with ⟨h1, h2, h3⟩ | ⟨h1, h2, h3⟩
            · rw [← hg.out] at h2; exact ⟨by omega, h3⟩
            · rw [← hg.out] at h1; exact absurd (by unfold Fit at *; omega) h1
          obtain ⟨rfl, rfl⟩ := hv
          have ct := fun w0 => neg_yes p w0 hp c2
          clear HV hg hp hq c1 c2
          go_wp2_with (go_at_call 79; refine (ct _).mono ?_; rintro e w' ⟨rfl, rfl⟩)
          go_ret2
          exact ⟨rfl, n, rfl⟩
      · have d1 : decide (p < 0) = false := decide_eq_false c1
        have hv : v = p ∧ e1 = 0 := by
          rcases HV.out with ⟨h1, h2, h3⟩ | ⟨h1, h2, h3⟩
          · rw [← hg.out] at h2; exact ⟨by omega, h3⟩
          · rw [← hg.out] at h1; exact absurd (by unfold Fit at *; omega) h1
        obtain ⟨rfl, rfl⟩ := hv
        clear HV hg hp hq
        go_wp2
        go_ret2
        exact ⟨rfl, n, rfl⟩
    · have d0 : (q != 0) = true := by rw [bne_iff_ne]; exact hz
      have hs : Hid (Nat.gcd q.natAbs (p.tmod q).natAbs = Nat.gcd a.natAbs b.natAbs) := Lib.hid (by rw [gcd_step]; exact hg.out)
      have ht : p.natAbs % q.natAbs < q.natAbs := Nat.mod_lt _ (by omega)
      have hf := tmod_fit (a := p) hq hz
      go_wp2
      go_quiet (fail)
      go_wp2
      go_roundw
      case rel => exact ⟨q, p.tmod q, rfl, rfl, hq, hf, hs, _, by rw [World.drewN_drewN]⟩
      case measure => simp [intOf]; omega

theorem gcd_to (a b g : Int) (w : World) (ha : Vm.Fit1 a) (hb : Vm.Fit1 b) (hg : g = (Int.gcd a b : Int)) (fg : Vm.Fit1 g) :
    Calls Try.prog 68 #[.int .i64 a, .int .i64 b] w fun e w' => e = .returned (.tuple #[.int .i64 g, .int .i64 0]) ∧ Drew w w' :=
  gcd_any a b w ha hb g 0 (Or.inl ⟨by subst hg; exact fg, hg, rfl⟩)

theorem gcd_lost (a b : Int) (w : World) (ha : Vm.Fit1 a) (hb : Vm.Fit1 b) (fg : ¬ Vm.Fit1 (Int.gcd a b : Int)) :
    Calls Try.prog 68 #[.int .i64 a, .int .i64 b] w fun e w' => e = .returned (.tuple #[.int .i64 0, .int .i64 2]) ∧ Drew w w' :=
  gcd_any a b w ha hb 0 2 (Or.inr ⟨fg, rfl, rfl⟩)

end Go.Proofs.Ytapddciodoobfaa.Wc
