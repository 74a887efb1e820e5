/- What back of the reference of layer 2 comes to. -/
import Derived.Test.YtfjckgnclhpmcaaDoorRof
namespace Go.Proofs.YtfjckgnclhpmcaaDoor.Vr
set_option linter.unusedSimpArgs false
set_option linter.unusedVariables false
open Go.RowKit Go.Proofs.YtfjckgnclhpmcaaDoor.Vm Go.Proofs.YtfjckgnclhpmcaaDoor.Vc

set_option maxHeartbeats 400000

/-- the number of a sign and a size -/
def sgn (s : Bool) (x : Int) : Int := if s then -x else x

/-- what back answers: the words of v, and true; or some words, and false -/
def Backs (v : Int) (w : World) (e : Ending) (w' : World) : Prop :=
  ∃ (h l : Int) (is : Bool), e = .returned (.tuple #[.agg #[.int .i64 h, .int .u64 l], .bool is]) ∧ ((is = true ∧ Res v h l 0) ∨ (is = false ∧ ¬ Fits v)) ∧ Below w.heap.size w w'

theorem back_facts {x hh ll : Int} (h0 : 0 ≤ x) (h1 : x < 340282366920938463463374607431768211456) (eh : x / 18446744073709551616 = hh) (el : x % 18446744073709551616 = ll) :
    0 ≤ hh ∧ hh ≤ 18446744073709551615 ∧ 0 ≤ ll ∧ ll ≤ 18446744073709551615 ∧ x = num hh ll := by unfold num; omega

theorem back_tells (s : Bool) (x d0 d1 d2 d3 d4 d5 d6 d7 : Int) (w : World) (D : D8 x d0 d1 d2 d3 d4 d5 d6 d7) :
    Calls Tryd.prog 44 #[.agg #[.bool s, .int .u64 d0, .int .u64 d1, .int .u64 d2, .int .u64 d3, .int .u64 d4, .int .u64 d5, .int .u64 d6, .int .u64 d7]] w (Backs (sgn s x) w) := by
  obtain ⟨x0, x1⟩ := d8_bd D
  obtain ⟨hh, ehh⟩ : ∃ t, x / 18446744073709551616 = t := ⟨_, rfl⟩
  obtain ⟨ll, ell⟩ : ∃ t, x % 18446744073709551616 = t := ⟨_, rfl⟩
  obtain ⟨b0, b1, b2, b3, ex⟩ := back_facts x0 x1 ehh ell
  have cw := fun w => words_to s x hh ll d0 d1 d2 d3 d4 d5 d6 d7 w D (Lib.hid ehh) (Lib.hid ell)
  clear D ehh ell x0 x1
  have EX := Lib.hid ex
  clear ex
  cases s
  · by_cases c : hh < 9223372036854775808
    · have d1 : decide (hh < 9223372036854775808) = true := decide_eq_true c
      go_enter Tryd.func44, Tryd.ntmps44
      go_wp2_with fail
      refine (cw _).mono ?_
      rintro e w1 ⟨rfl, hb1⟩
      obtain ⟨hc, hf⟩ := bcell hb1

      have B1 : Below w.heap.size w w1 := (((Below.refl _ _).alloc (Nat.le_refl _) _).alloc (by simp) _).trans (hb1.mono (by simp <;> omega))
      go_wp2
      refine bodyPost_ret (v := .tuple #[.agg #[.int .i64 (hh % 9223372036854775808), .int .u64 ll], .bool true]) (by simp [results, Tryd.results44, go_sem, hc]) rfl ⟨(hh % 9223372036854775808), ll, true, rfl, ?_, (B1.setCell (by simp) _).setCell (by simp) _⟩
      exact .inl ⟨rfl, .inl ⟨rfl, by unfold num; unfold sgn; have := EX.out; unfold num at this; simp; omega, by unfold Bd; omega⟩⟩
    · have d1 : decide (hh < 9223372036854775808) = false := decide_eq_false c
      go_enter Tryd.func44, Tryd.ntmps44
      go_wp2_with fail
      refine (cw _).mono ?_
      rintro e w1 ⟨rfl, hb1⟩
      obtain ⟨hc, hf⟩ := bcell hb1

      have B1 : Below w.heap.size w w1 := (((Below.refl _ _).alloc (Nat.le_refl _) _).alloc (by simp) _).trans (hb1.mono (by simp <;> omega))
      go_wp2
      refine bodyPost_ret (v := .tuple #[.agg #[.int .i64 (hh % 9223372036854775808), .int .u64 ll], .bool false]) (by simp [results, Tryd.results44, go_sem, hc]) rfl ⟨(hh % 9223372036854775808), ll, false, rfl, ?_, (B1.setCell (by simp) _).setCell (by simp) _⟩
      exact .inr ⟨rfl, by unfold sgn Fits; have := EX.out; unfold num at this; simp; omega⟩
  · by_cases c0 : hh = 0 ∧ ll = 0
    · obtain ⟨rfl, rfl⟩ := c0
      go_enter Tryd.func44, Tryd.ntmps44
      go_wp2_with fail
      refine (cw _).mono ?_
      rintro e w1 ⟨rfl, hb1⟩
      obtain ⟨hc, hf⟩ := bcell hb1

      have B1 : Below w.heap.size w w1 := (((Below.refl _ _).alloc (Nat.le_refl _) _).alloc (by simp) _).trans (hb1.mono (by simp <;> omega))
      go_wp2
      refine bodyPost_ret (v := .tuple #[.agg #[.int .i64 0, .int .u64 0], .bool true]) (by simp [results, Tryd.results44, go_sem, hc]) rfl ⟨0, 0, true, rfl, ?_, (B1.setCell (by simp) _).setCell (by simp) _⟩
      exact .inl ⟨rfl, .inl ⟨rfl, by unfold num; unfold sgn; have := EX.out; unfold num at this; simp; omega, by unfold Bd; omega⟩⟩
    · have nz : ((hh == 0) = false ∧ True) ∨ ((hh == 0) = true ∧ (ll == 0) = false) := by
        by_cases h : hh = 0
        · exact .inr ⟨beq_iff_eq.2 h, beq_eq_false_iff_ne.2 (fun h' => c0 ⟨h, h'⟩)⟩
        · exact .inl ⟨beq_eq_false_iff_ne.2 h, trivial⟩
      by_cases c1 : 9223372036854775808 < hh
      · have d1 : decide (9223372036854775808 < hh) = true := decide_eq_true c1
        have d2 : (hh == 0) = false := beq_eq_false_iff_ne.2 (by omega)
        clear nz
        go_enter Tryd.func44, Tryd.ntmps44
        go_wp2_with fail
        refine (cw _).mono ?_
        rintro e w1 ⟨rfl, hb1⟩
        obtain ⟨hc, hf⟩ := bcell hb1

        have B1 : Below w.heap.size w w1 := (((Below.refl _ _).alloc (Nat.le_refl _) _).alloc (by simp) _).trans (hb1.mono (by simp <;> omega))
        go_wp2
        refine bodyPost_ret (v := .tuple #[.agg #[.int .i64 0, .int .u64 0], .bool false]) (by simp [results, Tryd.results44, go_sem, hc]) rfl ⟨0, 0, false, rfl, ?_, (B1.setCell (by simp) _).setCell (by simp) _⟩
        exact .inr ⟨rfl, by unfold sgn Fits; have := EX.out; unfold num at this; simp; omega⟩
      · have d1 : decide (9223372036854775808 < hh) = false := decide_eq_false c1
        by_cases c2 : hh = 9223372036854775808
        · subst c2
          clear nz
          by_cases c3 : 0 < ll
          · have d3 : decide (0 < ll) = true := decide_eq_true c3
            go_enter Tryd.func44, Tryd.ntmps44
            go_wp2_with fail
            refine (cw _).mono ?_
            rintro e w1 ⟨rfl, hb1⟩
            obtain ⟨hc, hf⟩ := bcell hb1

            have B1 : Below w.heap.size w w1 := (((Below.refl _ _).alloc (Nat.le_refl _) _).alloc (by simp) _).trans (hb1.mono (by simp <;> omega))
            go_wp2
            refine bodyPost_ret (v := .tuple #[.agg #[.int .i64 0, .int .u64 0], .bool false]) (by simp [results, Tryd.results44, go_sem, hc]) rfl ⟨0, 0, false, rfl, ?_, (B1.setCell (by simp) _).setCell (by simp) _⟩
            exact .inr ⟨rfl, by unfold sgn Fits; have := EX.out; unfold num at this; simp; omega⟩
          · obtain rfl : ll = 0 := by omega
            go_enter Tryd.func44, Tryd.ntmps44
            go_wp2_with fail
            refine (cw _).mono ?_
            rintro e w1 ⟨rfl, hb1⟩
            obtain ⟨hc, hf⟩ := bcell hb1

            have B1 : Below w.heap.size w w1 := (((Below.refl _ _).alloc (Nat.le_refl _) _).alloc (by simp) _).trans (hb1.mono (by simp <;> omega))
            go_wp2
            refine bodyPost_ret (v := .tuple #[.agg #[.int .i64 (-9223372036854775808), .int .u64 0], .bool true]) (by simp [results, Tryd.results44, go_sem, hc]) rfl ⟨(-9223372036854775808), 0, true, rfl, ?_, (B1.setCell (by simp) _).setCell (by simp) _⟩
            exact .inl ⟨rfl, .inl ⟨rfl, by unfold num; unfold sgn; have := EX.out; unfold num at this; simp; omega, by unfold Bd; omega⟩⟩
        · have d2 : (hh == 9223372036854775808) = false := beq_eq_false_iff_ne.2 c2
          have d4 : decide (hh < 9223372036854775808) = true := decide_eq_true (by omega)
          by_cases c3 : ll = 0
          · subst c3
            have d5 : (hh == 0) = false := beq_eq_false_iff_ne.2 (fun h => c0 ⟨h, rfl⟩)
            have d6 : 1 ≤ hh := by omega
            have d7 : hh ≤ 9223372036854775807 := by omega
            clear nz
            go_enter Tryd.func44, Tryd.ntmps44
            go_wp2_with fail
            refine (cw _).mono ?_
            rintro e w1 ⟨rfl, hb1⟩
            obtain ⟨hc, hf⟩ := bcell hb1

            have B1 : Below w.heap.size w w1 := (((Below.refl _ _).alloc (Nat.le_refl _) _).alloc (by simp) _).trans (hb1.mono (by simp <;> omega))
            go_wp2
            refine bodyPost_ret (v := .tuple #[.agg #[.int .i64 (-(hh - 1) - 1), .int .u64 0], .bool true]) (by simp [results, Tryd.results44, go_sem, hc]) rfl ⟨(-(hh - 1) - 1), 0, true, rfl, ?_, (B1.setCell (by simp) _).setCell (by simp) _⟩
            exact .inl ⟨rfl, .inl ⟨rfl, by unfold num; unfold sgn; have := EX.out; unfold num at this; simp; omega, by unfold Bd; omega⟩⟩
          · have d3 : (ll == 0) = false := beq_eq_false_iff_ne.2 c3
            have d6 : 1 ≤ ll := by omega
            have d7 : hh ≤ 9223372036854775807 := by omega
            rcases nz with ⟨n1, _⟩ | ⟨n1, n2⟩
            all_goals
              go_enter Tryd.func44, Tryd.ntmps44
              go_wp2_with fail
              refine (cw _).mono ?_
              rintro e w1 ⟨rfl, hb1⟩
              obtain ⟨hc, hf⟩ := bcell hb1

              have B1 : Below w.heap.size w w1 := (((Below.refl _ _).alloc (Nat.le_refl _) _).alloc (by simp) _).trans (hb1.mono (by simp <;> omega))
              go_wp2
              refine bodyPost_ret (v := .tuple #[.agg #[.int .i64 (-hh - 1), .int .u64 (18446744073709551615 - ll + 1)], .bool true]) (by simp [results, Tryd.results44, go_sem, hc]) rfl ⟨(-hh - 1), (18446744073709551615 - ll + 1), true, rfl, ?_, (B1.setCell (by simp) _).setCell (by simp) _⟩
              exact .inl ⟨rfl, .inl ⟨rfl, by unfold num; unfold sgn; have := EX.out; unfold num at this; simp; omega, by unfold Bd; omega⟩⟩

end Go.Proofs.YtfjckgnclhpmcaaDoor.Vr
