/- What Fit of package wide comes to. -/
import Derived.Test.YtodpmdmfdnbehabVneg
import Derived.Test.YtodpmdmfdnbehabVmath2
namespace Go.Proofs.Ytodpmdmfdnbehab.Vc
set_option linter.unusedSimpArgs false
set_option linter.unusedVariables false
open Go.RowKit Go.Proofs.Ytodpmdmfdnbehab.Vm
attribute [local go_sem ↓] Go.wp_at_zero Go.wp_at_succ

set_option maxHeartbeats 400000

/-- a call that tells a number, or that it does not fit -/
def Tells1 (x : Int) (w : World) (e : Ending) (w' : World) : Prop := ∃ v er : Int, e = .returned (.tuple #[.int .i64 v, .int .i64 er]) ∧ Res1 x v er ∧ Below w.heap.size w w'

theorem Of_to (a h l : Int) (w : World) (e1 : Hid (a / 9223372036854775808 = h)) (e0 : Hid (a % 18446744073709551616 = l)) :
    Calls Try.prog 49 #[.int .i64 a] w fun e w' =>
      e = .returned (.agg #[.int .i64 h, .int .u64 l]) ∧ Below w.heap.size w w' := by
  rw [← e1.out, ← e0.out]; exact Of_any a w

theorem Fit_tells (h l : Int) (w : World) (b1 : Bd h l) :
    Calls Try.prog 27 #[.agg #[.int .i64 h, .int .u64 l]] w (Tells1 (num h l) w) := by
  have B1 := b1
  unfold Bd at b1
  obtain ⟨_, _, b1, b2⟩ := b1
  obtain ⟨n, hn⟩ : ∃ s, wrap64 l = s := ⟨_, rfl⟩
  obtain ⟨q, hq⟩ : ∃ s, n / 9223372036854775808 = s := ⟨_, rfl⟩
  have hl : n % 18446744073709551616 = l := by unfold wrap64 at hn; omega
  have HN := Lib.hid hn
  replace hq := Lib.hid hq
  replace hl := Lib.hid hl
  clear b1 b2
  by_cases c : q = h
  · have R := Lib.hid (fit_yes B1 HN.out hq.out c)
    subst c
    go_enter Try.func27, Try.ntmps27
    go_wp2
    go_region_held3 (fun w' => Below (w.heap.size + 1) (w.alloc (.cells #[.int .i64 q, .int .u64 l] 44)) w' ∧ w'.cell? ⟨w.heap.size, 0, none⟩ = some (.int .i64 q) ∧ w'.cell? ⟨w.heap.size, 1, none⟩ = some (.int .u64 l))
      (first | exact ⟨(Below.refl _ _).drew, by simp [go_sem], by simp [go_sem]⟩ | exact ⟨hB, by simp [hc, go_sem], by simp [hc, go_sem]⟩)
      (first | (go_at_call 49; refine (Of_to _ q l _ hq hl).mono ?_; rintro e w1 ⟨rfl, hb⟩; have hB := below_step (B := w.heap.size + 1) (W0 := w.alloc (.cells #[.int .i64 q, .int .u64 l] 44)) (by simp) (by assumption) hb; obtain ⟨hc, hf⟩ := bcellB hB))
    all_goals go_wp2
    all_goals
      go_ret2
      exact ⟨n, 0, rfl, R.out, ((Below.refl _ _).alloc (Nat.le_refl _) _).trans (hB.mono (by omega))⟩
  · have R := Lib.hid (fit_no B1 HN.out hq.out c)
    have d1 : (q == h) = false := beq_eq_false_iff_ne.2 c
    have d2 : decide (q = h) = false := decide_eq_false c
    go_enter Try.func27, Try.ntmps27
    go_wp2
    go_region_held3 (fun w' => Below (w.heap.size + 1) (w.alloc (.cells #[.int .i64 h, .int .u64 l] 44)) w' ∧ w'.cell? ⟨w.heap.size, 0, none⟩ = some (.int .i64 h) ∧ w'.cell? ⟨w.heap.size, 1, none⟩ = some (.int .u64 l))
      (first | exact ⟨(Below.refl _ _).drew, by simp [go_sem], by simp [go_sem]⟩ | exact ⟨hB, by simp [hc, go_sem], by simp [hc, go_sem]⟩)
      (first | (go_at_call 49; refine (Of_to _ q l _ hq hl).mono ?_; rintro e w1 ⟨rfl, hb⟩; have hB := below_step (B := w.heap.size + 1) (W0 := w.alloc (.cells #[.int .i64 h, .int .u64 l] 44)) (by simp) (by assumption) hb; obtain ⟨hc, hf⟩ := bcellB hB))
    all_goals go_wp2
    all_goals
      go_ret2
      exact ⟨0, 2, rfl, R.out, ((Below.refl _ _).alloc (Nat.le_refl _) _).trans (hB.mono (by omega))⟩

theorem Fit_any (h l v er : Int) (w : World) (b1 : Bd h l) (r : Res1 (num h l) v er) :
    Calls Try.prog 27 #[.agg #[.int .i64 h, .int .u64 l]] w fun e w' =>
      e = .returned (.tuple #[.int .i64 v, .int .i64 er]) ∧ Below w.heap.size w w' :=
  (Fit_tells h l w b1).mono fun e w' ⟨v', er', he, r', hb⟩ => by
    obtain ⟨rfl, rfl⟩ := res1_unique r r'
    exact ⟨he, hb⟩

end Go.Proofs.Ytodpmdmfdnbehab.Vc
