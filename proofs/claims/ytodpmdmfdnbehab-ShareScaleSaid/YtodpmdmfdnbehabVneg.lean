/- What Neg and Fit of package wide come to. -/
import Derived.Test.YtodpmdmfdnbehabVadd
namespace Go.Proofs.Ytodpmdmfdnbehab.Vc
set_option linter.unusedSimpArgs false
set_option linter.unusedVariables false
open Go.RowKit Go.Proofs.Ytodpmdmfdnbehab.Vm
attribute [local go_sem ↓] Go.wp_at_zero Go.wp_at_succ

set_option maxHeartbeats 400000

theorem wordsOf_to (h l r : Int) (w : World) (e : Hid (h % 18446744073709551616 = r)) :
    Calls Try.prog 48 #[.agg #[.int .i64 h, .int .u64 l]] w fun e w' => e = .returned (.agg #[.int .u64 l, .int .u64 r]) ∧ Below w.heap.size w w' := by
  rw [← e.out]; exact wordsOf_any h l w

theorem opposite_to (a0 a1 r0 r1 : Int) (w : World) (h1 : 0 ≤ a0) (h2 : a0 ≤ 18446744073709551615) (h3 : 0 ≤ a1) (h4 : a1 ≤ 18446744073709551615)
    (e0 : Hid ((18446744073709551616 - a0) % 18446744073709551616 = r0)) (e1 : Hid ((18446744073709551615 - a1 + (18446744073709551616 - a0) / 18446744073709551616) % 18446744073709551616 = r1)) :
    Calls Try.prog 55 #[.agg #[.int .u64 a0, .int .u64 a1]] w fun e w' => e = .returned (.agg #[.int .u64 r0, .int .u64 r1]) ∧ Below w.heap.size w w' := by
  rw [← e0.out, ← e1.out]; exact opposite_any a0 a1 w h1 h2 h3 h4

theorem wide_to (a0 a1 r : Int) (w : World) (e : Hid (wrap64 a1 = r)) :
    Calls Try.prog 50 #[.agg #[.int .u64 a0, .int .u64 a1]] w fun e w' => e = .returned (.agg #[.int .i64 r, .int .u64 a0]) ∧ Below w.heap.size w w' := by
  rw [← e.out]; exact wide_any a0 a1 w

/-- a call keeps what is below -/
theorem below_step {B : Nat} {W0 W w1 : World} {R : Prop} (hB : B ≤ W0.heap.size) (h : Below B W0 W ∧ R) (hb : Below W.heap.size W w1) : Below B W0 w1 := h.1.trans (hb.mono (Nat.le_trans hB h.1.size))
theorem bcellB {B : Nat} {W w1 : World} (hb : Below B W w1) : (∀ b o, b < B → w1.cell? ⟨b, o, none⟩ = W.cell? ⟨b, o, none⟩) ∧ (∀ b o, b < B → w1.frozen? ⟨b, o, none⟩ = W.frozen? ⟨b, o, none⟩) :=
  ⟨fun b o h => hb.cell (p := ⟨b, o, none⟩) h, fun b o h => hb.frozen (p := ⟨b, o, none⟩) h⟩

end Go.Proofs.Ytodpmdmfdnbehab.Vc
