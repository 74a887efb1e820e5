/- What the small functions of package wide come to: one contract a function. -/
import Derived.Test.YtodpmdmfdnbehabChecked
import Derived.WalkKit
import Derived.RowKit
import Derived.RowKit3
import Derived.Below
import Derived.Outline
import Derived.Deep.QuietTactic
import Derived.BigQuiet
import Derived.Lib.Hide
import Derived.Test.YtodpmdmfdnbehabVmath
namespace Go.Proofs.Ytodpmdmfdnbehab.Vc
set_option linter.unusedSimpArgs false
set_option linter.unusedVariables false
open Go.RowKit Go.Proofs.Ytodpmdmfdnbehab.Vm

set_option maxHeartbeats 400000

theorem ret_agg {k1 k2 : IntKind} {a b c d : Int} (h1 : a = c) (h2 : b = d) : Ending.returned (.agg #[.int k1 a, .int k2 b]) = Ending.returned (.agg #[.int k1 c, .int k2 d]) := by rw [h1, h2]
theorem bcell {W w1 : World} (hb : Below W.heap.size W w1) : (∀ b o, b < W.heap.size → w1.cell? ⟨b, o, none⟩ = W.cell? ⟨b, o, none⟩) ∧ (∀ b o, b < W.heap.size → w1.frozen? ⟨b, o, none⟩ = W.frozen? ⟨b, o, none⟩) :=
  ⟨fun b o h => hb.cell (p := ⟨b, o, none⟩) h, fun b o h => hb.frozen (p := ⟨b, o, none⟩) h⟩
theorem ret_one {k1 : IntKind} {a c : Int} (h1 : a = c) : Ending.returned (.int k1 a) = Ending.returned (.int k1 c) := by rw [h1]

theorem wordsOf_any (h l : Int) (w : World) :
    Calls Try.prog 48 #[.agg #[.int .i64 h, .int .u64 l]] w fun e w' => e = .returned (.agg #[.int .u64 l, .int .u64 (h % 18446744073709551616)]) ∧ Below w.heap.size w w' := by
  go_enter Try.func48, Try.ntmps48
  go_wp2
  refine bodyPost_ret (v := .agg #[.int .u64 l, .int .u64 (IntKind.u64.wrap h)]) (by simp [results, Try.results48, go_sem]) rfl ⟨ret_agg rfl (IntKind.wrap_u64 h), ?_⟩
  exact ((Below.refl _ _).alloc (Nat.le_refl _) _).alloc (by simp) _

theorem plus_any (a0 a1 b0 b1 : Int) (w : World) (h1 : 0 ≤ a0) (h2 : a0 ≤ 18446744073709551615) (h3 : 0 ≤ b0) (h4 : b0 ≤ 18446744073709551615) :
    Calls Try.prog 47 #[.agg #[.int .u64 a0, .int .u64 a1], .agg #[.int .u64 b0, .int .u64 b1]] w fun e w' =>
      e = .returned (.agg #[.int .u64 ((a0 + b0) % 18446744073709551616), .int .u64 ((a1 + b1 + (a0 + b0) / 18446744073709551616) % 18446744073709551616)]) ∧ Below w.heap.size w w' := by
  by_cases c : a0 + b0 ≤ 18446744073709551615
  · have d : decide (a0 + b0 < a0) = false := decide_eq_false (by omega)
    go_enter Try.func47, Try.ntmps47
    go_wp2
    refine bodyPost_ret (v := .agg #[.int .u64 (a0 + b0), .int .u64 (IntKind.u64.wrap (a1 + b1))]) (by simp [results, Try.results47, go_sem]) rfl ⟨ret_agg (by omega) (by rw [IntKind.wrap_u64]; omega), ?_⟩
    exact ((((Below.refl _ _).alloc (Nat.le_refl _) _).alloc (by simp) _).alloc (by simp; omega) _).alloc (by simp; omega) _
  · have d : decide (IntKind.u64.wrap (a0 + b0) < a0) = true := decide_eq_true (by rw [IntKind.wrap_u64]; omega)
    go_enter Try.func47, Try.ntmps47
    go_wp2
    refine bodyPost_ret (v := .agg #[.int .u64 (IntKind.u64.wrap (a0 + b0)), .int .u64 (IntKind.u64.wrap (IntKind.u64.wrap (a1 + b1) + 1))]) (by simp [results, Try.results47, go_sem]) rfl ⟨ret_agg (IntKind.wrap_u64 _) (by rw [IntKind.wrap_u64, IntKind.wrap_u64]; omega), ?_⟩
    exact ((((Below.refl _ _).alloc (Nat.le_refl _) _).alloc (by simp) _).alloc (by simp; omega) _).alloc (by simp; omega) _

theorem wide_any (a0 a1 : Int) (w : World) :
    Calls Try.prog 50 #[.agg #[.int .u64 a0, .int .u64 a1]] w fun e w' =>
      e = .returned (.agg #[.int .i64 (wrap64 a1), .int .u64 a0]) ∧ Below w.heap.size w w' := by
  go_enter Try.func50, Try.ntmps50
  go_wp2
  refine bodyPost_ret (v := .agg #[.int .i64 (wrap64 a1), .int .u64 a0]) (by simp [results, Try.results50, go_sem]) rfl ⟨rfl, ?_⟩
  exact ((Below.refl _ _).alloc (Nat.le_refl _) _).alloc (by simp) _

theorem Of_any (a : Int) (w : World) :
    Calls Try.prog 49 #[.int .i64 a] w fun e w' =>
      e = .returned (.agg #[.int .i64 (a / 9223372036854775808), .int .u64 (a % 18446744073709551616)]) ∧ Below w.heap.size w w' := by
  go_enter Try.func49, Try.ntmps49
  go_wp2
  refine bodyPost_ret (v := .agg #[.int .i64 (a / 9223372036854775808), .int .u64 (IntKind.u64.wrap a)]) (by simp [results, Try.results49, go_sem]) rfl ⟨ret_agg rfl (IntKind.wrap_u64 a), ?_⟩
  exact (Below.refl _ _).alloc (Nat.le_refl _) _

theorem lowHalf_any (a : Int) (w : World) (_h1 : 0 ≤ a) (_h2 : a ≤ 18446744073709551615) :
    Calls Try.prog 64 #[.int .u64 a] w fun e w' => e = .returned (.int .u64 (a % 4294967296)) ∧ w = w' := by
  go_enter Try.func64, Try.ntmps64
  go_wp2
  go_ret
  exact ⟨rfl, rfl⟩

theorem highHalf_any (a : Int) (w : World) (_h1 : 0 ≤ a) (_h2 : a ≤ 18446744073709551615) :
    Calls Try.prog 65 #[.int .u64 a] w fun e w' => e = .returned (.int .u64 (a / 4294967296)) ∧ w = w' := by
  go_enter Try.func65, Try.ntmps65
  go_wp2
  go_ret
  exact ⟨rfl, rfl⟩

theorem size_any (a : Int) (w : World) (h1 : -9223372036854775808 ≤ a) (h2 : a ≤ 9223372036854775807) :
    Calls Try.prog 54 #[.int .i64 a] w fun e w' => e = .returned (.int .u64 (a.natAbs : Int)) ∧ w = w' := by
  by_cases c : a < 0
  · have e1 : IntKind.u64.wrap (wrap64 (-a)) = (a.natAbs : Int) := by rw [IntKind.wrap_u64]; unfold wrap64; omega
    go_enter Try.func54, Try.ntmps54
    go_wp2
    go_ret
    exact ⟨ret_one rfl, rfl⟩
  · have e1 : a = (a.natAbs : Int) := by omega
    have E := Lib.hid e1
    clear e1
    go_enter Try.func54, Try.ntmps54
    go_wp2
    go_ret
    exact ⟨ret_one E.out, rfl⟩

theorem opposite_any (a0 a1 : Int) (w : World) (h1 : 0 ≤ a0) (h2 : a0 ≤ 18446744073709551615) (h3 : 0 ≤ a1) (h4 : a1 ≤ 18446744073709551615) :
    Calls Try.prog 55 #[.agg #[.int .u64 a0, .int .u64 a1]] w fun e w' =>
      e = .returned (.agg #[.int .u64 ((18446744073709551616 - a0) % 18446744073709551616), .int .u64 ((18446744073709551615 - a1 + (18446744073709551616 - a0) / 18446744073709551616) % 18446744073709551616)]) ∧ Below w.heap.size w w' := by
  have hs : IntKind.u64.signed = false := rfl
  have x0 := u64_not h1 h2
  have x1 := u64_not h3 h4
  go_enter Try.func55, Try.ntmps55
  go_wp2_with fail
  clear x0 x1 hs
  refine (plus_any _ _ _ _ _ (by omega) (by omega) (by omega) (by omega)).mono ?_
  rintro e w' ⟨rfl, hb⟩
  obtain ⟨hc, hf⟩ := bcell hb
  go_wp2
  refine bodyPost_ret (v := .agg #[.int .u64 ((18446744073709551615 - a0 + 1) % 18446744073709551616), .int .u64 ((18446744073709551615 - a1 + (18446744073709551615 - a0 + 1) / 18446744073709551616) % 18446744073709551616)]) (by simp [results, Try.results55, go_sem, hc]) rfl ⟨ret_agg (by omega) (by omega), ?_⟩
  exact ((((((Below.refl _ _).alloc (Nat.le_refl _) _).alloc (by simp) _).trans (hb.mono (by simp; omega))).setCell (by simp) _).setCell (by simp) _)

theorem compareI_if (a b : Int) (w : World) :
    Calls Try.prog 30 #[.int .i64 a, .int .i64 b] w fun e w' => e = .returned (.int .i64 (if a < b then -1 else if b < a then 1 else 0)) ∧ w = w' := by
  go_enter Try.func30, Try.ntmps30
  go_wp2
  all_goals
    go_ret
    exact ⟨rfl, rfl⟩

theorem compareI_any (a b : Int) (w : World) :
    Calls Try.prog 30 #[.int .i64 a, .int .i64 b] w fun e w' => e = .returned (.int .i64 (cv a b)) ∧ w = w' := compareI_if a b w

end Go.Proofs.Ytodpmdmfdnbehab.Vc
