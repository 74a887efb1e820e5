/- live of layer 15, and ShapeQuarters' program side. -/
import Derived.Test.YtjiifmdjhdhabaaDoorHcode6
import Derived.Test.YtjiifmdjhdhabaaDoorFcal
import Derived.OpenShut
namespace Go.Proofs.YtjiifmdjhdhabaaDoor.Hl
set_option linter.unusedSimpArgs false
set_option linter.unusedVariables false
open Go.RowKit Go.Proofs.YtjiifmdjhdhabaaDoor.Bn Go.Proofs.YtjiifmdjhdhabaaDoor.Bx Go.Proofs.YtjiifmdjhdhabaaDoor.Am Go.Proofs.YtjiifmdjhdhabaaDoor.Fp Go.Proofs.YtjiifmdjhdhabaaDoor.Ap Go.Proofs.YtjiifmdjhdhabaaDoor.Cm Go.Proofs.YtjiifmdjhdhabaaDoor.Em Go.Proofs.YtjiifmdjhdhabaaDoor.Ep Go.Proofs.YtjiifmdjhdhabaaDoor.Rk Go.Proofs.YtjiifmdjhdhabaaDoor.Hp

set_option maxHeartbeats 2000000

/-- the chapter's calendar of thirteen periods -/
def four0 : CalZ := ⟨⟨#[120]⟩, 1, 6, 9, 0, 2, 0, 0, 0, 0, 13, 2000, 2030, 1⟩
theorem four_cut : CutOk four0 := .inr (.inl ⟨rfl, rfl, rfl, rfl, rfl, by decide, by decide⟩)
theorem four_ok : CalOk four0 := ⟨.inl ⟨.inl rfl, by decide, by decide, by decide, by decide, by decide, by decide, four_cut⟩, by decide, ⟨by decide, by decide, by decide, by decide⟩, ⟨by decide, by decide, by decide⟩⟩
theorem four_quar {p : Int} (p0 : 1 ≤ p) (p1 : p ≤ 13) : QuarA four0 p (quar 13 p) 0 := .inl ⟨four_ok, p0, p1, rfl, rfl⟩

theorem four_any (w : World) : Calls Tryd.prog 13 #[] w fun e w' => e = .returned (.agg #[.string ⟨#[120]⟩, .int .i64 1, .int .i64 6, .int .i64 9, .int .i64 0, .int .i64 2, .int .i64 0, .int .i64 0, .int .i64 0, .int .i64 0, .int .i64 13, .int .i64 2000, .int .i64 2030, .int .i64 1]) ∧ Below w.heap.size w w' := by
  go_enter Tryd.func13, Tryd.ntmps13
  go_wp2
  refine bodyPost_ret (v := .agg #[.string ⟨#[120]⟩, .int .i64 1, .int .i64 6, .int .i64 9, .int .i64 0, .int .i64 2, .int .i64 0, .int .i64 0, .int .i64 0, .int .i64 0, .int .i64 13, .int .i64 2000, .int .i64 2030, .int .i64 1]) (by simp [results, Tryd.results13, go_sem]) rfl ⟨rfl, ?_⟩
  exact balloc (Below.refl _ w) _

set_option maxRecDepth 100000 in
theorem hlive_ok (w : World) (tb : FTab w) : Calls Tryd.prog 4 #[] w fun e w' => e = .returned (.bool true) ∧ Below w.heap.size w w' := by
  have CQ : Hid (∀ p : Int, 1 ≤ p → p ≤ 13 → ∃ q : Int, q = min ((p - 1) / 3 + 1) 4 ∧ ∀ w, FTab w → Calls Tryd.prog 12 #[.agg #[.string ⟨#[120]⟩, .int .i64 1, .int .i64 6, .int .i64 9, .int .i64 0, .int .i64 2, .int .i64 0, .int .i64 0, .int .i64 0, .int .i64 0, .int .i64 13, .int .i64 2000, .int .i64 2030, .int .i64 1], .int .i64 p] w fun e w' => e = .returned (.tuple #[.int .i64 q, .int .i64 0]) ∧ Below w.heap.size w w') :=
    Lib.hid (fun p p0 p1 => ⟨quar 13 p, by unfold quar; omega, fun w T => Quarter_any four0 p (quar 13 p) 0 w (four_quar p0 p1) (by unfold maxLen; decide) T⟩)
  go_enter Tryd.func4, Tryd.ntmps4
  go_wp2
  go_loopw [1] (fun X wr => ∃ p : Int, 1 ≤ p ∧ p ≤ 14 ∧ X = .int .i64 p ∧ Below w.heap.size w wr) (fun X _ => (15 - intOf X).toNat)
  case atStart => exact ⟨1, by omega, by omega, rfl, Below.refl _ w⟩
  case round =>
    obtain ⟨p, p0, p1, rfl, B⟩ := hrel
    by_cases hlt : p ≤ 13
    · obtain ⟨q, hq, cq⟩ := CQ.out p p0 hlt
      have T := tb.kept B
      have O : (q = (p - 1) / 3 + 1 ∧ (p - 1) / 3 + 1 ≤ 4) ∨ (q = 4 ∧ p = 13) := by omega
      go_wp2_with fail
      refine (four_any _).mono ?_
      rintro e w1 ⟨rfl, hb⟩
      replace B := bthen B hb
      replace T := T.kept hb
      clear hb
      go_wp2_with fail
      refine (cq _ T).mono ?_
      rintro e w2 ⟨rfl, hb⟩
      replace B := bthen B hb
      clear hb cq T
      rw [hq]
      clear O hq
      go_wp2
      go_roundw
      case rel => exact ⟨p + 1, by omega, by omega, by go_num, B⟩
      case measure => simp [intOf]; omega
    · go_wp2
      go_ret
      exact ⟨rfl, B⟩

end Go.Proofs.YtjiifmdjhdhabaaDoor.Hl
