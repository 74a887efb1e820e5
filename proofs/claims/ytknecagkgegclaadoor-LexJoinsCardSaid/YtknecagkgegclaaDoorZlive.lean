/- live of layer 8. -/
import Derived.Test.YtknecagkgegclaaDoorZcut
import Derived.OpenShut
namespace Go.Proofs.YtknecagkgegclaaDoor.Zl
set_option linter.unusedSimpArgs false
set_option linter.unusedVariables false
open Go.RowKit Go.Proofs.YtknecagkgegclaaDoor.Zm Go.Proofs.YtknecagkgegclaaDoor.Zr Go.Proofs.YtknecagkgegclaaDoor.Zp Go.Proofs.YtknecagkgegclaaDoor.Zk Go.Proofs.YtknecagkgegclaaDoor.Bn

set_option maxHeartbeats 1000000

/-- "a 12;" -/
theorem cut_live : cutR ⟨#[97, 32, 49, 50, 59]⟩ = .ok [⟨1, 0, 0, [97]⟩, ⟨2, 2, 12, []⟩, ⟨5, 4, 0, []⟩] := by
  have e : by_ ⟨#[97, 32, 49, 50, 59]⟩ = [97, 32, 49, 50, 59] := rfl
  rw [cutR, if_neg (by decide), e]
  rw [cut_tok (k := 1) (n := 0) (s := [97]) (len := 1) 0 0 (by rfl), if_neg (by decide)]
  rw [show ([32, 49, 50, 59] : List UInt8).drop (1 - 1) = [32, 49, 50, 59] from rfl, cut_skip (n := 1) _ _ (by rfl)]
  rw [show ([49, 50, 59] : List UInt8).drop (1 - 1) = [49, 50, 59] from rfl, cut_tok (k := 2) (n := 12) (s := []) (len := 2) _ _ (by rfl), if_neg (by decide)]
  rw [show ([50, 59] : List UInt8).drop (2 - 1) = [59] from rfl, cut_tok (k := 5) (n := 0) (s := []) (len := 1) _ _ (by rfl), if_neg (by decide)]
  rw [show ([] : List UInt8).drop (1 - 1) = [] from rfl, cut_nil]
  rfl

/-- the cells of a row of tokens, by their place -/
theorem row_cells {W : World} {g : Nat} {a : List Tk} (R : RowT W g a) (i : Nat) (h : i < a.length) :
    W.cell? ⟨g, i * 4, none⟩ = some (.int .i64 a[i].k) ∧ W.cell? ⟨g, i * 4 + 1, none⟩ = some (.int .i64 a[i].a) ∧ W.cell? ⟨g, i * 4 + 2, none⟩ = some (.int .i64 a[i].n) ∧ W.cell? ⟨g, i * 4 + 3, none⟩ = some (.string ⟨a[i].s.toArray⟩) :=
  ⟨R.at_ i h 0 (by omega), R.at_ i h 1 (by omega), R.at_ i h 2 (by omega), R.at_ i h 3 (by omega)⟩

set_option maxRecDepth 100000 in
theorem zlive_ok (w : World) : Calls Tryd.prog 15 #[] w fun e w' => e = .returned (.bool true) ∧ Below w.heap.size w w' := by
  have cc := fun w => Cut_any ⟨#[97, 32, 49, 50, 59]⟩ w _ (by decide) (Lib.hid cut_live)
  go_enter Tryd.func15, Tryd.ntmps15
  go_wp2_with fail
  refine (cc _).mono ?_
  rintro e w1 ⟨v, rfl, hO⟩
  obtain ⟨g, cap, rfl, hg, lt1⟩ := hO.a.form (by decide)
  have R := RowT.of_owns hO.a (by decide)
  have B := hO.below
  obtain ⟨a0, a1, a2, a3⟩ := row_cells R 0 (by decide)
  obtain ⟨b0, b1, b2, b3⟩ := row_cells R 1 (by decide)
  obtain ⟨c0, c1, c2, c3⟩ := row_cells R 2 (by decide)
  simp at a0 a1 a2 a3 b0 b1 b2 b3 c0 c1 c2 c3
  clear hO R cc
  go_wp2_with fail
  go_ret
  exact ⟨rfl, B⟩

end Go.Proofs.YtknecagkgegclaaDoor.Zl
