/- From what a row lists of package label's table to what the walks ask for. -/
import Derived.Test.YtfjckgnclhpmcaaDoorRows
import Derived.Test.YtfjckgnclhpmcaaDoorNlev
import Derived.Lib.LaidTab
import Derived.LaidMore
import Derived.OpenShut
import Derived.Stop.LaidErr
namespace Go.Proofs.YtfjckgnclhpmcaaDoor.Np
set_option linter.unusedSimpArgs false
set_option linter.unusedVariables false
open Go.RowKit

theorem some_of_lenN {α : Type} {xs : List α} {n i : Nat} (h : xs.length = n) (hi : i < n) : ∃ b, xs[i]? = some b := ⟨xs[i]'(by omega), List.getElem?_eq_getElem (by omega)⟩
theorem at_take {cs : List Value} {k : Nat} {v : Value} (h : (cs.drop k).take 1 = [v]) : cs[k]? = some v := by
  have := congrArg (·[0]?) h
  simpa [List.getElem?_take, List.getElem?_drop] using this
theorem cells1 : Tryd.prog.cellsOf 9 = 1 ∧ Tryd.prog.cellsOf 3 = 1 ∧ Tryd.prog.cellsOf 41 = 4 := ⟨by kernel_rfl, by kernel_rfl, by kernel_rfl⟩
theorem str_of {s : ByteArray} {l : List UInt8} (h : s.data.toList = l) : s = ⟨l.toArray⟩ := by
  obtain ⟨⟨x⟩⟩ := s
  simp at h
  rw [h]

/-- a row that reads so holds its four cells -/
theorem row_cells {w : World} {spare : Nat → Bool} {held : Bool} {base fuel : Nat} {enc : TypeId × Value → Unit} {cs : List Value} {nm sg : List UInt8} {a b : Int} {p : List MemPlace}
    (h : DataW.trod enc Tryd.prog w base spare held fuel 41 cs = some (.agg [.lit (.string nm), .lit (.string sg), .lit (.int .i64 a), .lit (.int .i64 b)], p)) :
    cs[0]? = some (.string ⟨nm.toArray⟩) ∧ cs[1]? = some (.string ⟨sg.toArray⟩) ∧ cs[2]? = some (.int .i64 a) ∧ cs[3]? = some (.int .i64 b) := by
  obtain ⟨xs, n, rfl, hx, hl, hxl, hall⟩ := DataW.trod_struct Tryd.underlying41 h
  have hx4 : xs.map (·.1) = [.lit (.string nm), .lit (.string sg), .lit (.int .i64 a), .lit (.int .i64 b)] := by
    have := congrArg Prod.fst hx
    simpa using this.symm
  obtain ⟨x0, x1, x2, x3, rfl⟩ : ∃ x0 x1 x2 x3, xs = [x0, x1, x2, x3] := by
    match xs, hx4 with
    | [x0, x1, x2, x3], _ => exact ⟨x0, x1, x2, x3, rfl⟩
  simp only [List.map_cons, List.map_nil, List.cons.injEq, and_true] at hx4
  obtain ⟨e0, e1, e2, e3⟩ := hx4
  have f0 := hall 0 _ rfl
  have f1 := hall 1 _ rfl
  have f2 := hall 2 _ rfl
  have f3 := hall 3 _ rfl
  change DataW.trod _ _ _ _ _ _ _ 9 ((cs.drop 0).take (Tryd.prog.cellsOf 9)) = some x0 at f0
  change DataW.trod _ _ _ _ _ _ _ 9 ((cs.drop 1).take (Tryd.prog.cellsOf 9)) = some x1 at f1
  change DataW.trod _ _ _ _ _ _ _ 3 ((cs.drop 2).take (Tryd.prog.cellsOf 3)) = some x2 at f2
  change DataW.trod _ _ _ _ _ _ _ 3 ((cs.drop 3).take (Tryd.prog.cellsOf 3)) = some x3 at f3
  rw [cells1.1] at f0 f1
  rw [cells1.2.1] at f2 f3
  refine ⟨?_, ?_, ?_, ?_⟩
  · obtain ⟨s, hz, hx', _⟩ := DataW.trod_string Tryd.underlying9 f0
    rw [hx'] at e0
    have e0' : s.data.toList = nm := by simpa using e0
    rw [at_take hz, str_of e0']
  · obtain ⟨s, hz, hx', _⟩ := DataW.trod_string Tryd.underlying9 f1
    rw [hx'] at e1
    have e1' : s.data.toList = sg := by simpa using e1
    rw [at_take hz, str_of e1']
  · obtain ⟨z, hz, hx', _⟩ := DataW.trod_int Tryd.underlying3 f2
    rw [hx'] at e2
    cases e2
    exact at_take hz
  · obtain ⟨z, hz, hx', _⟩ := DataW.trod_int Tryd.underlying3 f3
    rw [hx'] at e3
    cases e3
    exact at_take hz

theorem gLev : Tryd.prog.globalNamed "quarterday/label.levels" = some 0 := by kernel_rfl
theorem gLevType : (Tryd.prog.globals[0]?).map (·.type) = some 42 := by kernel_rfl

set_option maxRecDepth 100000 in
theorem lev_of_laid {W : World} (h : laidMetH Tryd.prog [("quarterday/label.levels", Rows.laid_quarterday_label_levels)] W) : Lev W := by
  rw [MakeChecks.laidMetH_plain _ _ _ (by kernel_rfl)] at h
  obtain ⟨ps, ⟨g', t', cs, fuel, p, q, hg, hty, hvar, hd, _, _⟩, _⟩ := h
  obtain rfl := Option.some.inj (gLev.symm.trans hg)
  obtain rfl := Option.some.inj (gLevType.symm.trans hty)
  obtain ⟨xs, m, rfl, hx, hl, hxl, hall⟩ := DataW.trod_array Tryd.underlying42 hd
  have hx5 : xs.map (·.1) = [.agg [.lit (.string [121, 101, 97, 114]), .lit (.string []), .lit (.int .i64 0), .lit (.int .i64 1)], .agg [.lit (.string [104, 97, 108, 102]), .lit (.string [45, 72]), .lit (.int .i64 1), .lit (.int .i64 2)], .agg [.lit (.string [113, 117, 97, 114, 116, 101, 114]), .lit (.string [45, 81]), .lit (.int .i64 1), .lit (.int .i64 4)], .agg [.lit (.string [112, 101, 114, 105, 111, 100]), .lit (.string [45, 80]), .lit (.int .i64 2), .lit (.int .i64 52)], .agg [.lit (.string [119, 101, 101, 107]), .lit (.string [45, 87]), .lit (.int .i64 2), .lit (.int .i64 60)]] := by
    have := congrArg Prod.fst hx
    simpa [Rows.laid_quarterday_label_levels] using this.symm
  obtain ⟨x0, x1, x2, x3, x4, rfl⟩ : ∃ x0 x1 x2 x3 x4, xs = [x0, x1, x2, x3, x4] := by
    match xs, hx5 with
    | [x0, x1, x2, x3, x4], _ => exact ⟨x0, x1, x2, x3, x4, rfl⟩
  simp only [List.map_cons, List.map_nil, List.cons.injEq, and_true] at hx5
  obtain ⟨e0, e1, e2, e3, e4⟩ := hx5
  have key : ∀ (i : Nat) (x : DataW Unit × List MemPlace) (nm sg : List UInt8) (a b : Int), DataW.trod (fun _ => ()) Tryd.prog W 0 (fun _ => true) false m 41 ((cs.toList.drop (i * Tryd.prog.cellsOf 41)).take (Tryd.prog.cellsOf 41)) = some x → x.1 = .agg [.lit (.string nm), .lit (.string sg), .lit (.int .i64 a), .lit (.int .i64 b)] →
      W.cell? ⟨0, i * 4, none⟩ = some (.string ⟨nm.toArray⟩) ∧ W.cell? ⟨0, i * 4 + 1, none⟩ = some (.string ⟨sg.toArray⟩) ∧ W.cell? ⟨0, i * 4 + 2, none⟩ = some (.int .i64 a) ∧ W.cell? ⟨0, i * 4 + 3, none⟩ = some (.int .i64 b) := by
    intro i x nm sg a b hf hxx
    obtain ⟨y, pl⟩ := x
    simp only at hxx
    subst hxx
    rw [cells1.2.2] at hf
    obtain ⟨k0, k1, k2, k3⟩ := row_cells hf
    have c : ∀ j, j < 4 → W.cell? ⟨0, i * 4 + j, none⟩ = ((cs.toList.drop (i * 4)).take 4)[j]? := fun j hj => by
      rw [World.var?_cell gLev hvar (i * 4 + j), List.getElem?_take, if_pos hj, List.getElem?_drop]
      simp
    exact ⟨(c 0 (by omega)).trans k0, (c 1 (by omega)).trans k1, (c 2 (by omega)).trans k2, (c 3 (by omega)).trans k3⟩
  have r0 := key 0 x0 _ _ _ _ (hall 0 (by omega)) e0
  have r1 := key 1 x1 _ _ _ _ (hall 1 (by omega)) e1
  have r2 := key 2 x2 _ _ _ _ (hall 2 (by omega)) e2
  have r3 := key 3 x3 _ _ _ _ (hall 3 (by omega)) e3
  have r4 := key 4 x4 _ _ _ _ (hall 4 (by omega)) e4
  exact ⟨World.block_lt_of_cell? W ⟨0, 0, none⟩ r0.1, r0.1, r0.2.1, r0.2.2.1, r0.2.2.2, r1.1, r1.2.1, r1.2.2.1, r1.2.2.2, r2.1, r2.2.1, r2.2.2.1, r2.2.2.2, r3.1, r3.2.1, r3.2.2.1, r3.2.2.2, r4.1, r4.2.1, r4.2.2.1, r4.2.2.2⟩

end Go.Proofs.YtfjckgnclhpmcaaDoor.Np
