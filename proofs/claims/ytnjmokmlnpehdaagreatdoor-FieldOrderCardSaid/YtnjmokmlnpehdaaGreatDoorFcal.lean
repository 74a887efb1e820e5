/- What the frames tell a walk of a calendar that came in. -/
import Derived.WalkKit
import Derived.OpenShut
import Derived.ChangeSame
import Derived.Test.YtnjmokmlnpehdaaGreatDoorChecked
import Derived.Test.YtnjmokmlnpehdaaGreatDoorJP
namespace Go.Proofs.YtnjmokmlnpehdaaGreatDoor
set_option linter.unusedSimpArgs false
set_option linter.unusedVariables false
open Go.RowKit Go.ChangeShapes Go.WideShapes Go.Proofs.YtnjmokmlnpehdaaGreatDoor.Am

/-- its text is no longer, and its numbers no greater, than may be -/
def CalWf (c : CalZ) : Prop := c.nm.size ≤ maxLen ∧ (Lit.int .i64 c.k).wf = true ∧ (Lit.int .i64 c.d).wf = true ∧ (Lit.int .i64 c.m).wf = true ∧ (Lit.int .i64 c.s).wf = true ∧ (Lit.int .i64 c.sh).wf = true ∧ (Lit.int .i64 c.p0).wf = true ∧ (Lit.int .i64 c.p1).wf = true ∧ (Lit.int .i64 c.p2).wf = true ∧ (Lit.int .i64 c.cy).wf = true ∧ (Lit.int .i64 c.ex).wf = true ∧ (Lit.int .i64 c.fi).wf = true ∧ (Lit.int .i64 c.la).wf = true ∧ (Lit.int .i64 c.po).wf = true
def calV (c : CalZ) : Value := .agg #[.string c.nm, .int .i64 c.k, .int .i64 c.d, .int .i64 c.m, .int .i64 c.s, .int .i64 c.sh, .int .i64 c.p0, .int .i64 c.p1, .int .i64 c.p2, .int .i64 c.cy, .int .i64 c.ex, .int .i64 c.fi, .int .i64 c.la, .int .i64 c.po]

theorem cellsCal : Tryz.prog.cellsOf 30 = 14 := by kernel_rfl
theorem cellsPat : Tryz.prog.cellsOf 28 = 3 := by kernel_rfl
theorem cellsIntC : Tryz.prog.cellsOf 3 = 1 := by kernel_rfl
theorem cellsStrC : Tryz.prog.cellsOf 9 = 1 := by kernel_rfl

theorem some_of_len {α : Type} {xs : List α} {n i : Nat} (h : xs.length = n) (hi : i < n) : ∃ b, xs[i]? = some b := ⟨xs[i]'(by omega), List.getElem?_eq_getElem (by omega)⟩

section
variable {H : Type} {enc : TypeId × Value → H} {w : World} {base b1 : Nat} {r : Reach} {spare : Nat → Bool} {held : Bool}

set_option maxRecDepth 100000 in
theorem open_cal {v : Value} {d : DataW H} {p : List MemPlace} (hv : Value.okWide Tryz.prog w r b1 30 v) (h : DataW.Trod enc Tryz.prog w base spare held 30 v d p) :
    ∃ c : CalZ, v = calV c ∧ CalWf c := by
  obtain ⟨cs, rfl, hsz⟩ := okWide_struct Tryz.underlying30 hv
  obtain ⟨fuel, hf⟩ := h
  rw [cellsCal] at hsz
  obtain ⟨cs⟩ := cs
  match cs, hsz with
  | [c0, c1, c2, c3, c4, c5, c6, c7, c8, c9, c10, c11, c12, c13], _ =>
    simp only [Value.cells] at hf
    obtain ⟨xs, n, _, _, _, hxl, hall⟩ := DataW.trod_struct Tryz.underlying30 hf
    clear hf hv
    obtain ⟨y0, hy0⟩ := some_of_len (i := 0) hxl (by decide)
    have g0 : DataW.trod enc Tryz.prog w base spare held n 9 [c0] = some y0 := by simpa [cellsStrC] using (hall 0 _ rfl).trans hy0
    obtain ⟨y1, hy1⟩ := some_of_len (i := 1) hxl (by decide)
    have g1 : DataW.trod enc Tryz.prog w base spare held n 3 [c1] = some y1 := by simpa [cellsIntC] using (hall 1 _ rfl).trans hy1
    obtain ⟨y2, hy2⟩ := some_of_len (i := 2) hxl (by decide)
    have g2 : DataW.trod enc Tryz.prog w base spare held n 3 [c2] = some y2 := by simpa [cellsIntC] using (hall 2 _ rfl).trans hy2
    obtain ⟨y3, hy3⟩ := some_of_len (i := 3) hxl (by decide)
    have g3 : DataW.trod enc Tryz.prog w base spare held n 3 [c3] = some y3 := by simpa [cellsIntC] using (hall 3 _ rfl).trans hy3
    obtain ⟨y4, hy4⟩ := some_of_len (i := 4) hxl (by decide)
    have g4 : DataW.trod enc Tryz.prog w base spare held n 3 [c4] = some y4 := by simpa [cellsIntC] using (hall 4 _ rfl).trans hy4
    obtain ⟨y5, hy5⟩ := some_of_len (i := 5) hxl (by decide)
    have g5 : DataW.trod enc Tryz.prog w base spare held n 3 [c5] = some y5 := by simpa [cellsIntC] using (hall 5 _ rfl).trans hy5
    obtain ⟨y6, hy6⟩ := some_of_len (i := 6) hxl (by decide)
    have g6 : DataW.trod enc Tryz.prog w base spare held n 28 [c6, c7, c8] = some y6 := by simpa [cellsPat] using (hall 6 _ rfl).trans hy6
    obtain ⟨y7, hy7⟩ := some_of_len (i := 7) hxl (by decide)
    have g7 : DataW.trod enc Tryz.prog w base spare held n 3 [c9] = some y7 := by simpa [cellsIntC] using (hall 7 _ rfl).trans hy7
    obtain ⟨y8, hy8⟩ := some_of_len (i := 8) hxl (by decide)
    have g8 : DataW.trod enc Tryz.prog w base spare held n 3 [c10] = some y8 := by simpa [cellsIntC] using (hall 8 _ rfl).trans hy8
    obtain ⟨y9, hy9⟩ := some_of_len (i := 9) hxl (by decide)
    have g9 : DataW.trod enc Tryz.prog w base spare held n 3 [c11] = some y9 := by simpa [cellsIntC] using (hall 9 _ rfl).trans hy9
    obtain ⟨y10, hy10⟩ := some_of_len (i := 10) hxl (by decide)
    have g10 : DataW.trod enc Tryz.prog w base spare held n 3 [c12] = some y10 := by simpa [cellsIntC] using (hall 10 _ rfl).trans hy10
    obtain ⟨y11, hy11⟩ := some_of_len (i := 11) hxl (by decide)
    have g11 : DataW.trod enc Tryz.prog w base spare held n 3 [c13] = some y11 := by simpa [cellsIntC] using (hall 11 _ rfl).trans hy11
    clear hall hxl
    obtain ⟨nm, e0, _, w0⟩ := DataW.trod_string Tryz.underlying9 g0
    obtain ⟨i1, e1, _, w1⟩ := DataW.trod_int Tryz.underlying3 g1
    obtain ⟨i2, e2, _, w2⟩ := DataW.trod_int Tryz.underlying3 g2
    obtain ⟨i3, e3, _, w3⟩ := DataW.trod_int Tryz.underlying3 g3
    obtain ⟨i4, e4, _, w4⟩ := DataW.trod_int Tryz.underlying3 g4
    obtain ⟨i5, e5, _, w5⟩ := DataW.trod_int Tryz.underlying3 g5
    obtain ⟨i7, e7, _, w7⟩ := DataW.trod_int Tryz.underlying3 g7
    obtain ⟨i8, e8, _, w8⟩ := DataW.trod_int Tryz.underlying3 g8
    obtain ⟨i9, e9, _, w9⟩ := DataW.trod_int Tryz.underlying3 g9
    obtain ⟨i10, e10, _, w10⟩ := DataW.trod_int Tryz.underlying3 g10
    obtain ⟨i11, e11, _, w11⟩ := DataW.trod_int Tryz.underlying3 g11
    obtain ⟨ys, m, _, _, _, hyl, hp⟩ := DataW.trod_array Tryz.underlying28 g6
    obtain ⟨u0, hu0⟩ := some_of_len (i := 0) hyl (by decide)
    have q0 : DataW.trod enc Tryz.prog w base spare held m 3 [c6] = some u0 := by simpa [cellsIntC] using (hp 0 (by decide)).trans hu0
    obtain ⟨u1, hu1⟩ := some_of_len (i := 1) hyl (by decide)
    have q1 : DataW.trod enc Tryz.prog w base spare held m 3 [c7] = some u1 := by simpa [cellsIntC] using (hp 1 (by decide)).trans hu1
    obtain ⟨u2, hu2⟩ := some_of_len (i := 2) hyl (by decide)
    have q2 : DataW.trod enc Tryz.prog w base spare held m 3 [c8] = some u2 := by simpa [cellsIntC] using (hp 2 (by decide)).trans hu2
    obtain ⟨j0, f0, _, v0⟩ := DataW.trod_int Tryz.underlying3 q0
    obtain ⟨j1, f1, _, v1⟩ := DataW.trod_int Tryz.underlying3 q1
    obtain ⟨j2, f2, _, v2⟩ := DataW.trod_int Tryz.underlying3 q2
    simp only [List.cons.injEq, and_true] at e0 e1 e2 e3 e4 e5 e7 e8 e9 e10 e11 f0 f1 f2
    subst e0 e1 e2 e3 e4 e5 e7 e8 e9 e10 e11 f0 f1 f2
    exact ⟨⟨nm, i1, i2, i3, i4, i5, j0, j1, j2, i7, i8, i9, i10, i11⟩, rfl, w0, w1, w2, w3, w4, w5, v0, v1, v2, w7, w8, w9, w10, w11⟩
end

end Go.Proofs.YtnjmokmlnpehdaaGreatDoor
