/- What Check of package field comes to: a calendar may be, or not. -/
import Derived.Test.YtaiodjgpojfekaaDoorFchk
namespace Go.Proofs.YtaiodjgpojfekaaDoor.Fp
set_option linter.unusedSimpArgs false
set_option linter.unusedVariables false
open Go.RowKit Go.Proofs.YtaiodjgpojfekaaDoor.Bn Go.Proofs.YtaiodjgpojfekaaDoor.Cp Go.Proofs.YtaiodjgpojfekaaDoor.Am Go.Proofs.YtaiodjgpojfekaaDoor.Fs Go.Proofs.YtaiodjgpojfekaaDoor.Zp
open Go.Proofs.YtaiodjgpojfekaaDoor.Zm (name)
open Go.Proofs.YtaiodjgpojfekaaDoor.Zr (by_)

set_option maxHeartbeats 1000000

theorem Check_any (c : CalZ) (er : Int) (w : World) (R : ChkA c er) (hm : c.nm.size ≤ maxLen) (T : FTab w) :
    Calls Tryd.prog 9 #[.agg #[.string c.nm, .int .i64 c.k, .int .i64 c.d, .int .i64 c.m, .int .i64 c.s, .int .i64 c.sh, .int .i64 c.p0, .int .i64 c.p1, .int .i64 c.p2, .int .i64 c.cy, .int .i64 c.ex, .int .i64 c.fi, .int .i64 c.la, .int .i64 c.po]] w fun e w' => e = .returned (.int .i64 er) ∧ Below w.heap.size w w' := by
  have go : ∀ (x : CalZ) (b1 b2 b3 b4 th al : Bool), (∀ w, Calls Tryd.prog 28 #[.int .i64 c.k] w fun e w' => e = .returned (.tuple #[.agg #[.string x.nm, .int .i64 x.k, .int .i64 x.d, .int .i64 x.m, .int .i64 x.s, .int .i64 x.sh, .int .i64 x.p0, .int .i64 x.p1, .int .i64 x.p2, .int .i64 x.cy, .int .i64 x.ex, .int .i64 x.fi, .int .i64 x.la, .int .i64 x.po, .bool b1, .bool b2, .bool b3, .bool b4], .bool th]) ∧ Below w.heap.size w w') →
      (∀ w, FTab w → Calls Tryd.prog 30 #[.agg #[.string x.nm, .int .i64 x.k, .int .i64 x.d, .int .i64 x.m, .int .i64 x.s, .int .i64 x.sh, .int .i64 x.p0, .int .i64 x.p1, .int .i64 x.p2, .int .i64 x.cy, .int .i64 x.ex, .int .i64 x.fi, .int .i64 x.la, .int .i64 x.po, .bool b1, .bool b2, .bool b3, .bool b4], .agg #[.string c.nm, .int .i64 c.k, .int .i64 c.d, .int .i64 c.m, .int .i64 c.s, .int .i64 c.sh, .int .i64 c.p0, .int .i64 c.p1, .int .i64 c.p2, .int .i64 c.cy, .int .i64 c.ex, .int .i64 c.fi, .int .i64 c.la, .int .i64 c.po]] w fun e w' => e = .returned (.bool al) ∧ Below w.heap.size w w') →
      (KindOk c ↔ (th && al) = true) → Calls Tryd.prog 9 #[.agg #[.string c.nm, .int .i64 c.k, .int .i64 c.d, .int .i64 c.m, .int .i64 c.s, .int .i64 c.sh, .int .i64 c.p0, .int .i64 c.p1, .int .i64 c.p2, .int .i64 c.cy, .int .i64 c.ex, .int .i64 c.fi, .int .i64 c.la, .int .i64 c.po]] w fun e w' => e = .returned (.int .i64 er) ∧ Below w.heap.size w w' := by
    intro x b1 b2 b3 b4 th al cE cA hK
    refine Check_walk c x b1 b2 b3 b4 th _ al _ _ er w cE (fun w => Name_any c.nm w hm) cA (fun w => Years_any c _ w rfl) (fun w T => Policy_any c _ w rfl T) ?_ T
    have hC : CalOk c ↔ (th && (name (by_ c.nm) && (al && (decide (YearsOk c) && decide (PolOk c))))) = true := by
      unfold CalOk
      rw [hK]
      simp only [Bool.and_eq_true, decide_eq_true_eq]
      constructor
      · rintro ⟨⟨h1, h2⟩, h3, h4, h5⟩; exact ⟨h1, h3, h2, h4, h5⟩
      · rintro ⟨h1, h3, h2, h4, h5⟩; exact ⟨⟨h1, h2⟩, h3, h4, h5⟩
    rcases R with ⟨ok, rfl⟩ | ⟨no, rfl⟩
    · rw [if_pos (hC.1 ok)]
    · rw [if_neg (fun h => no (hC.2 h))]
  by_cases h1 : c.k = 1
  · refine go ⟨⟨#[]⟩, 1, 0, 0, 0, 0, 0, 0, 0, 0, 0, 0, 0, 0⟩ true true true true true _ (fun w => by rw [h1]; exact endOf_1 w) (fun w T => allows_tttt ⟨⟨#[]⟩, 1, 0, 0, 0, 0, 0, 0, 0, 0, 0, 0, 0, 0⟩ c _ w (Lib.hid h1.symm) rfl T) ?_
    by_cases hc : CutOk c
    · simp [KindOk, CalSame, h1, hc]; try omega
    · simp [KindOk, CalSame, h1, hc]; try omega
  by_cases h2 : c.k = 2
  · refine go ⟨⟨#[]⟩, 2, 0, 0, 0, 0, 0, 0, 0, 0, 0, 0, 0, 0⟩ true true true true true _ (fun w => by rw [h2]; exact endOf_2 w) (fun w T => allows_tttt ⟨⟨#[]⟩, 2, 0, 0, 0, 0, 0, 0, 0, 0, 0, 0, 0, 0⟩ c _ w (Lib.hid h2.symm) rfl T) ?_
    by_cases hc : CutOk c
    · simp [KindOk, CalSame, h2, hc]; try omega
    · simp [KindOk, CalSame, h2, hc]; try omega
  by_cases h3 : c.k = 3
  · refine go ⟨⟨#[]⟩, 3, 6, 1, 1, 1, 4, 5, 4, 0, 12, 0, 0, 0⟩ false false false false true _ (fun w => by rw [h3]; exact endOf_3 w) (fun w T => allows_ffff ⟨⟨#[]⟩, 3, 6, 1, 1, 1, 4, 5, 4, 0, 12, 0, 0, 0⟩ c _ w rfl T) ?_
    simp [KindOk, CalSame, h3]; try omega
  by_cases h4 : c.k = 4
  · refine go ⟨⟨#[]⟩, 4, 7, 12, 0, 4, 0, 0, 0, 0, 12, 0, 0, 0⟩ false false false false true _ (fun w => by rw [h4]; exact endOf_4 w) (fun w T => allows_ffff ⟨⟨#[]⟩, 4, 7, 12, 0, 4, 0, 0, 0, 0, 12, 0, 0, 0⟩ c _ w rfl T) ?_
    simp [KindOk, CalSame, h4]; try omega
  by_cases h5 : c.k = 5
  · refine go ⟨⟨#[]⟩, 5, 7, 12, 0, 0, 0, 0, 0, 0, 0, 0, 0, 0⟩ false false false true true _ (fun w => by rw [h5]; exact endOf_5 w) (fun w T => allows_ffft ⟨⟨#[]⟩, 5, 7, 12, 0, 0, 0, 0, 0, 0, 0, 0, 0, 0⟩ c _ w rfl T) ?_
    by_cases hc : CutOk c
    · simp [KindOk, CalSame, h5, hc]; try omega
    · simp [KindOk, CalSame, h5, hc]; try omega
  by_cases h6 : c.k = 6
  · refine go ⟨⟨#[]⟩, 6, 0, 0, 0, 5, 0, 0, 0, 0, 0, 0, 0, 0⟩ false true true false true _ (fun w => by rw [h6]; exact endOf_6 w) (fun w T => allows_fttf ⟨⟨#[]⟩, 6, 0, 0, 0, 5, 0, 0, 0, 0, 0, 0, 0, 0⟩ c _ w rfl T) ?_
    simp [KindOk, CalSame, h6]; try omega
  refine go ⟨⟨#[]⟩, 0, 0, 0, 0, 0, 0, 0, 0, 0, 0, 0, 0, 0⟩ false false false false false _ (fun w => endOf_no c.k h1 h2 h3 h4 h5 h6 w) (fun w T => allows_ffff ⟨⟨#[]⟩, 0, 0, 0, 0, 0, 0, 0, 0, 0, 0, 0, 0, 0⟩ c _ w rfl T) ?_
  simp only [Bool.false_and, KindOk]
  constructor
  · intro h; omega
  · intro h; cases h

end Go.Proofs.YtaiodjgpojfekaaDoor.Fp
