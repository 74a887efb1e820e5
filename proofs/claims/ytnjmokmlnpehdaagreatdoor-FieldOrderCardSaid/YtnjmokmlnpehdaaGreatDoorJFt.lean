/- Texts that are joined: Zpow, Ftabl, Fntl. -/
import Derived.Test.YtnjmokmlnpehdaaGreatDoorRows
import Derived.Test.YtnjmokmlnpehdaaGreatDoorJFc
import Derived.Lib.LaidTab
import Derived.LaidMore
import Derived.Stop.LaidErr
import Derived.Test.YtnjmokmlnpehdaaGreatDoorJFe0
import Derived.Test.YtnjmokmlnpehdaaGreatDoorFcal
import Derived.Lib.LaidU8
import Derived.OpenShut
import Derived.SliceStrings
namespace Go.Proofs.YtnjmokmlnpehdaaGreatDoor.Zp
set_option linter.unusedSimpArgs false
set_option linter.unusedVariables false
open Go.RowKit

theorem gPowType : (Tryz.prog.globals[10]?).map (·.type) = some 169 := by kernel_rfl
theorem cellsPow : Tryz.prog.cellsOf 169 = 20 := by kernel_rfl
theorem cellsU64 : Tryz.prog.cellsOf 152 = 1 := by kernel_rfl
theorem laid_pow : (Rows.laid_internal_strconv_uint64pow10 : DataW Unit) = Lib.tabData .u64 Lib.pow10Tab := by rfl

theorem pows_of_laid {W : World} (h : laidMetH Tryz.prog [("math/bits.deBruijn32tab", Rows.laid_math_bits_deBruijn32tab), ("math/bits.deBruijn64tab", Rows.laid_math_bits_deBruijn64tab), ("internal/strconv.uint64pow10", Rows.laid_internal_strconv_uint64pow10), ("strconv.ErrRange", Rows.laid_strconv_ErrRange), ("strconv.ErrSyntax", Rows.laid_strconv_ErrSyntax)] W) : Pows W := by
  rw [MakeChecks.laidMetH_plain _ _ _ (by kernel_rfl)] at h
  have h3 := h.tail.tail
  rw [laid_pow] at h3
  exact ⟨Lib.tabIs_of_head gPow gPowType Tryz.underlying169 Tryz.underlying152 cellsU64 cellsPow h3⟩

end Go.Proofs.YtnjmokmlnpehdaaGreatDoor.Zp

namespace Go.Proofs.YtnjmokmlnpehdaaGreatDoor.Fp
set_option linter.unusedSimpArgs false
set_option linter.unusedVariables false
open Go.RowKit Go.Proofs.YtnjmokmlnpehdaaGreatDoor.Cp

/-- a variable that reads as a slice of n elements holds one -/
theorem held_of_reads {P : Program} {W : World} {name : String} {g : Nat} {t e : TypeId} {n : Nat} {l : List (DataW Unit)} (hn : P.globalNamed name = some g) (hy : (P.globals[g]?).map (·.type) = some t)
    (ht : P.underlying t = some (.slice e)) (hl : l.length = n) (h : Lib.VarReads P W name (.slice l [])) : Held g n W := by
  obtain ⟨g', t', cs, fuel, p, hg, hty, hvar, hd⟩ := h
  obtain rfl := Option.some.inj (hn.symm.trans hg)
  obtain rfl := Option.some.inj (hy.symm.trans hty)
  rcases DataW.trod_slice ht hd with ⟨_, hx⟩ | ⟨a, len, cap, el, rs, m, rfl, hcs, hx, _, hlc, _, hel, helem, hsp, _⟩
  · cases hx
  have e0 := congrArg Prod.fst hx
  simp only [DataW.slice.injEq] at e0
  have hlen : len = n := by
    have := congrArg List.length e0.1
    simp at this
    omega
  subst hlen
  have hc := World.var?_cell hn hvar 0
  rw [← Array.getElem?_toList, hcs] at hc
  have hc' : W.cell? ⟨g, 0, none⟩ = some (.slice (some a) len cap) := by simpa using hc
  exact ⟨a, cap, World.block_lt_of_cell? W ⟨g, 0, none⟩ hc', hc'⟩

/-- a variable that reads as a slice of integers holds them -/
theorem ints_of_reads {P : Program} {W : World} {name : String} {g : Nat} {t e : TypeId} {n : Nat} {l : List Int} (hn : P.globalNamed name = some g) (hy : (P.globals[g]?).map (·.type) = some t)
    (ht : P.underlying t = some (.slice e)) (he : P.underlying e = some (.int .i64)) (hc : P.cellsOf e = 1) (hl : l.length = n) (h0 : 0 < n) (h : Lib.VarReads P W name (.slice (l.map fun z => .lit (.int .i64 z)) [])) : HeldInts g n l W := by
  obtain ⟨g', t', cs, fuel, p, hg, hty, hvar, hd⟩ := h
  obtain rfl := Option.some.inj (hn.symm.trans hg)
  obtain rfl := Option.some.inj (hy.symm.trans hty)
  rcases DataW.trod_slice ht hd with ⟨_, hx⟩ | ⟨a, len, cap, el, rs, m, rfl, hcs, hx, _, hlc, _, hel, helem, hsp, _⟩
  · cases hx
  have e0 := congrArg Prod.fst hx
  simp only [DataW.slice.injEq] at e0
  obtain ⟨eE, eR⟩ := e0
  have hlen : len = n := by
    have := congrArg List.length eE
    simp at this
    omega
  subst hlen
  have hcell : ∀ i, i < l.length → W.cell? (a.add i) = some (.int .i64 (l.getD i 0)) := by
    intro i hi
    have h1 := helem i (by omega)
    rw [hc] at h1
    obtain ⟨b, hb⟩ : ∃ b, el[i]? = some b := ⟨el[i]'(by omega), List.getElem?_eq_getElem (by omega)⟩
    rw [hb] at h1
    obtain ⟨ce, hce, hte⟩ := Option.bind_eq_some_iff.1 h1
    obtain ⟨z, hz, hbz, _⟩ := DataW.trod_int he hte
    have hb1 : b.1 = .lit (.int .i64 (l.getD i 0)) := by
      have := congrArg (·[i]?) eE
      simp [hb, hi, List.getD] at this
      have e2 : l.getD i 0 = l[i] := by simp [List.getD, List.getElem?_eq_getElem hi]
      rw [e2]
      exact this.symm
    rw [hbz] at hb1
    simp only [DataW.lit.injEq, Lit.int.injEq, true_and] at hb1
    obtain ⟨_, _, hcc⟩ := World.cells?_some hce
    have h3 := hcc 0 (by omega)
    rw [hz] at h3
    rw [← hb1]
    simpa [Addr.add] using h3
  have hv := World.var?_cell hn hvar 0
  rw [← Array.getElem?_toList, hcs] at hv
  have hv' : W.cell? ⟨g, 0, none⟩ = some (.slice (some a) len cap) := by simpa using hv
  obtain ⟨b, off, rfl, hc2⟩ := ints_at hcell (by omega)
  refine ⟨b, off, cap, World.block_lt_of_cell? W ⟨g, 0, none⟩ hv', World.block_lt_of_cell? W ⟨b, off + 0, none⟩ (hc2 0 (by omega)), hv', fun i v e => ?_⟩
  have hi : i < l.length := (List.getElem?_eq_some_iff.1 e).1
  rw [hc2 i hi]
  simp [List.getD, e]

/-- a variable that reads as a slice of threes of integers holds them -/
theorem threes_of_reads {P : Program} {W : World} {name : String} {g : Nat} {t e ei : TypeId} {n : Nat} {l : List (Int × Int × Int)} (hn : P.globalNamed name = some g) (hy : (P.globals[g]?).map (·.type) = some t)
    (ht : P.underlying t = some (.slice e)) (he : P.underlying e = some (.array 3 ei)) (hei : P.underlying ei = some (.int .i64)) (hc : P.cellsOf e = 3) (hci : P.cellsOf ei = 1) (hl : l.length = n) (h0 : 0 < n)
    (h : Lib.VarReads P W name (.slice (l.map fun z => .agg [.lit (.int .i64 z.1), .lit (.int .i64 z.2.1), .lit (.int .i64 z.2.2)]) [])) :
    ∃ b o cap, g < W.heap.size ∧ b < W.heap.size ∧ W.cell? ⟨g, 0, none⟩ = some (.slice (some ⟨b, o, none⟩) n cap) ∧
      ∀ i z, l[i]? = some z → W.cell? ⟨b, o + i * 3, none⟩ = some (.int .i64 z.1) ∧ W.cell? ⟨b, o + (i * 3 + 1), none⟩ = some (.int .i64 z.2.1) ∧ W.cell? ⟨b, o + (i * 3 + 2), none⟩ = some (.int .i64 z.2.2) := by
  obtain ⟨g', t', cs, fuel, p, hg, hty, hvar, hd⟩ := h
  obtain rfl := Option.some.inj (hn.symm.trans hg)
  obtain rfl := Option.some.inj (hy.symm.trans hty)
  rcases DataW.trod_slice ht hd with ⟨_, hx⟩ | ⟨a, len, cap, el, rs, m, rfl, hcs, hx, _, hlc, _, hel, helem, hsp, _⟩
  · cases hx
  have e0 := congrArg Prod.fst hx
  simp only [DataW.slice.injEq] at e0
  obtain ⟨eE, eR⟩ := e0
  have hlen : len = n := by
    have := congrArg List.length eE
    simp at this
    omega
  subst hlen
  have hcell : ∀ i z, l[i]? = some z → W.cell? ((a.add (i * 3)).add 0) = some (.int .i64 z.1) ∧ W.cell? ((a.add (i * 3)).add 1) = some (.int .i64 z.2.1) ∧ W.cell? ((a.add (i * 3)).add 2) = some (.int .i64 z.2.2) := by
    intro i z hz
    have hi : i < l.length := (List.getElem?_eq_some_iff.1 hz).1
    have h1 := helem i (by omega)
    rw [hc] at h1
    obtain ⟨b, hb⟩ : ∃ b, el[i]? = some b := ⟨el[i]'(by omega), List.getElem?_eq_getElem (by omega)⟩
    rw [hb] at h1
    obtain ⟨ce, hce, hte⟩ := Option.bind_eq_some_iff.1 h1
    obtain ⟨_, hcl, hat⟩ := World.cells?_some hce
    obtain ⟨xs, k, _, hbx, _, hxl, hxs⟩ := DataW.trod_array he hte
    have hb1 : b.1 = .agg [.lit (.int .i64 z.1), .lit (.int .i64 z.2.1), .lit (.int .i64 z.2.2)] := by
      have := congrArg (·[i]?) eE
      simp [hb, hz] at this
      exact this.symm
    match ce, hcl, xs, hxl with
    | [c0, c1, c2], _, [y0, y1, y2], _ =>
      have g0 : DataW.trod (fun _ => ()) P W 0 (fun _ => true) false k ei [c0] = some y0 := by simpa [hci] using hxs 0 (by omega)
      have g1 : DataW.trod (fun _ => ()) P W 0 (fun _ => true) false k ei [c1] = some y1 := by simpa [hci] using hxs 1 (by omega)
      have g2 : DataW.trod (fun _ => ()) P W 0 (fun _ => true) false k ei [c2] = some y2 := by simpa [hci] using hxs 2 (by omega)
      obtain ⟨z0, q0, r0, _⟩ := DataW.trod_int hei g0
      obtain ⟨z1, q1, r1, _⟩ := DataW.trod_int hei g1
      obtain ⟨z2, q2, r2, _⟩ := DataW.trod_int hei g2
      rw [hbx] at hb1
      simp [r0, r1, r2] at hb1
      simp only [List.cons.injEq, and_true] at q0 q1 q2
      subst q0 q1 q2
      obtain ⟨rfl, rfl, rfl⟩ := hb1
      exact ⟨hat 0 (by omega), hat 1 (by omega), hat 2 (by omega)⟩
  have hv := World.var?_cell hn hvar 0
  rw [← Array.getElem?_toList, hcs] at hv
  have hv' : W.cell? ⟨g, 0, none⟩ = some (.slice (some a) len cap) := by simpa using hv
  obtain ⟨ab, ao, asp⟩ := a
  obtain ⟨z, hz⟩ : ∃ z, l[0]? = some z := ⟨l[0]'(by omega), List.getElem?_eq_getElem (by omega)⟩
  have hspot : asp = none := by simpa [Addr.add] using World.cell?_spot (hcell 0 z hz).1
  subst hspot
  have hc2 : ∀ i z, l[i]? = some z → W.cell? ⟨ab, ao + i * 3, none⟩ = some (.int .i64 z.1) ∧ W.cell? ⟨ab, ao + (i * 3 + 1), none⟩ = some (.int .i64 z.2.1) ∧ W.cell? ⟨ab, ao + (i * 3 + 2), none⟩ = some (.int .i64 z.2.2) := by
    intro i z hz
    obtain ⟨k0, k1, k2⟩ := hcell i z hz
    simp only [Go.WideShapes.add_plain, Nat.add_zero, Nat.add_assoc] at k0 k1 k2
    exact ⟨k0, k1, k2⟩
  exact ⟨ab, ao, cap, World.block_lt_of_cell? W ⟨g, 0, none⟩ hv', World.block_lt_of_cell? W ⟨ab, ao + 0 * 3, none⟩ (hc2 0 z hz).1, hv', hc2⟩

theorem lt_of_cell {W : World} {g n : Nat} {v : Value} (h : W.cell? ⟨g, n, none⟩ = some v) : g < W.heap.size := World.block_lt_of_cell? W ⟨g, n, none⟩ h

/-- the rows' list, in its order -/
abbrev laidList : List (String × DataW Unit) :=
  [("quarterday/field.dayNames", Rows.laid_quarterday_field_dayNames), ("quarterday/field.monthNames", Rows.laid_quarterday_field_monthNames), ("quarterday/field.policyNames", Rows.laid_quarterday_field_policyNames), ("quarterday/field.patterns", Rows.laid_quarterday_field_patterns), ("quarterday/field.cycles", Rows.laid_quarterday_field_cycles)]

theorem ftab_of_laid {W : World} (h : laidMetH Tryz.prog laidList W) : FTab W := by
  rw [MakeChecks.laidMetH_plain _ _ _ (by kernel_rfl)] at h
  refine ⟨?_, ?_, ?_, ?_, ?_⟩
  · exact held_of_reads (P := Tryz.prog) (by kernel_rfl) (by kernel_rfl) Tryz.underlying49 (by rfl) (Lib.laidMet.reads h (n := "quarterday/field.dayNames") (d := Rows.laid_quarterday_field_dayNames) (by simp [laidList]))
  · exact held_of_reads (P := Tryz.prog) (by kernel_rfl) (by kernel_rfl) Tryz.underlying49 (by rfl) (Lib.laidMet.reads h (n := "quarterday/field.monthNames") (d := Rows.laid_quarterday_field_monthNames) (by simp [laidList]))
  · exact held_of_reads (P := Tryz.prog) (by kernel_rfl) (by kernel_rfl) Tryz.underlying49 (by rfl) (Lib.laidMet.reads h (n := "quarterday/field.policyNames") (d := Rows.laid_quarterday_field_policyNames) (by simp [laidList]))
  · obtain ⟨b, o, cap, h1, h2, h3, h4⟩ := threes_of_reads (P := Tryz.prog) (l := [(5, 4, 4), (4, 5, 4), (4, 4, 5)]) (by kernel_rfl) (by kernel_rfl) Tryz.underlying113 Tryz.underlying28 Tryz.underlying3 cellsPat cellsIntC (by rfl) (by decide)
      (Lib.laidMet.reads h (n := "quarterday/field.patterns") (d := Rows.laid_quarterday_field_patterns) (by simp [laidList]))
    refine ⟨b, o, cap, h1, h2, h3, fun i v e => ?_⟩
    have a0 := h4 0 (5, 4, 4) rfl
    have a1 := h4 1 (4, 5, 4) rfl
    have a2 := h4 2 (4, 4, 5) rfl
    have hi : i < 9 := (List.getElem?_eq_some_iff.1 e).1
    have hh : i = 0 ∨ i = 1 ∨ i = 2 ∨ i = 3 ∨ i = 4 ∨ i = 5 ∨ i = 6 ∨ i = 7 ∨ i = 8 := by omega
    rcases hh with rfl | rfl | rfl | rfl | rfl | rfl | rfl | rfl | rfl <;> (cases e; first | exact a0.1 | exact a0.2.1 | exact a0.2.2 | exact a1.1 | exact a1.2.1 | exact a1.2.2 | exact a2.1 | exact a2.2.1 | exact a2.2.2)
  · exact ints_of_reads (P := Tryz.prog) (l := [1, 2, 4]) (by kernel_rfl) (by kernel_rfl) Tryz.underlying94 Tryz.underlying3 cellsIntC (by rfl) (by decide) (Lib.laidMet.reads h (n := "quarterday/field.cycles") (d := Rows.laid_quarterday_field_cycles) (by simp [laidList]))

end Go.Proofs.YtnjmokmlnpehdaaGreatDoor.Fp

namespace Go.Proofs.YtnjmokmlnpehdaaGreatDoor.Fp
set_option linter.unusedSimpArgs false
set_option linter.unusedVariables false
open Go Go.RowKit Go.Proofs.YtnjmokmlnpehdaaGreatDoor.Cp Go.Proofs.YtnjmokmlnpehdaaGreatDoor.Fm

theorem lit_inj {l m : List ByteArray} (h : (l.map fun s => (DataW.lit (.string s.data.toList) : DataW Unit)) = m.map fun s => .lit (.string s.data.toList)) : l = m := by
  induction l generalizing m with
  | nil => cases m with
    | nil => rfl
    | cons y m => cases h
  | cons x l ih =>
    cases m with
    | nil => cases h
    | cons y m =>
      simp only [List.map_cons, List.cons.injEq, DataW.lit.injEq, Lit.string.injEq] at h
      obtain ⟨h1, h2⟩ := h
      have e : x = y := by
        cases x; cases y
        simp only [ByteArray.mk.injEq]
        exact Array.toList_inj.1 h1
      rw [e, ih h2]
/-- a variable that reads as a slice of texts holds them -/
theorem strs_of_reads {P : Program} {W : World} {name : String} {g : Nat} {t e : TypeId} {l : List ByteArray} (hn : P.globalNamed name = some g) (hy : (P.globals[g]?).map (·.type) = some t)
    (ht : P.underlying t = some (.slice e)) (he : P.underlying e = some .string) (hc : P.cellsOf e = 1) (h0 : 0 < l.length) (h : Lib.VarReads P W name (.slice (l.map fun s => .lit (.string s.data.toList)) [])) : HeldStrs g l W := by
  obtain ⟨g', t', cs, fuel, p, hg, hty, hvar, hd⟩ := h
  obtain rfl := Option.some.inj (hn.symm.trans hg)
  obtain rfl := Option.some.inj (hy.symm.trans hty)
  rcases ChangeShapes.open_strings ht he hc hd with ⟨_, hx⟩ | ⟨a, len, cap, ss, hcs, _, hlc, _, hss, hx, hcell, _⟩
  · cases hx
  have e0 := congrArg Prod.fst hx
  simp only [DataW.slice.injEq, ChangeShapes.strs] at e0
  have eL := lit_inj e0.1
  have hlen : l.length = len := by
    rw [eL, List.length_take, hss]
    simp
    omega
  subst hlen
  have hv := World.var?_cell hn hvar 0
  rw [← Array.getElem?_toList, hcs] at hv
  have hv' : W.cell? ⟨g, 0, none⟩ = some (.slice (some a) l.length cap) := by simpa using hv
  have hc3 : ∀ i v, l[i]? = some v → W.cell? (a.add i) = some (.string v) := by
    intro i v hi
    have hil : i < l.length := (List.getElem?_eq_some_iff.1 hi).1
    have hs : i < ss.length := by rw [hss]; simp; omega
    rw [hcell i hs]
    rw [eL, List.getElem?_take, if_pos (by omega)] at hi
    simp [List.getD, hi]
  obtain ⟨ab, ao, asp⟩ := a
  obtain ⟨z, hz⟩ : ∃ z, l[0]? = some z := ⟨l[0]'h0, List.getElem?_eq_getElem h0⟩
  have hspot : asp = none := by simpa [Addr.add] using World.cell?_spot (hc3 0 z hz)
  subst hspot
  have hc4 : ∀ i v, l[i]? = some v → W.cell? ⟨ab, ao + i, none⟩ = some (.string v) := by
    intro i v hi
    have k := hc3 i v hi
    rwa [Go.WideShapes.add_plain] at k
  exact ⟨ab, ao, cap, World.block_lt_of_cell? W ⟨g, 0, none⟩ hv', hv', World.block_lt_of_cell? W ⟨ab, ao + 0, none⟩ (hc4 0 z hz), hc4⟩

/-- the row's list of stage 11 -/
abbrev fieldList : List (String × DataW Unit) :=
  [("math/bits.deBruijn32tab", Rows.laid_math_bits_deBruijn32tab), ("math/bits.deBruijn64tab", Rows.laid_math_bits_deBruijn64tab), ("internal/strconv.uint64pow10", Rows.laid_internal_strconv_uint64pow10), ("strconv.ErrRange", Rows.laid_strconv_ErrRange), ("strconv.ErrSyntax", Rows.laid_strconv_ErrSyntax), ("quarterday/field.keyNames", Rows.laid_quarterday_field_keyNames), ("quarterday/field.endNames", Rows.laid_quarterday_field_endNames), ("quarterday/field.dayNames", Rows.laid_quarterday_field_dayNames), ("quarterday/field.monthNames", Rows.laid_quarterday_field_monthNames), ("quarterday/field.shiftNames", Rows.laid_quarterday_field_shiftNames), ("quarterday/field.policyNames", Rows.laid_quarterday_field_policyNames), ("quarterday/field.patterns", Rows.laid_quarterday_field_patterns), ("quarterday/field.cycles", Rows.laid_quarterday_field_cycles)]
/-- the tables of a law of field -/
structure NTabs (W : World) : Prop where
  n : NTab W
  p : Go.Proofs.YtnjmokmlnpehdaaGreatDoor.Zp.Pows W
theorem cellsStr : Tryz.prog.cellsOf 9 = 1 := by kernel_rfl
theorem ntabs_of_laid {W : World} (h0 : laidMetH Tryz.prog fieldList W) : NTabs W := by
  have h := h0
  rw [MakeChecks.laidMetH_plain _ _ _ (by kernel_rfl)] at h
  refine ⟨⟨⟨?_, ?_, ?_, ?_, ?_⟩, ?_, ?_, ?_, ?_, ?_, ?_⟩, ?_⟩
  · exact held_of_reads (P := Tryz.prog) (by kernel_rfl) (by kernel_rfl) Tryz.underlying49 (by rfl) (Lib.laidMet.reads h (n := "quarterday/field.dayNames") (d := Rows.laid_quarterday_field_dayNames) (by simp [fieldList]))
  · exact held_of_reads (P := Tryz.prog) (by kernel_rfl) (by kernel_rfl) Tryz.underlying49 (by rfl) (Lib.laidMet.reads h (n := "quarterday/field.monthNames") (d := Rows.laid_quarterday_field_monthNames) (by simp [fieldList]))
  · exact held_of_reads (P := Tryz.prog) (by kernel_rfl) (by kernel_rfl) Tryz.underlying49 (by rfl) (Lib.laidMet.reads h (n := "quarterday/field.policyNames") (d := Rows.laid_quarterday_field_policyNames) (by simp [fieldList]))
  · obtain ⟨b, o, cap, h1, h2, h3, h4⟩ := threes_of_reads (P := Tryz.prog) (l := [(5, 4, 4), (4, 5, 4), (4, 4, 5)]) (by kernel_rfl) (by kernel_rfl) Tryz.underlying113 Tryz.underlying28 Tryz.underlying3 cellsPat cellsIntC (by rfl) (by decide)
      (Lib.laidMet.reads h (n := "quarterday/field.patterns") (d := Rows.laid_quarterday_field_patterns) (by simp [fieldList]))
    refine ⟨b, o, cap, h1, h2, h3, fun i v e => ?_⟩
    have a0 := h4 0 (5, 4, 4) rfl
    have a1 := h4 1 (4, 5, 4) rfl
    have a2 := h4 2 (4, 4, 5) rfl
    have hi : i < 9 := (List.getElem?_eq_some_iff.1 e).1
    have hh : i = 0 ∨ i = 1 ∨ i = 2 ∨ i = 3 ∨ i = 4 ∨ i = 5 ∨ i = 6 ∨ i = 7 ∨ i = 8 := by omega
    rcases hh with rfl | rfl | rfl | rfl | rfl | rfl | rfl | rfl | rfl <;> (cases e; first | exact a0.1 | exact a0.2.1 | exact a0.2.2 | exact a1.1 | exact a1.2.1 | exact a1.2.2 | exact a2.1 | exact a2.2.1 | exact a2.2.2)
  · exact ints_of_reads (P := Tryz.prog) (l := [1, 2, 4]) (by kernel_rfl) (by kernel_rfl) Tryz.underlying94 Tryz.underlying3 cellsIntC (by rfl) (by decide) (Lib.laidMet.reads h (n := "quarterday/field.cycles") (d := Rows.laid_quarterday_field_cycles) (by simp [fieldList]))
  · exact strs_of_reads (P := Tryz.prog) (by kernel_rfl) (by kernel_rfl) Tryz.underlying49 Tryz.underlying9 cellsStr (by decide) (Lib.laidMet.reads h (n := "quarterday/field.keyNames") (d := Rows.laid_quarterday_field_keyNames) (by simp [fieldList]))
  · exact strs_of_reads (P := Tryz.prog) (by kernel_rfl) (by kernel_rfl) Tryz.underlying49 Tryz.underlying9 cellsStr (by decide) (Lib.laidMet.reads h (n := "quarterday/field.endNames") (d := Rows.laid_quarterday_field_endNames) (by simp [fieldList]))
  · exact strs_of_reads (P := Tryz.prog) (by kernel_rfl) (by kernel_rfl) Tryz.underlying49 Tryz.underlying9 cellsStr (by decide) (Lib.laidMet.reads h (n := "quarterday/field.dayNames") (d := Rows.laid_quarterday_field_dayNames) (by simp [fieldList]))
  · exact strs_of_reads (P := Tryz.prog) (by kernel_rfl) (by kernel_rfl) Tryz.underlying49 Tryz.underlying9 cellsStr (by decide) (Lib.laidMet.reads h (n := "quarterday/field.monthNames") (d := Rows.laid_quarterday_field_monthNames) (by simp [fieldList]))
  · exact strs_of_reads (P := Tryz.prog) (by kernel_rfl) (by kernel_rfl) Tryz.underlying49 Tryz.underlying9 cellsStr (by decide) (Lib.laidMet.reads h (n := "quarterday/field.shiftNames") (d := Rows.laid_quarterday_field_shiftNames) (by simp [fieldList]))
  · exact strs_of_reads (P := Tryz.prog) (by kernel_rfl) (by kernel_rfl) Tryz.underlying49 Tryz.underlying9 cellsStr (by decide) (Lib.laidMet.reads h (n := "quarterday/field.policyNames") (d := Rows.laid_quarterday_field_policyNames) (by simp [fieldList]))
  · have h3 := h.tail.tail
    have h4 : laidMet Tryz.prog (("internal/strconv.uint64pow10", Lib.tabData .u64 Lib.pow10Tab) :: fieldList.tail.tail.tail) W := h3
    exact ⟨Lib.tabIs_of_head Go.Proofs.YtnjmokmlnpehdaaGreatDoor.Zp.gPow Go.Proofs.YtnjmokmlnpehdaaGreatDoor.Zp.gPowType Tryz.underlying169 Tryz.underlying152 Go.Proofs.YtnjmokmlnpehdaaGreatDoor.Zp.cellsU64 Go.Proofs.YtnjmokmlnpehdaaGreatDoor.Zp.cellsPow h4⟩

end Go.Proofs.YtnjmokmlnpehdaaGreatDoor.Fp
