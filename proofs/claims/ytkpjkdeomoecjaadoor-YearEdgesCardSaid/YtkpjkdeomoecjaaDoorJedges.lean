/- YearEdges' walk. -/
import Derived.Test.YtkpjkdeomoecjaaDoorJlive
import Derived.Test.YtkpjkdeomoecjaaDoorJlaw
namespace Go.Proofs.YtkpjkdeomoecjaaDoor.Jl
set_option linter.unusedSimpArgs false
set_option linter.unusedVariables false
open Go.RowKit Go.Proofs.YtkpjkdeomoecjaaDoor.Bn Go.Proofs.YtkpjkdeomoecjaaDoor.Am Go.Proofs.YtkpjkdeomoecjaaDoor.Fp Go.Proofs.YtkpjkdeomoecjaaDoor.Ap Go.Proofs.YtkpjkdeomoecjaaDoor.Cm Go.Proofs.YtkpjkdeomoecjaaDoor.Em Go.Proofs.YtkpjkdeomoecjaaDoor.Ep Go.Proofs.YtkpjkdeomoecjaaDoor.Bx Go.Proofs.YtkpjkdeomoecjaaDoor.Pr Go.Proofs.YtkpjkdeomoecjaaDoor.Jp

open Go.Proofs.YtkpjkdeomoecjaaDoor.Cp (Tab Day_any Length_any Weekday_any)

set_option maxHeartbeats 1000000

set_option maxHeartbeats 8000000 in
set_option maxRecDepth 100000 in
theorem jedges_mid (c : CalZ) (y a b : Int) (w : World) (a0 : 0 ≤ a) (a1 : a ≤ 3068036) (b1 : b ≤ 3068036) (b0 : 0 ≤ b) (h1 : 1601 < y) (h2 : y < 9997) (dl : decide ((100 : Int) < (c.nm.size : Int)) = false)
    (cs : ∀ w, FTab w → Calls Tryd.prog 18 #[.agg #[.string c.nm, .int .i64 c.k, .int .i64 c.d, .int .i64 c.m, .int .i64 c.s, .int .i64 c.sh, .int .i64 c.p0, .int .i64 c.p1, .int .i64 c.p2, .int .i64 c.cy, .int .i64 c.ex, .int .i64 c.fi, .int .i64 c.la, .int .i64 c.po], .int .i64 y] w fun e w' => e = .returned (.tuple #[.int .i64 (a + 1), .int .i64 0]) ∧ Below w.heap.size w w')
    (ce : ∀ w, FTab w → Calls Tryd.prog 16 #[.agg #[.string c.nm, .int .i64 c.k, .int .i64 c.d, .int .i64 c.m, .int .i64 c.s, .int .i64 c.sh, .int .i64 c.p0, .int .i64 c.p1, .int .i64 c.p2, .int .i64 c.cy, .int .i64 c.ex, .int .i64 c.fi, .int .i64 c.la, .int .i64 c.po], .int .i64 y] w fun e w' => e = .returned (.tuple #[.int .i64 b, .int .i64 0]) ∧ Below w.heap.size w w')
    (cp : ∀ w, FTab w → Calls Tryd.prog 33 #[.agg #[.string c.nm, .int .i64 c.k, .int .i64 c.d, .int .i64 c.m, .int .i64 c.s, .int .i64 c.sh, .int .i64 c.p0, .int .i64 c.p1, .int .i64 c.p2, .int .i64 c.cy, .int .i64 c.ex, .int .i64 c.fi, .int .i64 c.la, .int .i64 c.po], .int .i64 (a + 1)] w fun e w' => e = .returned (.tuple #[.int .i64 y, .int .i64 0]) ∧ Below w.heap.size w w')
    (cq : ∀ w, FTab w → Calls Tryd.prog 33 #[.agg #[.string c.nm, .int .i64 c.k, .int .i64 c.d, .int .i64 c.m, .int .i64 c.s, .int .i64 c.sh, .int .i64 c.p0, .int .i64 c.p1, .int .i64 c.p2, .int .i64 c.cy, .int .i64 c.ex, .int .i64 c.fi, .int .i64 c.la, .int .i64 c.po], .int .i64 b] w fun e w' => e = .returned (.tuple #[.int .i64 y, .int .i64 0]) ∧ Below w.heap.size w w')
    (cx : ∀ w, FTab w → Calls Tryd.prog 33 #[.agg #[.string c.nm, .int .i64 c.k, .int .i64 c.d, .int .i64 c.m, .int .i64 c.s, .int .i64 c.sh, .int .i64 c.p0, .int .i64 c.p1, .int .i64 c.p2, .int .i64 c.cy, .int .i64 c.ex, .int .i64 c.fi, .int .i64 c.la, .int .i64 c.po], .int .i64 a] w fun e w' => e = .returned (.tuple #[.int .i64 (y - 1), .int .i64 0]) ∧ Below w.heap.size w w')
    (cy : ∀ w, FTab w → Calls Tryd.prog 33 #[.agg #[.string c.nm, .int .i64 c.k, .int .i64 c.d, .int .i64 c.m, .int .i64 c.s, .int .i64 c.sh, .int .i64 c.p0, .int .i64 c.p1, .int .i64 c.p2, .int .i64 c.cy, .int .i64 c.ex, .int .i64 c.fi, .int .i64 c.la, .int .i64 c.po], .int .i64 (b + 1)] w fun e w' => e = .returned (.tuple #[.int .i64 (y + 1), .int .i64 0]) ∧ Below w.heap.size w w')
    (tb : FTab w) :
    Calls Tryd.prog 12 #[.agg #[.string c.nm, .int .i64 c.k, .int .i64 c.d, .int .i64 c.m, .int .i64 c.s, .int .i64 c.sh, .int .i64 c.p0, .int .i64 c.p1, .int .i64 c.p2, .int .i64 c.cy, .int .i64 c.ex, .int .i64 c.fi, .int .i64 c.la, .int .i64 c.po], .int .i64 y] w fun e w' => e = .returned (.bool true) ∧ Below w.heap.size w w' := by
  have haw : a + 1 - 1 = a := by omega
  go_enter Tryd.func12, Tryd.ntmps12
  go_wp2_with fail
  refine (jlive_ok _ ((tb).alloc (.cells #[.string c.nm, .int .i64 c.k, .int .i64 c.d, .int .i64 c.m, .int .i64 c.s, .int .i64 c.sh, .int .i64 c.p0, .int .i64 c.p1, .int .i64 c.p2, .int .i64 c.cy, .int .i64 c.ex, .int .i64 c.fi, .int .i64 c.la, .int .i64 c.po] 24))).mono ?_
  rintro e w1 ⟨rfl, hb⟩
  have C := (CalIn.new w c 24).kept hb
  have T1 := ((tb).alloc (.cells #[.string c.nm, .int .i64 c.k, .int .i64 c.d, .int .i64 c.m, .int .i64 c.s, .int .i64 c.sh, .int .i64 c.p0, .int .i64 c.p1, .int .i64 c.p2, .int .i64 c.cy, .int .i64 c.ex, .int .i64 c.fi, .int .i64 c.la, .int .i64 c.po] 24)).kept hb
  have B1 := bthen (balloc (Below.refl _ w) (.cells #[.string c.nm, .int .i64 c.k, .int .i64 c.d, .int .i64 c.m, .int .i64 c.s, .int .i64 c.sh, .int .i64 c.p0, .int .i64 c.p1, .int .i64 c.p2, .int .i64 c.cy, .int .i64 c.ex, .int .i64 c.fi, .int .i64 c.la, .int .i64 c.po] 24)) hb
  try simp only [World.size_alloc] at C
  clear hb
  obtain ⟨z0, C_0, C_1, C_2, C_3, C_4, C_5, C_6, C_7, C_8, C_9, C_10, C_11, C_12, C_13⟩ := id C
  go_wp2_with fail
  refine (cs _ (T1)).mono ?_
  rintro e w2 ⟨rfl, hb⟩
  replace C := (C).kept hb
  have T2 := (T1).kept hb
  replace B1 := bthen B1 hb
  clear hb z0 C_0 C_1 C_2 C_3 C_4 C_5 C_6 C_7 C_8 C_9 C_10 C_11 C_12 C_13 T1
  obtain ⟨z0, C_0, C_1, C_2, C_3, C_4, C_5, C_6, C_7, C_8, C_9, C_10, C_11, C_12, C_13⟩ := id C
  go_wp2_with fail
  refine (ce _ (T2)).mono ?_
  rintro e w3 ⟨rfl, hb⟩
  replace C := (C).kept hb
  have T3 := (T2).kept hb
  replace B1 := bthen B1 hb
  clear hb z0 C_0 C_1 C_2 C_3 C_4 C_5 C_6 C_7 C_8 C_9 C_10 C_11 C_12 C_13 T2
  obtain ⟨z0, C_0, C_1, C_2, C_3, C_4, C_5, C_6, C_7, C_8, C_9, C_10, C_11, C_12, C_13⟩ := id C
  go_wp2_with fail
  refine (cp _ (T3)).mono ?_
  rintro e w4 ⟨rfl, hb⟩
  replace C := (C).kept hb
  have T4 := (T3).kept hb
  replace B1 := bthen B1 hb
  clear hb z0 C_0 C_1 C_2 C_3 C_4 C_5 C_6 C_7 C_8 C_9 C_10 C_11 C_12 C_13 T3
  obtain ⟨z0, C_0, C_1, C_2, C_3, C_4, C_5, C_6, C_7, C_8, C_9, C_10, C_11, C_12, C_13⟩ := id C
  go_wp2_with fail
  refine (cq _ (T4)).mono ?_
  rintro e w5 ⟨rfl, hb⟩
  replace C := (C).kept hb
  have T5 := (T4).kept hb
  replace B1 := bthen B1 hb
  clear hb z0 C_0 C_1 C_2 C_3 C_4 C_5 C_6 C_7 C_8 C_9 C_10 C_11 C_12 C_13 T4
  obtain ⟨z0, C_0, C_1, C_2, C_3, C_4, C_5, C_6, C_7, C_8, C_9, C_10, C_11, C_12, C_13⟩ := id C
  go_wp2_with fail
  refine (cx _ (T5)).mono ?_
  rintro e w6 ⟨rfl, hb⟩
  replace C := (C).kept hb
  have T6 := (T5).kept hb
  replace B1 := bthen B1 hb
  clear hb z0 C_0 C_1 C_2 C_3 C_4 C_5 C_6 C_7 C_8 C_9 C_10 C_11 C_12 C_13 T5
  obtain ⟨z0, C_0, C_1, C_2, C_3, C_4, C_5, C_6, C_7, C_8, C_9, C_10, C_11, C_12, C_13⟩ := id C
  go_wp2_with fail
  refine (cy _ (T6)).mono ?_
  rintro e w7 ⟨rfl, hb⟩
  replace C := (C).kept hb
  have T7 := (T6).kept hb
  replace B1 := bthen B1 hb
  clear hb z0 C_0 C_1 C_2 C_3 C_4 C_5 C_6 C_7 C_8 C_9 C_10 C_11 C_12 C_13 T6
  obtain ⟨z0, C_0, C_1, C_2, C_3, C_4, C_5, C_6, C_7, C_8, C_9, C_10, C_11, C_12, C_13⟩ := id C
  go_wp2
  go_ret
  exact ⟨by simp <;> omega, B1⟩

set_option maxHeartbeats 8000000 in
set_option maxRecDepth 100000 in
theorem jedges_end (c : CalZ) (a b t1 j : Int) (w : World) (a0 : 0 ≤ a) (a1 : a ≤ 3068036) (b1 : b ≤ 3068036) (b0 : 0 ≤ b) (h2 : j ≠ 0) (dl : decide ((100 : Int) < (c.nm.size : Int)) = false)
    (cs : ∀ w, FTab w → Calls Tryd.prog 18 #[.agg #[.string c.nm, .int .i64 c.k, .int .i64 c.d, .int .i64 c.m, .int .i64 c.s, .int .i64 c.sh, .int .i64 c.p0, .int .i64 c.p1, .int .i64 c.p2, .int .i64 c.cy, .int .i64 c.ex, .int .i64 c.fi, .int .i64 c.la, .int .i64 c.po], .int .i64 9997] w fun e w' => e = .returned (.tuple #[.int .i64 (a + 1), .int .i64 0]) ∧ Below w.heap.size w w')
    (ce : ∀ w, FTab w → Calls Tryd.prog 16 #[.agg #[.string c.nm, .int .i64 c.k, .int .i64 c.d, .int .i64 c.m, .int .i64 c.s, .int .i64 c.sh, .int .i64 c.p0, .int .i64 c.p1, .int .i64 c.p2, .int .i64 c.cy, .int .i64 c.ex, .int .i64 c.fi, .int .i64 c.la, .int .i64 c.po], .int .i64 9997] w fun e w' => e = .returned (.tuple #[.int .i64 b, .int .i64 0]) ∧ Below w.heap.size w w')
    (cp : ∀ w, FTab w → Calls Tryd.prog 33 #[.agg #[.string c.nm, .int .i64 c.k, .int .i64 c.d, .int .i64 c.m, .int .i64 c.s, .int .i64 c.sh, .int .i64 c.p0, .int .i64 c.p1, .int .i64 c.p2, .int .i64 c.cy, .int .i64 c.ex, .int .i64 c.fi, .int .i64 c.la, .int .i64 c.po], .int .i64 (a + 1)] w fun e w' => e = .returned (.tuple #[.int .i64 9997, .int .i64 0]) ∧ Below w.heap.size w w')
    (cq : ∀ w, FTab w → Calls Tryd.prog 33 #[.agg #[.string c.nm, .int .i64 c.k, .int .i64 c.d, .int .i64 c.m, .int .i64 c.s, .int .i64 c.sh, .int .i64 c.p0, .int .i64 c.p1, .int .i64 c.p2, .int .i64 c.cy, .int .i64 c.ex, .int .i64 c.fi, .int .i64 c.la, .int .i64 c.po], .int .i64 b] w fun e w' => e = .returned (.tuple #[.int .i64 9997, .int .i64 0]) ∧ Below w.heap.size w w')
    (cx : ∀ w, FTab w → Calls Tryd.prog 33 #[.agg #[.string c.nm, .int .i64 c.k, .int .i64 c.d, .int .i64 c.m, .int .i64 c.s, .int .i64 c.sh, .int .i64 c.p0, .int .i64 c.p1, .int .i64 c.p2, .int .i64 c.cy, .int .i64 c.ex, .int .i64 c.fi, .int .i64 c.la, .int .i64 c.po], .int .i64 a] w fun e w' => e = .returned (.tuple #[.int .i64 (9997 - 1), .int .i64 0]) ∧ Below w.heap.size w w')
    (cy : ∀ w, FTab w → Calls Tryd.prog 33 #[.agg #[.string c.nm, .int .i64 c.k, .int .i64 c.d, .int .i64 c.m, .int .i64 c.s, .int .i64 c.sh, .int .i64 c.p0, .int .i64 c.p1, .int .i64 c.p2, .int .i64 c.cy, .int .i64 c.ex, .int .i64 c.fi, .int .i64 c.la, .int .i64 c.po], .int .i64 (b + 1)] w fun e w' => e = .returned (.tuple #[.int .i64 t1, .int .i64 j]) ∧ Below w.heap.size w w')
    (tb : FTab w) :
    Calls Tryd.prog 12 #[.agg #[.string c.nm, .int .i64 c.k, .int .i64 c.d, .int .i64 c.m, .int .i64 c.s, .int .i64 c.sh, .int .i64 c.p0, .int .i64 c.p1, .int .i64 c.p2, .int .i64 c.cy, .int .i64 c.ex, .int .i64 c.fi, .int .i64 c.la, .int .i64 c.po], .int .i64 9997] w fun e w' => e = .returned (.bool true) ∧ Below w.heap.size w w' := by
  have haw : a + 1 - 1 = a := by omega
  have kj : (j == 0) = false := beq_eq_false_iff_ne.2 h2
  have kj2 : (j != 0) = true := bne_iff_ne.2 h2
  clear h2
  go_enter Tryd.func12, Tryd.ntmps12
  go_wp2_with fail
  refine (jlive_ok _ ((tb).alloc (.cells #[.string c.nm, .int .i64 c.k, .int .i64 c.d, .int .i64 c.m, .int .i64 c.s, .int .i64 c.sh, .int .i64 c.p0, .int .i64 c.p1, .int .i64 c.p2, .int .i64 c.cy, .int .i64 c.ex, .int .i64 c.fi, .int .i64 c.la, .int .i64 c.po] 24))).mono ?_
  rintro e w1 ⟨rfl, hb⟩
  have C := (CalIn.new w c 24).kept hb
  have T1 := ((tb).alloc (.cells #[.string c.nm, .int .i64 c.k, .int .i64 c.d, .int .i64 c.m, .int .i64 c.s, .int .i64 c.sh, .int .i64 c.p0, .int .i64 c.p1, .int .i64 c.p2, .int .i64 c.cy, .int .i64 c.ex, .int .i64 c.fi, .int .i64 c.la, .int .i64 c.po] 24)).kept hb
  have B1 := bthen (balloc (Below.refl _ w) (.cells #[.string c.nm, .int .i64 c.k, .int .i64 c.d, .int .i64 c.m, .int .i64 c.s, .int .i64 c.sh, .int .i64 c.p0, .int .i64 c.p1, .int .i64 c.p2, .int .i64 c.cy, .int .i64 c.ex, .int .i64 c.fi, .int .i64 c.la, .int .i64 c.po] 24)) hb
  try simp only [World.size_alloc] at C
  clear hb
  obtain ⟨z0, C_0, C_1, C_2, C_3, C_4, C_5, C_6, C_7, C_8, C_9, C_10, C_11, C_12, C_13⟩ := id C
  go_wp2_with fail
  refine (cs _ (T1)).mono ?_
  rintro e w2 ⟨rfl, hb⟩
  replace C := (C).kept hb
  have T2 := (T1).kept hb
  replace B1 := bthen B1 hb
  clear hb z0 C_0 C_1 C_2 C_3 C_4 C_5 C_6 C_7 C_8 C_9 C_10 C_11 C_12 C_13 T1
  obtain ⟨z0, C_0, C_1, C_2, C_3, C_4, C_5, C_6, C_7, C_8, C_9, C_10, C_11, C_12, C_13⟩ := id C
  go_wp2_with fail
  refine (ce _ (T2)).mono ?_
  rintro e w3 ⟨rfl, hb⟩
  replace C := (C).kept hb
  have T3 := (T2).kept hb
  replace B1 := bthen B1 hb
  clear hb z0 C_0 C_1 C_2 C_3 C_4 C_5 C_6 C_7 C_8 C_9 C_10 C_11 C_12 C_13 T2
  obtain ⟨z0, C_0, C_1, C_2, C_3, C_4, C_5, C_6, C_7, C_8, C_9, C_10, C_11, C_12, C_13⟩ := id C
  go_wp2_with fail
  refine (cp _ (T3)).mono ?_
  rintro e w4 ⟨rfl, hb⟩
  replace C := (C).kept hb
  have T4 := (T3).kept hb
  replace B1 := bthen B1 hb
  clear hb z0 C_0 C_1 C_2 C_3 C_4 C_5 C_6 C_7 C_8 C_9 C_10 C_11 C_12 C_13 T3
  obtain ⟨z0, C_0, C_1, C_2, C_3, C_4, C_5, C_6, C_7, C_8, C_9, C_10, C_11, C_12, C_13⟩ := id C
  go_wp2_with fail
  refine (cq _ (T4)).mono ?_
  rintro e w5 ⟨rfl, hb⟩
  replace C := (C).kept hb
  have T5 := (T4).kept hb
  replace B1 := bthen B1 hb
  clear hb z0 C_0 C_1 C_2 C_3 C_4 C_5 C_6 C_7 C_8 C_9 C_10 C_11 C_12 C_13 T4
  obtain ⟨z0, C_0, C_1, C_2, C_3, C_4, C_5, C_6, C_7, C_8, C_9, C_10, C_11, C_12, C_13⟩ := id C
  go_wp2_with fail
  refine (cx _ (T5)).mono ?_
  rintro e w6 ⟨rfl, hb⟩
  replace C := (C).kept hb
  have T6 := (T5).kept hb
  replace B1 := bthen B1 hb
  clear hb z0 C_0 C_1 C_2 C_3 C_4 C_5 C_6 C_7 C_8 C_9 C_10 C_11 C_12 C_13 T5
  obtain ⟨z0, C_0, C_1, C_2, C_3, C_4, C_5, C_6, C_7, C_8, C_9, C_10, C_11, C_12, C_13⟩ := id C
  go_wp2_with fail
  refine (cy _ (T6)).mono ?_
  rintro e w7 ⟨rfl, hb⟩
  replace C := (C).kept hb
  have T7 := (T6).kept hb
  replace B1 := bthen B1 hb
  clear hb z0 C_0 C_1 C_2 C_3 C_4 C_5 C_6 C_7 C_8 C_9 C_10 C_11 C_12 C_13 T6
  obtain ⟨z0, C_0, C_1, C_2, C_3, C_4, C_5, C_6, C_7, C_8, C_9, C_10, C_11, C_12, C_13⟩ := id C
  go_wp2
  go_ret
  exact ⟨by simp <;> omega, B1⟩

set_option maxHeartbeats 8000000 in
set_option maxRecDepth 100000 in
theorem jedges_first (c : CalZ) (a b s1 i : Int) (w : World) (a0 : 0 ≤ a) (a1 : a ≤ 3068036) (b1 : b ≤ 3068036) (b0 : 0 ≤ b) (h1 : i ≠ 0) (dl : decide ((100 : Int) < (c.nm.size : Int)) = false)
    (cs : ∀ w, FTab w → Calls Tryd.prog 18 #[.agg #[.string c.nm, .int .i64 c.k, .int .i64 c.d, .int .i64 c.m, .int .i64 c.s, .int .i64 c.sh, .int .i64 c.p0, .int .i64 c.p1, .int .i64 c.p2, .int .i64 c.cy, .int .i64 c.ex, .int .i64 c.fi, .int .i64 c.la, .int .i64 c.po], .int .i64 1601] w fun e w' => e = .returned (.tuple #[.int .i64 (a + 1), .int .i64 0]) ∧ Below w.heap.size w w')
    (ce : ∀ w, FTab w → Calls Tryd.prog 16 #[.agg #[.string c.nm, .int .i64 c.k, .int .i64 c.d, .int .i64 c.m, .int .i64 c.s, .int .i64 c.sh, .int .i64 c.p0, .int .i64 c.p1, .int .i64 c.p2, .int .i64 c.cy, .int .i64 c.ex, .int .i64 c.fi, .int .i64 c.la, .int .i64 c.po], .int .i64 1601] w fun e w' => e = .returned (.tuple #[.int .i64 b, .int .i64 0]) ∧ Below w.heap.size w w')
    (cp : ∀ w, FTab w → Calls Tryd.prog 33 #[.agg #[.string c.nm, .int .i64 c.k, .int .i64 c.d, .int .i64 c.m, .int .i64 c.s, .int .i64 c.sh, .int .i64 c.p0, .int .i64 c.p1, .int .i64 c.p2, .int .i64 c.cy, .int .i64 c.ex, .int .i64 c.fi, .int .i64 c.la, .int .i64 c.po], .int .i64 (a + 1)] w fun e w' => e = .returned (.tuple #[.int .i64 1601, .int .i64 0]) ∧ Below w.heap.size w w')
    (cq : ∀ w, FTab w → Calls Tryd.prog 33 #[.agg #[.string c.nm, .int .i64 c.k, .int .i64 c.d, .int .i64 c.m, .int .i64 c.s, .int .i64 c.sh, .int .i64 c.p0, .int .i64 c.p1, .int .i64 c.p2, .int .i64 c.cy, .int .i64 c.ex, .int .i64 c.fi, .int .i64 c.la, .int .i64 c.po], .int .i64 b] w fun e w' => e = .returned (.tuple #[.int .i64 1601, .int .i64 0]) ∧ Below w.heap.size w w')
    (cx : ∀ w, FTab w → Calls Tryd.prog 33 #[.agg #[.string c.nm, .int .i64 c.k, .int .i64 c.d, .int .i64 c.m, .int .i64 c.s, .int .i64 c.sh, .int .i64 c.p0, .int .i64 c.p1, .int .i64 c.p2, .int .i64 c.cy, .int .i64 c.ex, .int .i64 c.fi, .int .i64 c.la, .int .i64 c.po], .int .i64 a] w fun e w' => e = .returned (.tuple #[.int .i64 s1, .int .i64 i]) ∧ Below w.heap.size w w')
    (cy : ∀ w, FTab w → Calls Tryd.prog 33 #[.agg #[.string c.nm, .int .i64 c.k, .int .i64 c.d, .int .i64 c.m, .int .i64 c.s, .int .i64 c.sh, .int .i64 c.p0, .int .i64 c.p1, .int .i64 c.p2, .int .i64 c.cy, .int .i64 c.ex, .int .i64 c.fi, .int .i64 c.la, .int .i64 c.po], .int .i64 (b + 1)] w fun e w' => e = .returned (.tuple #[.int .i64 (1601 + 1), .int .i64 0]) ∧ Below w.heap.size w w')
    (tb : FTab w) :
    Calls Tryd.prog 12 #[.agg #[.string c.nm, .int .i64 c.k, .int .i64 c.d, .int .i64 c.m, .int .i64 c.s, .int .i64 c.sh, .int .i64 c.p0, .int .i64 c.p1, .int .i64 c.p2, .int .i64 c.cy, .int .i64 c.ex, .int .i64 c.fi, .int .i64 c.la, .int .i64 c.po], .int .i64 1601] w fun e w' => e = .returned (.bool true) ∧ Below w.heap.size w w' := by
  have haw : a + 1 - 1 = a := by omega
  have ki : (i == 0) = false := beq_eq_false_iff_ne.2 h1
  have ki2 : (i != 0) = true := bne_iff_ne.2 h1
  clear h1
  go_enter Tryd.func12, Tryd.ntmps12
  go_wp2_with fail
  refine (jlive_ok _ ((tb).alloc (.cells #[.string c.nm, .int .i64 c.k, .int .i64 c.d, .int .i64 c.m, .int .i64 c.s, .int .i64 c.sh, .int .i64 c.p0, .int .i64 c.p1, .int .i64 c.p2, .int .i64 c.cy, .int .i64 c.ex, .int .i64 c.fi, .int .i64 c.la, .int .i64 c.po] 24))).mono ?_
  rintro e w1 ⟨rfl, hb⟩
  have C := (CalIn.new w c 24).kept hb
  have T1 := ((tb).alloc (.cells #[.string c.nm, .int .i64 c.k, .int .i64 c.d, .int .i64 c.m, .int .i64 c.s, .int .i64 c.sh, .int .i64 c.p0, .int .i64 c.p1, .int .i64 c.p2, .int .i64 c.cy, .int .i64 c.ex, .int .i64 c.fi, .int .i64 c.la, .int .i64 c.po] 24)).kept hb
  have B1 := bthen (balloc (Below.refl _ w) (.cells #[.string c.nm, .int .i64 c.k, .int .i64 c.d, .int .i64 c.m, .int .i64 c.s, .int .i64 c.sh, .int .i64 c.p0, .int .i64 c.p1, .int .i64 c.p2, .int .i64 c.cy, .int .i64 c.ex, .int .i64 c.fi, .int .i64 c.la, .int .i64 c.po] 24)) hb
  try simp only [World.size_alloc] at C
  clear hb
  obtain ⟨z0, C_0, C_1, C_2, C_3, C_4, C_5, C_6, C_7, C_8, C_9, C_10, C_11, C_12, C_13⟩ := id C
  go_wp2_with fail
  refine (cs _ (T1)).mono ?_
  rintro e w2 ⟨rfl, hb⟩
  replace C := (C).kept hb
  have T2 := (T1).kept hb
  replace B1 := bthen B1 hb
  clear hb z0 C_0 C_1 C_2 C_3 C_4 C_5 C_6 C_7 C_8 C_9 C_10 C_11 C_12 C_13 T1
  obtain ⟨z0, C_0, C_1, C_2, C_3, C_4, C_5, C_6, C_7, C_8, C_9, C_10, C_11, C_12, C_13⟩ := id C
  go_wp2_with fail
  refine (ce _ (T2)).mono ?_
  rintro e w3 ⟨rfl, hb⟩
  replace C := (C).kept hb
  have T3 := (T2).kept hb
  replace B1 := bthen B1 hb
  clear hb z0 C_0 C_1 C_2 C_3 C_4 C_5 C_6 C_7 C_8 C_9 C_10 C_11 C_12 C_13 T2
  obtain ⟨z0, C_0, C_1, C_2, C_3, C_4, C_5, C_6, C_7, C_8, C_9, C_10, C_11, C_12, C_13⟩ := id C
  go_wp2_with fail
  refine (cp _ (T3)).mono ?_
  rintro e w4 ⟨rfl, hb⟩
  replace C := (C).kept hb
  have T4 := (T3).kept hb
  replace B1 := bthen B1 hb
  clear hb z0 C_0 C_1 C_2 C_3 C_4 C_5 C_6 C_7 C_8 C_9 C_10 C_11 C_12 C_13 T3
  obtain ⟨z0, C_0, C_1, C_2, C_3, C_4, C_5, C_6, C_7, C_8, C_9, C_10, C_11, C_12, C_13⟩ := id C
  go_wp2_with fail
  refine (cq _ (T4)).mono ?_
  rintro e w5 ⟨rfl, hb⟩
  replace C := (C).kept hb
  have T5 := (T4).kept hb
  replace B1 := bthen B1 hb
  clear hb z0 C_0 C_1 C_2 C_3 C_4 C_5 C_6 C_7 C_8 C_9 C_10 C_11 C_12 C_13 T4
  obtain ⟨z0, C_0, C_1, C_2, C_3, C_4, C_5, C_6, C_7, C_8, C_9, C_10, C_11, C_12, C_13⟩ := id C
  go_wp2_with fail
  refine (cx _ (T5)).mono ?_
  rintro e w6 ⟨rfl, hb⟩
  replace C := (C).kept hb
  have T6 := (T5).kept hb
  replace B1 := bthen B1 hb
  clear hb z0 C_0 C_1 C_2 C_3 C_4 C_5 C_6 C_7 C_8 C_9 C_10 C_11 C_12 C_13 T5
  obtain ⟨z0, C_0, C_1, C_2, C_3, C_4, C_5, C_6, C_7, C_8, C_9, C_10, C_11, C_12, C_13⟩ := id C
  go_wp2_with fail
  refine (cy _ (T6)).mono ?_
  rintro e w7 ⟨rfl, hb⟩
  replace C := (C).kept hb
  have T7 := (T6).kept hb
  replace B1 := bthen B1 hb
  clear hb z0 C_0 C_1 C_2 C_3 C_4 C_5 C_6 C_7 C_8 C_9 C_10 C_11 C_12 C_13 T6
  obtain ⟨z0, C_0, C_1, C_2, C_3, C_4, C_5, C_6, C_7, C_8, C_9, C_10, C_11, C_12, C_13⟩ := id C
  go_wp2
  go_ret
  exact ⟨by simp <;> omega, B1⟩

set_option maxRecDepth 100000 in
theorem jedges_walk (c : CalZ) (y : Int) (w : World) (wf : CalWf c) (wy : (Lit.int .i64 y).wf = true) (tb : FTab w) :
    Calls Tryd.prog 12 #[.agg #[.string c.nm, .int .i64 c.k, .int .i64 c.d, .int .i64 c.m, .int .i64 c.s, .int .i64 c.sh, .int .i64 c.p0, .int .i64 c.p1, .int .i64 c.p2, .int .i64 c.cy, .int .i64 c.ex, .int .i64 c.fi, .int .i64 c.la, .int .i64 c.po], .int .i64 y] w fun e w' => e = .returned (.bool true) ∧ Below w.heap.size w w' := by
  have hm := wf.1
  clear wy
  by_cases hl : 100 < c.nm.size
  · have dl : decide ((100 : Int) < (c.nm.size : Int)) = true := decide_eq_true (by omega)
    clear hl
    go_enter Tryd.func12, Tryd.ntmps12
    go_wp2_with fail
    refine (jlive_ok _ ((tb).alloc (.cells #[.string c.nm, .int .i64 c.k, .int .i64 c.d, .int .i64 c.m, .int .i64 c.s, .int .i64 c.sh, .int .i64 c.p0, .int .i64 c.p1, .int .i64 c.p2, .int .i64 c.cy, .int .i64 c.ex, .int .i64 c.fi, .int .i64 c.la, .int .i64 c.po] 24))).mono ?_
    rintro e w1 ⟨rfl, hb⟩
    have C := (CalIn.new w c 24).kept hb
    have T1 := ((tb).alloc (.cells #[.string c.nm, .int .i64 c.k, .int .i64 c.d, .int .i64 c.m, .int .i64 c.s, .int .i64 c.sh, .int .i64 c.p0, .int .i64 c.p1, .int .i64 c.p2, .int .i64 c.cy, .int .i64 c.ex, .int .i64 c.fi, .int .i64 c.la, .int .i64 c.po] 24)).kept hb
    have B1 := bthen (balloc (Below.refl _ w) (.cells #[.string c.nm, .int .i64 c.k, .int .i64 c.d, .int .i64 c.m, .int .i64 c.s, .int .i64 c.sh, .int .i64 c.p0, .int .i64 c.p1, .int .i64 c.p2, .int .i64 c.cy, .int .i64 c.ex, .int .i64 c.fi, .int .i64 c.la, .int .i64 c.po] 24)) hb
    try simp only [World.size_alloc] at C
    clear hb
    obtain ⟨z0, C_0, C_1, C_2, C_3, C_4, C_5, C_6, C_7, C_8, C_9, C_10, C_11, C_12, C_13⟩ := id C
    go_wp2
    go_ret
    exact ⟨by simp, B1⟩
  · have dl : decide ((100 : Int) < (c.nm.size : Int)) = false := decide_eq_false (by omega)
    clear hl
    by_cases hk : CalOk c ∧ 1601 ≤ y ∧ y ≤ 9997
    · obtain ⟨ok, y0, y1⟩ := hk
      obtain ⟨a, ha⟩ : ∃ a, a = yend c (y - 1) := ⟨_, rfl⟩
      obtain ⟨b, hb'⟩ : ∃ b, b = yend c y := ⟨_, rfl⟩
      have bd := yend_bd ok.1 (y := y - 1) (by omega) (by omega)
      have bz := yend_bd ok.1 (y := y) (by omega) y1
      have s := yend_step ok.1 (y := y - 1) (by omega) (by omega)
      rw [show y - 1 + 1 = y by omega] at s
      have cs := fun w T => Start_any c y (a + 1) 0 w (.inl ⟨ok, y0, y1, by rw [ha], rfl⟩) hm T
      have ce := fun w T => End_any c y b 0 w (.inl ⟨ok, by omega, y1, hb', rfl⟩) hm T
      have cp := fun w T => Of_any c (a + 1) y 0 w (.inl ⟨ok, by omega, by omega, y0, y1, by omega, by omega, rfl⟩) hm T
      have cq := fun w T => Of_any c b y 0 w (.inl ⟨ok, by omega, by omega, y0, y1, by omega, by omega, rfl⟩) hm T
      have P := prev_year ok y0 y1
      have Q := next_year (n := b) ok (by omega) y0 y1 (by omega) (by omega)
      rw [← ha] at bd P
      rw [← hb'] at bz Q
      obtain ⟨a0, a1⟩ := bd
      obtain ⟨b0, b1⟩ := bz
      have P2 : ∃ s1 i, OfA c a s1 i ∧ ((1601 < y ∧ i = 0 ∧ s1 = y - 1) ∨ (y = 1601 ∧ i ≠ 0)) := by
        rcases P with ⟨h, R⟩ | ⟨h, e, h2, R⟩
        · exact ⟨_, _, R, .inl ⟨h, rfl, rfl⟩⟩
        · exact ⟨_, _, R, .inr ⟨h, h2⟩⟩
      have Q2 : ∃ t1 j, OfA c (b + 1) t1 j ∧ ((y < 9997 ∧ j = 0 ∧ t1 = y + 1) ∨ (y = 9997 ∧ j ≠ 0)) := by
        rcases Q with ⟨h, R⟩ | ⟨_, h, R⟩ | ⟨_, h, e, h2, R⟩
        · omega
        · exact ⟨_, _, R, .inl ⟨h, rfl, rfl⟩⟩
        · exact ⟨_, _, R, .inr ⟨h, h2⟩⟩
      obtain ⟨s1, i, R1, O1⟩ := P2
      obtain ⟨t1, j, R2, O2⟩ := Q2
      have cx := fun w T => Of_any c a s1 i w R1 hm T
      have cy := fun w T => Of_any c (b + 1) t1 j w R2 hm T
      clear ha hb' ok P Q R1 R2 s
      rcases O1 with ⟨h1, rfl, rfl⟩ | ⟨rfl, h1⟩
      · rcases O2 with ⟨h2, rfl, rfl⟩ | ⟨rfl, h2⟩
        · exact jedges_mid c y a b w a0 a1 b1 b0 h1 h2 dl cs ce cp cq cx cy tb
        · exact jedges_end c a b t1 j w a0 a1 b1 b0 h2 dl cs ce cp cq cx cy tb
      · rcases O2 with ⟨h2, rfl, rfl⟩ | ⟨h2, _⟩
        · exact jedges_first c a b s1 i w a0 a1 b1 b0 h1 dl cs ce cp cq cx cy tb
        · omega
    · obtain ⟨er, cs, he⟩ : ∃ er : Int, (∀ w, FTab w → Calls Tryd.prog 18 #[.agg #[.string c.nm, .int .i64 c.k, .int .i64 c.d, .int .i64 c.m, .int .i64 c.s, .int .i64 c.sh, .int .i64 c.p0, .int .i64 c.p1, .int .i64 c.p2, .int .i64 c.cy, .int .i64 c.ex, .int .i64 c.fi, .int .i64 c.la, .int .i64 c.po], .int .i64 y] w fun e w' => e = .returned (.tuple #[.int .i64 0, .int .i64 er]) ∧ Below w.heap.size w w') ∧ er ≠ 0 := by
        by_cases h1 : CalOk c
        · exact ⟨11, fun w T => Start_any c y 0 11 w (.inr (.inl ⟨h1, fun k => hk ⟨h1, k.1, k.2⟩, rfl, rfl⟩)) hm T, by decide⟩
        · exact ⟨1, fun w T => Start_any c y 0 1 w (.inr (.inr ⟨h1, rfl, rfl⟩)) hm T, by decide⟩
      obtain ⟨b, e2, R2⟩ := enda_ex c y
      have ce := fun w T => End_any c y b e2 w R2 hm T
      have k0 : (er != 0) = true := bne_iff_ne.2 he
      clear hk hm R2 he
      go_enter Tryd.func12, Tryd.ntmps12
      go_wp2_with fail
      refine (jlive_ok _ ((tb).alloc (.cells #[.string c.nm, .int .i64 c.k, .int .i64 c.d, .int .i64 c.m, .int .i64 c.s, .int .i64 c.sh, .int .i64 c.p0, .int .i64 c.p1, .int .i64 c.p2, .int .i64 c.cy, .int .i64 c.ex, .int .i64 c.fi, .int .i64 c.la, .int .i64 c.po] 24))).mono ?_
      rintro e w1 ⟨rfl, hb⟩
      have C := (CalIn.new w c 24).kept hb
      have T1 := ((tb).alloc (.cells #[.string c.nm, .int .i64 c.k, .int .i64 c.d, .int .i64 c.m, .int .i64 c.s, .int .i64 c.sh, .int .i64 c.p0, .int .i64 c.p1, .int .i64 c.p2, .int .i64 c.cy, .int .i64 c.ex, .int .i64 c.fi, .int .i64 c.la, .int .i64 c.po] 24)).kept hb
      have B1 := bthen (balloc (Below.refl _ w) (.cells #[.string c.nm, .int .i64 c.k, .int .i64 c.d, .int .i64 c.m, .int .i64 c.s, .int .i64 c.sh, .int .i64 c.p0, .int .i64 c.p1, .int .i64 c.p2, .int .i64 c.cy, .int .i64 c.ex, .int .i64 c.fi, .int .i64 c.la, .int .i64 c.po] 24)) hb
      try simp only [World.size_alloc] at C
      clear hb
      obtain ⟨z0, C_0, C_1, C_2, C_3, C_4, C_5, C_6, C_7, C_8, C_9, C_10, C_11, C_12, C_13⟩ := id C
      go_wp2_with fail
      refine (cs _ (T1)).mono ?_
      rintro e w2 ⟨rfl, hb⟩
      replace C := (C).kept hb
      have T2 := (T1).kept hb
      replace B1 := bthen B1 hb
      clear hb z0 C_0 C_1 C_2 C_3 C_4 C_5 C_6 C_7 C_8 C_9 C_10 C_11 C_12 C_13 T1
      obtain ⟨z0, C_0, C_1, C_2, C_3, C_4, C_5, C_6, C_7, C_8, C_9, C_10, C_11, C_12, C_13⟩ := id C
      go_wp2_with fail
      refine (ce _ (T2)).mono ?_
      rintro e w3 ⟨rfl, hb⟩
      replace C := (C).kept hb
      have T3 := (T2).kept hb
      replace B1 := bthen B1 hb
      clear hb z0 C_0 C_1 C_2 C_3 C_4 C_5 C_6 C_7 C_8 C_9 C_10 C_11 C_12 C_13 T2
      obtain ⟨z0, C_0, C_1, C_2, C_3, C_4, C_5, C_6, C_7, C_8, C_9, C_10, C_11, C_12, C_13⟩ := id C
      go_wp2
      go_ret
      exact ⟨by simp, B1⟩

end Go.Proofs.YtkpjkdeomoecjaaDoor.Jl
