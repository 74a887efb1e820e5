/- YearIn's walk. -/
import Derived.Test.YtkpjkdeomoecjaaDoorJlive
import Derived.Test.YtkpjkdeomoecjaaDoorJlaw
namespace Go.Proofs.YtkpjkdeomoecjaaDoor.Jl
set_option linter.unusedSimpArgs false
set_option linter.unusedVariables false
open Go.RowKit Go.Proofs.YtkpjkdeomoecjaaDoor.Bn Go.Proofs.YtkpjkdeomoecjaaDoor.Am Go.Proofs.YtkpjkdeomoecjaaDoor.Fp Go.Proofs.YtkpjkdeomoecjaaDoor.Ap Go.Proofs.YtkpjkdeomoecjaaDoor.Cm Go.Proofs.YtkpjkdeomoecjaaDoor.Em Go.Proofs.YtkpjkdeomoecjaaDoor.Ep Go.Proofs.YtkpjkdeomoecjaaDoor.Bx Go.Proofs.YtkpjkdeomoecjaaDoor.Pr Go.Proofs.YtkpjkdeomoecjaaDoor.Jp

open Go.Proofs.YtkpjkdeomoecjaaDoor.Cp (Tab Day_any Length_any Weekday_any)

set_option maxHeartbeats 1000000

set_option maxHeartbeats 8000000 in
set_option maxRecDepth 100000 in
theorem jin_b1 (c : CalZ) (n y z a' b' s b e1 e2 : Int) (w : World) (n0 : 0 ≤ n) (n1 : n ≤ 3068036) (a0 : 0 ≤ a') (a1 : a' ≤ 3068036) (za : a' < n) (zb : n ≤ b') (k1 : (e1 != 0) = true) (dl : decide ((100 : Int) < (c.nm.size : Int)) = false)
    (co : ∀ w, FTab w → Calls Tryd.prog 33 #[.agg #[.string c.nm, .int .i64 c.k, .int .i64 c.d, .int .i64 c.m, .int .i64 c.s, .int .i64 c.sh, .int .i64 c.p0, .int .i64 c.p1, .int .i64 c.p2, .int .i64 c.cy, .int .i64 c.ex, .int .i64 c.fi, .int .i64 c.la, .int .i64 c.po], .int .i64 n] w fun e w' => e = .returned (.tuple #[.int .i64 z, .int .i64 0]) ∧ Below w.heap.size w w')
    (cs' : ∀ w, FTab w → Calls Tryd.prog 18 #[.agg #[.string c.nm, .int .i64 c.k, .int .i64 c.d, .int .i64 c.m, .int .i64 c.s, .int .i64 c.sh, .int .i64 c.p0, .int .i64 c.p1, .int .i64 c.p2, .int .i64 c.cy, .int .i64 c.ex, .int .i64 c.fi, .int .i64 c.la, .int .i64 c.po], .int .i64 z] w fun e w' => e = .returned (.tuple #[.int .i64 (a' + 1), .int .i64 0]) ∧ Below w.heap.size w w')
    (ce' : ∀ w, FTab w → Calls Tryd.prog 16 #[.agg #[.string c.nm, .int .i64 c.k, .int .i64 c.d, .int .i64 c.m, .int .i64 c.s, .int .i64 c.sh, .int .i64 c.p0, .int .i64 c.p1, .int .i64 c.p2, .int .i64 c.cy, .int .i64 c.ex, .int .i64 c.fi, .int .i64 c.la, .int .i64 c.po], .int .i64 z] w fun e w' => e = .returned (.tuple #[.int .i64 b', .int .i64 0]) ∧ Below w.heap.size w w')
    (cn : ∀ w, FTab w → Calls Tryd.prog 35 #[.agg #[.string c.nm, .int .i64 c.k, .int .i64 c.d, .int .i64 c.m, .int .i64 c.s, .int .i64 c.sh, .int .i64 c.p0, .int .i64 c.p1, .int .i64 c.p2, .int .i64 c.cy, .int .i64 c.ex, .int .i64 c.fi, .int .i64 c.la, .int .i64 c.po], .int .i64 n] w fun e w' => e = .returned (.tuple #[.int .i64 (n - a'), .int .i64 0]) ∧ Below w.heap.size w w')
    (cs : ∀ w, FTab w → Calls Tryd.prog 18 #[.agg #[.string c.nm, .int .i64 c.k, .int .i64 c.d, .int .i64 c.m, .int .i64 c.s, .int .i64 c.sh, .int .i64 c.p0, .int .i64 c.p1, .int .i64 c.p2, .int .i64 c.cy, .int .i64 c.ex, .int .i64 c.fi, .int .i64 c.la, .int .i64 c.po], .int .i64 y] w fun e w' => e = .returned (.tuple #[.int .i64 s, .int .i64 e1]) ∧ Below w.heap.size w w')
    (ce : ∀ w, FTab w → Calls Tryd.prog 16 #[.agg #[.string c.nm, .int .i64 c.k, .int .i64 c.d, .int .i64 c.m, .int .i64 c.s, .int .i64 c.sh, .int .i64 c.p0, .int .i64 c.p1, .int .i64 c.p2, .int .i64 c.cy, .int .i64 c.ex, .int .i64 c.fi, .int .i64 c.la, .int .i64 c.po], .int .i64 y] w fun e w' => e = .returned (.tuple #[.int .i64 b, .int .i64 e2]) ∧ Below w.heap.size w w')
    (tb : FTab w) :
    Calls Tryd.prog 10 #[.agg #[.string c.nm, .int .i64 c.k, .int .i64 c.d, .int .i64 c.m, .int .i64 c.s, .int .i64 c.sh, .int .i64 c.p0, .int .i64 c.p1, .int .i64 c.p2, .int .i64 c.cy, .int .i64 c.ex, .int .i64 c.fi, .int .i64 c.la, .int .i64 c.po], .int .i64 n, .int .i64 y] w fun e w' => e = .returned (.bool true) ∧ Below w.heap.size w w' := by
  have en : n - (a' + 1) + 1 = n - a' := by omega
  go_enter Tryd.func10, Tryd.ntmps10
  go_wp2_with fail
  refine (jlive_ok _ ((tb).alloc (.cells #[.string c.nm, .int .i64 c.k, .int .i64 c.d, .int .i64 c.m, .int .i64 c.s, .int .i64 c.sh, .int .i64 c.p0, .int .i64 c.p1, .int .i64 c.p2, .int .i64 c.cy, .int .i64 c.ex, .int .i64 c.fi, .int .i64 c.la, .int .i64 c.po] 24))).mono ?_
  rintro e w1 ⟨rfl, hb⟩
  have C := (CalIn.new w c 24).kept hb
  have T1 := ((tb).alloc (.cells #[.string c.nm, .int .i64 c.k, .int .i64 c.d, .int .i64 c.m, .int .i64 c.s, .int .i64 c.sh, .int .i64 c.p0, .int .i64 c.p1, .int .i64 c.p2, .int .i64 c.cy, .int .i64 c.ex, .int .i64 c.fi, .int .i64 c.la, .int .i64 c.po] 24)).kept hb
  have B1 := bthen (balloc (Below.refl _ w) (.cells #[.string c.nm, .int .i64 c.k, .int .i64 c.d, .int .i64 c.m, .int .i64 c.s, .int .i64 c.sh, .int .i64 c.p0, .int .i64 c.p1, .int .i64 c.p2, .int .i64 c.cy, .int .i64 c.ex, .int .i64 c.fi, .int .i64 c.la, .int .i64 c.po] 24)) hb
  try simp only [World.size_alloc] at C
  clear hb
  obtain ⟨z0, C_0, C_1, C_2, C_3, C_4, C_5, C_6, C_7, C_8, C_9, C_10, C_11, C_12, C_13⟩ := id C
  go_wp2_with fail
  refine (co _ (T1)).mono ?_
  rintro e w2 ⟨rfl, hb⟩
  replace C := (C).kept hb
  have T2 := (T1).kept hb
  replace B1 := bthen B1 hb
  clear hb z0 C_0 C_1 C_2 C_3 C_4 C_5 C_6 C_7 C_8 C_9 C_10 C_11 C_12 C_13 T1
  obtain ⟨z0, C_0, C_1, C_2, C_3, C_4, C_5, C_6, C_7, C_8, C_9, C_10, C_11, C_12, C_13⟩ := id C
  go_wp2_with fail
  refine (cs' _ (T2)).mono ?_
  rintro e w3 ⟨rfl, hb⟩
  replace C := (C).kept hb
  have T3 := (T2).kept hb
  replace B1 := bthen B1 hb
  clear hb z0 C_0 C_1 C_2 C_3 C_4 C_5 C_6 C_7 C_8 C_9 C_10 C_11 C_12 C_13 T2
  obtain ⟨z0, C_0, C_1, C_2, C_3, C_4, C_5, C_6, C_7, C_8, C_9, C_10, C_11, C_12, C_13⟩ := id C
  go_wp2_with fail
  refine (ce' _ (T3)).mono ?_
  rintro e w4 ⟨rfl, hb⟩
  replace C := (C).kept hb
  have T4 := (T3).kept hb
  replace B1 := bthen B1 hb
  clear hb z0 C_0 C_1 C_2 C_3 C_4 C_5 C_6 C_7 C_8 C_9 C_10 C_11 C_12 C_13 T3
  obtain ⟨z0, C_0, C_1, C_2, C_3, C_4, C_5, C_6, C_7, C_8, C_9, C_10, C_11, C_12, C_13⟩ := id C
  go_wp2_with fail
  refine (cn _ (T4)).mono ?_
  rintro e w5 ⟨rfl, hb⟩
  replace C := (C).kept hb
  have T5 := (T4).kept hb
  replace B1 := bthen B1 hb
  clear hb z0 C_0 C_1 C_2 C_3 C_4 C_5 C_6 C_7 C_8 C_9 C_10 C_11 C_12 C_13 T4
  obtain ⟨z0, C_0, C_1, C_2, C_3, C_4, C_5, C_6, C_7, C_8, C_9, C_10, C_11, C_12, C_13⟩ := id C
  go_wp2_with fail
  refine (cs _ (T5)).mono ?_
  rintro e w6 ⟨rfl, hb⟩
  replace C := (C).kept hb
  have T6 := (T5).kept hb
  replace B1 := bthen B1 hb
  clear hb z0 C_0 C_1 C_2 C_3 C_4 C_5 C_6 C_7 C_8 C_9 C_10 C_11 C_12 C_13 T5
  obtain ⟨z0, C_0, C_1, C_2, C_3, C_4, C_5, C_6, C_7, C_8, C_9, C_10, C_11, C_12, C_13⟩ := id C
  go_wp2_with fail
  refine (ce _ (T6)).mono ?_
  rintro e w7 ⟨rfl, hb⟩
  replace C := (C).kept hb
  have T7 := (T6).kept hb
  replace B1 := bthen B1 hb
  clear hb z0 C_0 C_1 C_2 C_3 C_4 C_5 C_6 C_7 C_8 C_9 C_10 C_11 C_12 C_13 T6
  obtain ⟨z0, C_0, C_1, C_2, C_3, C_4, C_5, C_6, C_7, C_8, C_9, C_10, C_11, C_12, C_13⟩ := id C
  go_wp2
  go_ret
  exact ⟨by simp <;> omega, B1⟩

set_option maxHeartbeats 8000000 in
set_option maxRecDepth 100000 in
theorem jin_b2 (c : CalZ) (n y z a' b' s b : Int) (w : World) (n0 : 0 ≤ n) (n1 : n ≤ 3068036) (a0 : 0 ≤ a') (a1 : a' ≤ 3068036) (za : a' < n) (zb : n ≤ b') (d2 : n < s) (dl : decide ((100 : Int) < (c.nm.size : Int)) = false)
    (co : ∀ w, FTab w → Calls Tryd.prog 33 #[.agg #[.string c.nm, .int .i64 c.k, .int .i64 c.d, .int .i64 c.m, .int .i64 c.s, .int .i64 c.sh, .int .i64 c.p0, .int .i64 c.p1, .int .i64 c.p2, .int .i64 c.cy, .int .i64 c.ex, .int .i64 c.fi, .int .i64 c.la, .int .i64 c.po], .int .i64 n] w fun e w' => e = .returned (.tuple #[.int .i64 z, .int .i64 0]) ∧ Below w.heap.size w w')
    (cs' : ∀ w, FTab w → Calls Tryd.prog 18 #[.agg #[.string c.nm, .int .i64 c.k, .int .i64 c.d, .int .i64 c.m, .int .i64 c.s, .int .i64 c.sh, .int .i64 c.p0, .int .i64 c.p1, .int .i64 c.p2, .int .i64 c.cy, .int .i64 c.ex, .int .i64 c.fi, .int .i64 c.la, .int .i64 c.po], .int .i64 z] w fun e w' => e = .returned (.tuple #[.int .i64 (a' + 1), .int .i64 0]) ∧ Below w.heap.size w w')
    (ce' : ∀ w, FTab w → Calls Tryd.prog 16 #[.agg #[.string c.nm, .int .i64 c.k, .int .i64 c.d, .int .i64 c.m, .int .i64 c.s, .int .i64 c.sh, .int .i64 c.p0, .int .i64 c.p1, .int .i64 c.p2, .int .i64 c.cy, .int .i64 c.ex, .int .i64 c.fi, .int .i64 c.la, .int .i64 c.po], .int .i64 z] w fun e w' => e = .returned (.tuple #[.int .i64 b', .int .i64 0]) ∧ Below w.heap.size w w')
    (cn : ∀ w, FTab w → Calls Tryd.prog 35 #[.agg #[.string c.nm, .int .i64 c.k, .int .i64 c.d, .int .i64 c.m, .int .i64 c.s, .int .i64 c.sh, .int .i64 c.p0, .int .i64 c.p1, .int .i64 c.p2, .int .i64 c.cy, .int .i64 c.ex, .int .i64 c.fi, .int .i64 c.la, .int .i64 c.po], .int .i64 n] w fun e w' => e = .returned (.tuple #[.int .i64 (n - a'), .int .i64 0]) ∧ Below w.heap.size w w')
    (cs : ∀ w, FTab w → Calls Tryd.prog 18 #[.agg #[.string c.nm, .int .i64 c.k, .int .i64 c.d, .int .i64 c.m, .int .i64 c.s, .int .i64 c.sh, .int .i64 c.p0, .int .i64 c.p1, .int .i64 c.p2, .int .i64 c.cy, .int .i64 c.ex, .int .i64 c.fi, .int .i64 c.la, .int .i64 c.po], .int .i64 y] w fun e w' => e = .returned (.tuple #[.int .i64 s, .int .i64 0]) ∧ Below w.heap.size w w')
    (ce : ∀ w, FTab w → Calls Tryd.prog 16 #[.agg #[.string c.nm, .int .i64 c.k, .int .i64 c.d, .int .i64 c.m, .int .i64 c.s, .int .i64 c.sh, .int .i64 c.p0, .int .i64 c.p1, .int .i64 c.p2, .int .i64 c.cy, .int .i64 c.ex, .int .i64 c.fi, .int .i64 c.la, .int .i64 c.po], .int .i64 y] w fun e w' => e = .returned (.tuple #[.int .i64 b, .int .i64 0]) ∧ Below w.heap.size w w')
    (tb : FTab w) :
    Calls Tryd.prog 10 #[.agg #[.string c.nm, .int .i64 c.k, .int .i64 c.d, .int .i64 c.m, .int .i64 c.s, .int .i64 c.sh, .int .i64 c.p0, .int .i64 c.p1, .int .i64 c.p2, .int .i64 c.cy, .int .i64 c.ex, .int .i64 c.fi, .int .i64 c.la, .int .i64 c.po], .int .i64 n, .int .i64 y] w fun e w' => e = .returned (.bool true) ∧ Below w.heap.size w w' := by
  have en : n - (a' + 1) + 1 = n - a' := by omega
  go_enter Tryd.func10, Tryd.ntmps10
  go_wp2_with fail
  refine (jlive_ok _ ((tb).alloc (.cells #[.string c.nm, .int .i64 c.k, .int .i64 c.d, .int .i64 c.m, .int .i64 c.s, .int .i64 c.sh, .int .i64 c.p0, .int .i64 c.p1, .int .i64 c.p2, .int .i64 c.cy, .int .i64 c.ex, .int .i64 c.fi, .int .i64 c.la, .int .i64 c.po] 24))).mono ?_
  rintro e w1 ⟨rfl, hb⟩
  have C := (CalIn.new w c 24).kept hb
  have T1 := ((tb).alloc (.cells #[.string c.nm, .int .i64 c.k, .int .i64 c.d, .int .i64 c.m, .int .i64 c.s, .int .i64 c.sh, .int .i64 c.p0, .int .i64 c.p1, .int .i64 c.p2, .int .i64 c.cy, .int .i64 c.ex, .int .i64 c.fi, .int .i64 c.la, .int .i64 c.po] 24)).kept hb
  have B1 := bthen (balloc (Below.refl _ w) (.cells #[.string c.nm, .int .i64 c.k, .int .i64 c.d, .int .i64 c.m, .int .i64 c.s, .int .i64 c.sh, .int .i64 c.p0, .int .i64 c.p1, .int .i64 c.p2, .int .i64 c.cy, .int .i64 c.ex, .int .i64 c.fi, .int .i64 c.la, .int .i64 c.po] 24)) hb
  try simp only [World.size_alloc] at C
  clear hb
  obtain ⟨z0, C_0, C_1, C_2, C_3, C_4, C_5, C_6, C_7, C_8, C_9, C_10, C_11, C_12, C_13⟩ := id C
  go_wp2_with fail
  refine (co _ (T1)).mono ?_
  rintro e w2 ⟨rfl, hb⟩
  replace C := (C).kept hb
  have T2 := (T1).kept hb
  replace B1 := bthen B1 hb
  clear hb z0 C_0 C_1 C_2 C_3 C_4 C_5 C_6 C_7 C_8 C_9 C_10 C_11 C_12 C_13 T1
  obtain ⟨z0, C_0, C_1, C_2, C_3, C_4, C_5, C_6, C_7, C_8, C_9, C_10, C_11, C_12, C_13⟩ := id C
  go_wp2_with fail
  refine (cs' _ (T2)).mono ?_
  rintro e w3 ⟨rfl, hb⟩
  replace C := (C).kept hb
  have T3 := (T2).kept hb
  replace B1 := bthen B1 hb
  clear hb z0 C_0 C_1 C_2 C_3 C_4 C_5 C_6 C_7 C_8 C_9 C_10 C_11 C_12 C_13 T2
  obtain ⟨z0, C_0, C_1, C_2, C_3, C_4, C_5, C_6, C_7, C_8, C_9, C_10, C_11, C_12, C_13⟩ := id C
  go_wp2_with fail
  refine (ce' _ (T3)).mono ?_
  rintro e w4 ⟨rfl, hb⟩
  replace C := (C).kept hb
  have T4 := (T3).kept hb
  replace B1 := bthen B1 hb
  clear hb z0 C_0 C_1 C_2 C_3 C_4 C_5 C_6 C_7 C_8 C_9 C_10 C_11 C_12 C_13 T3
  obtain ⟨z0, C_0, C_1, C_2, C_3, C_4, C_5, C_6, C_7, C_8, C_9, C_10, C_11, C_12, C_13⟩ := id C
  go_wp2_with fail
  refine (cn _ (T4)).mono ?_
  rintro e w5 ⟨rfl, hb⟩
  replace C := (C).kept hb
  have T5 := (T4).kept hb
  replace B1 := bthen B1 hb
  clear hb z0 C_0 C_1 C_2 C_3 C_4 C_5 C_6 C_7 C_8 C_9 C_10 C_11 C_12 C_13 T4
  obtain ⟨z0, C_0, C_1, C_2, C_3, C_4, C_5, C_6, C_7, C_8, C_9, C_10, C_11, C_12, C_13⟩ := id C
  go_wp2_with fail
  refine (cs _ (T5)).mono ?_
  rintro e w6 ⟨rfl, hb⟩
  replace C := (C).kept hb
  have T6 := (T5).kept hb
  replace B1 := bthen B1 hb
  clear hb z0 C_0 C_1 C_2 C_3 C_4 C_5 C_6 C_7 C_8 C_9 C_10 C_11 C_12 C_13 T5
  obtain ⟨z0, C_0, C_1, C_2, C_3, C_4, C_5, C_6, C_7, C_8, C_9, C_10, C_11, C_12, C_13⟩ := id C
  go_wp2_with fail
  refine (ce _ (T6)).mono ?_
  rintro e w7 ⟨rfl, hb⟩
  replace C := (C).kept hb
  have T7 := (T6).kept hb
  replace B1 := bthen B1 hb
  clear hb z0 C_0 C_1 C_2 C_3 C_4 C_5 C_6 C_7 C_8 C_9 C_10 C_11 C_12 C_13 T6
  obtain ⟨z0, C_0, C_1, C_2, C_3, C_4, C_5, C_6, C_7, C_8, C_9, C_10, C_11, C_12, C_13⟩ := id C
  go_wp2
  go_ret
  exact ⟨by simp <;> omega, B1⟩

set_option maxHeartbeats 8000000 in
set_option maxRecDepth 100000 in
theorem jin_b3 (c : CalZ) (n y z a' b' s b : Int) (w : World) (n0 : 0 ≤ n) (n1 : n ≤ 3068036) (a0 : 0 ≤ a') (a1 : a' ≤ 3068036) (za : a' < n) (zb : n ≤ b') (d2 : s ≤ n) (d3 : b < n) (dl : decide ((100 : Int) < (c.nm.size : Int)) = false)
    (co : ∀ w, FTab w → Calls Tryd.prog 33 #[.agg #[.string c.nm, .int .i64 c.k, .int .i64 c.d, .int .i64 c.m, .int .i64 c.s, .int .i64 c.sh, .int .i64 c.p0, .int .i64 c.p1, .int .i64 c.p2, .int .i64 c.cy, .int .i64 c.ex, .int .i64 c.fi, .int .i64 c.la, .int .i64 c.po], .int .i64 n] w fun e w' => e = .returned (.tuple #[.int .i64 z, .int .i64 0]) ∧ Below w.heap.size w w')
    (cs' : ∀ w, FTab w → Calls Tryd.prog 18 #[.agg #[.string c.nm, .int .i64 c.k, .int .i64 c.d, .int .i64 c.m, .int .i64 c.s, .int .i64 c.sh, .int .i64 c.p0, .int .i64 c.p1, .int .i64 c.p2, .int .i64 c.cy, .int .i64 c.ex, .int .i64 c.fi, .int .i64 c.la, .int .i64 c.po], .int .i64 z] w fun e w' => e = .returned (.tuple #[.int .i64 (a' + 1), .int .i64 0]) ∧ Below w.heap.size w w')
    (ce' : ∀ w, FTab w → Calls Tryd.prog 16 #[.agg #[.string c.nm, .int .i64 c.k, .int .i64 c.d, .int .i64 c.m, .int .i64 c.s, .int .i64 c.sh, .int .i64 c.p0, .int .i64 c.p1, .int .i64 c.p2, .int .i64 c.cy, .int .i64 c.ex, .int .i64 c.fi, .int .i64 c.la, .int .i64 c.po], .int .i64 z] w fun e w' => e = .returned (.tuple #[.int .i64 b', .int .i64 0]) ∧ Below w.heap.size w w')
    (cn : ∀ w, FTab w → Calls Tryd.prog 35 #[.agg #[.string c.nm, .int .i64 c.k, .int .i64 c.d, .int .i64 c.m, .int .i64 c.s, .int .i64 c.sh, .int .i64 c.p0, .int .i64 c.p1, .int .i64 c.p2, .int .i64 c.cy, .int .i64 c.ex, .int .i64 c.fi, .int .i64 c.la, .int .i64 c.po], .int .i64 n] w fun e w' => e = .returned (.tuple #[.int .i64 (n - a'), .int .i64 0]) ∧ Below w.heap.size w w')
    (cs : ∀ w, FTab w → Calls Tryd.prog 18 #[.agg #[.string c.nm, .int .i64 c.k, .int .i64 c.d, .int .i64 c.m, .int .i64 c.s, .int .i64 c.sh, .int .i64 c.p0, .int .i64 c.p1, .int .i64 c.p2, .int .i64 c.cy, .int .i64 c.ex, .int .i64 c.fi, .int .i64 c.la, .int .i64 c.po], .int .i64 y] w fun e w' => e = .returned (.tuple #[.int .i64 s, .int .i64 0]) ∧ Below w.heap.size w w')
    (ce : ∀ w, FTab w → Calls Tryd.prog 16 #[.agg #[.string c.nm, .int .i64 c.k, .int .i64 c.d, .int .i64 c.m, .int .i64 c.s, .int .i64 c.sh, .int .i64 c.p0, .int .i64 c.p1, .int .i64 c.p2, .int .i64 c.cy, .int .i64 c.ex, .int .i64 c.fi, .int .i64 c.la, .int .i64 c.po], .int .i64 y] w fun e w' => e = .returned (.tuple #[.int .i64 b, .int .i64 0]) ∧ Below w.heap.size w w')
    (tb : FTab w) :
    Calls Tryd.prog 10 #[.agg #[.string c.nm, .int .i64 c.k, .int .i64 c.d, .int .i64 c.m, .int .i64 c.s, .int .i64 c.sh, .int .i64 c.p0, .int .i64 c.p1, .int .i64 c.p2, .int .i64 c.cy, .int .i64 c.ex, .int .i64 c.fi, .int .i64 c.la, .int .i64 c.po], .int .i64 n, .int .i64 y] w fun e w' => e = .returned (.bool true) ∧ Below w.heap.size w w' := by
  have en : n - (a' + 1) + 1 = n - a' := by omega
  go_enter Tryd.func10, Tryd.ntmps10
  go_wp2_with fail
  refine (jlive_ok _ ((tb).alloc (.cells #[.string c.nm, .int .i64 c.k, .int .i64 c.d, .int .i64 c.m, .int .i64 c.s, .int .i64 c.sh, .int .i64 c.p0, .int .i64 c.p1, .int .i64 c.p2, .int .i64 c.cy, .int .i64 c.ex, .int .i64 c.fi, .int .i64 c.la, .int .i64 c.po] 24))).mono ?_
  rintro e w1 ⟨rfl, hb⟩
  have C := (CalIn.new w c 24).kept hb
  have T1 := ((tb).alloc (.cells #[.string c.nm, .int .i64 c.k, .int .i64 c.d, .int .i64 c.m, .int .i64 c.s, .int .i64 c.sh, .int .i64 c.p0, .int .i64 c.p1, .int .i64 c.p2, .int .i64 c.cy, .int .i64 c.ex, .int .i64 c.fi, .int .i64 c.la, .int .i64 c.po] 24)).kept hb
  have B1 := bthen (balloc (Below.refl _ w) (.cells #[.string c.nm, .int .i64 c.k, .int .i64 c.d, .int .i64 c.m, .int .i64 c.s, .int .i64 c.sh, .int .i64 c.p0, .int .i64 c.p1, .int .i64 c.p2, .int .i64 c.cy, .int .i64 c.ex, .int .i64 c.fi, .int .i64 c.la, .int .i64 c.po] 24)) hb
  try simp only [World.size_alloc] at C
  clear hb
  obtain ⟨z0, C_0, C_1, C_2, C_3, C_4, C_5, C_6, C_7, C_8, C_9, C_10, C_11, C_12, C_13⟩ := id C
  go_wp2_with fail
  refine (co _ (T1)).mono ?_
  rintro e w2 ⟨rfl, hb⟩
  replace C := (C).kept hb
  have T2 := (T1).kept hb
  replace B1 := bthen B1 hb
  clear hb z0 C_0 C_1 C_2 C_3 C_4 C_5 C_6 C_7 C_8 C_9 C_10 C_11 C_12 C_13 T1
  obtain ⟨z0, C_0, C_1, C_2, C_3, C_4, C_5, C_6, C_7, C_8, C_9, C_10, C_11, C_12, C_13⟩ := id C
  go_wp2_with fail
  refine (cs' _ (T2)).mono ?_
  rintro e w3 ⟨rfl, hb⟩
  replace C := (C).kept hb
  have T3 := (T2).kept hb
  replace B1 := bthen B1 hb
  clear hb z0 C_0 C_1 C_2 C_3 C_4 C_5 C_6 C_7 C_8 C_9 C_10 C_11 C_12 C_13 T2
  obtain ⟨z0, C_0, C_1, C_2, C_3, C_4, C_5, C_6, C_7, C_8, C_9, C_10, C_11, C_12, C_13⟩ := id C
  go_wp2_with fail
  refine (ce' _ (T3)).mono ?_
  rintro e w4 ⟨rfl, hb⟩
  replace C := (C).kept hb
  have T4 := (T3).kept hb
  replace B1 := bthen B1 hb
  clear hb z0 C_0 C_1 C_2 C_3 C_4 C_5 C_6 C_7 C_8 C_9 C_10 C_11 C_12 C_13 T3
  obtain ⟨z0, C_0, C_1, C_2, C_3, C_4, C_5, C_6, C_7, C_8, C_9, C_10, C_11, C_12, C_13⟩ := id C
  go_wp2_with fail
  refine (cn _ (T4)).mono ?_
  rintro e w5 ⟨rfl, hb⟩
  replace C := (C).kept hb
  have T5 := (T4).kept hb
  replace B1 := bthen B1 hb
  clear hb z0 C_0 C_1 C_2 C_3 C_4 C_5 C_6 C_7 C_8 C_9 C_10 C_11 C_12 C_13 T4
  obtain ⟨z0, C_0, C_1, C_2, C_3, C_4, C_5, C_6, C_7, C_8, C_9, C_10, C_11, C_12, C_13⟩ := id C
  go_wp2_with fail
  refine (cs _ (T5)).mono ?_
  rintro e w6 ⟨rfl, hb⟩
  replace C := (C).kept hb
  have T6 := (T5).kept hb
  replace B1 := bthen B1 hb
  clear hb z0 C_0 C_1 C_2 C_3 C_4 C_5 C_6 C_7 C_8 C_9 C_10 C_11 C_12 C_13 T5
  obtain ⟨z0, C_0, C_1, C_2, C_3, C_4, C_5, C_6, C_7, C_8, C_9, C_10, C_11, C_12, C_13⟩ := id C
  go_wp2_with fail
  refine (ce _ (T6)).mono ?_
  rintro e w7 ⟨rfl, hb⟩
  replace C := (C).kept hb
  have T7 := (T6).kept hb
  replace B1 := bthen B1 hb
  clear hb z0 C_0 C_1 C_2 C_3 C_4 C_5 C_6 C_7 C_8 C_9 C_10 C_11 C_12 C_13 T6
  obtain ⟨z0, C_0, C_1, C_2, C_3, C_4, C_5, C_6, C_7, C_8, C_9, C_10, C_11, C_12, C_13⟩ := id C
  go_wp2
  go_ret
  exact ⟨by simp <;> omega, B1⟩

set_option maxHeartbeats 8000000 in
set_option maxRecDepth 100000 in
theorem jin_b4 (c : CalZ) (n z a' b' s b : Int) (w : World) (n0 : 0 ≤ n) (n1 : n ≤ 3068036) (a0 : 0 ≤ a') (a1 : a' ≤ 3068036) (za : a' < n) (zb : n ≤ b') (d2 : s ≤ n) (d3 : n ≤ b) (dl : decide ((100 : Int) < (c.nm.size : Int)) = false)
    (co : ∀ w, FTab w → Calls Tryd.prog 33 #[.agg #[.string c.nm, .int .i64 c.k, .int .i64 c.d, .int .i64 c.m, .int .i64 c.s, .int .i64 c.sh, .int .i64 c.p0, .int .i64 c.p1, .int .i64 c.p2, .int .i64 c.cy, .int .i64 c.ex, .int .i64 c.fi, .int .i64 c.la, .int .i64 c.po], .int .i64 n] w fun e w' => e = .returned (.tuple #[.int .i64 z, .int .i64 0]) ∧ Below w.heap.size w w')
    (cs' : ∀ w, FTab w → Calls Tryd.prog 18 #[.agg #[.string c.nm, .int .i64 c.k, .int .i64 c.d, .int .i64 c.m, .int .i64 c.s, .int .i64 c.sh, .int .i64 c.p0, .int .i64 c.p1, .int .i64 c.p2, .int .i64 c.cy, .int .i64 c.ex, .int .i64 c.fi, .int .i64 c.la, .int .i64 c.po], .int .i64 z] w fun e w' => e = .returned (.tuple #[.int .i64 (a' + 1), .int .i64 0]) ∧ Below w.heap.size w w')
    (ce' : ∀ w, FTab w → Calls Tryd.prog 16 #[.agg #[.string c.nm, .int .i64 c.k, .int .i64 c.d, .int .i64 c.m, .int .i64 c.s, .int .i64 c.sh, .int .i64 c.p0, .int .i64 c.p1, .int .i64 c.p2, .int .i64 c.cy, .int .i64 c.ex, .int .i64 c.fi, .int .i64 c.la, .int .i64 c.po], .int .i64 z] w fun e w' => e = .returned (.tuple #[.int .i64 b', .int .i64 0]) ∧ Below w.heap.size w w')
    (cn : ∀ w, FTab w → Calls Tryd.prog 35 #[.agg #[.string c.nm, .int .i64 c.k, .int .i64 c.d, .int .i64 c.m, .int .i64 c.s, .int .i64 c.sh, .int .i64 c.p0, .int .i64 c.p1, .int .i64 c.p2, .int .i64 c.cy, .int .i64 c.ex, .int .i64 c.fi, .int .i64 c.la, .int .i64 c.po], .int .i64 n] w fun e w' => e = .returned (.tuple #[.int .i64 (n - a'), .int .i64 0]) ∧ Below w.heap.size w w')
    (cs : ∀ w, FTab w → Calls Tryd.prog 18 #[.agg #[.string c.nm, .int .i64 c.k, .int .i64 c.d, .int .i64 c.m, .int .i64 c.s, .int .i64 c.sh, .int .i64 c.p0, .int .i64 c.p1, .int .i64 c.p2, .int .i64 c.cy, .int .i64 c.ex, .int .i64 c.fi, .int .i64 c.la, .int .i64 c.po], .int .i64 z] w fun e w' => e = .returned (.tuple #[.int .i64 s, .int .i64 0]) ∧ Below w.heap.size w w')
    (ce : ∀ w, FTab w → Calls Tryd.prog 16 #[.agg #[.string c.nm, .int .i64 c.k, .int .i64 c.d, .int .i64 c.m, .int .i64 c.s, .int .i64 c.sh, .int .i64 c.p0, .int .i64 c.p1, .int .i64 c.p2, .int .i64 c.cy, .int .i64 c.ex, .int .i64 c.fi, .int .i64 c.la, .int .i64 c.po], .int .i64 z] w fun e w' => e = .returned (.tuple #[.int .i64 b, .int .i64 0]) ∧ Below w.heap.size w w')
    (tb : FTab w) :
    Calls Tryd.prog 10 #[.agg #[.string c.nm, .int .i64 c.k, .int .i64 c.d, .int .i64 c.m, .int .i64 c.s, .int .i64 c.sh, .int .i64 c.p0, .int .i64 c.p1, .int .i64 c.p2, .int .i64 c.cy, .int .i64 c.ex, .int .i64 c.fi, .int .i64 c.la, .int .i64 c.po], .int .i64 n, .int .i64 z] w fun e w' => e = .returned (.bool true) ∧ Below w.heap.size w w' := by
  have en : n - (a' + 1) + 1 = n - a' := by omega
  go_enter Tryd.func10, Tryd.ntmps10
  go_wp2_with fail
  refine (jlive_ok _ ((tb).alloc (.cells #[.string c.nm, .int .i64 c.k, .int .i64 c.d, .int .i64 c.m, .int .i64 c.s, .int .i64 c.sh, .int .i64 c.p0, .int .i64 c.p1, .int .i64 c.p2, .int .i64 c.cy, .int .i64 c.ex, .int .i64 c.fi, .int .i64 c.la, .int .i64 c.po] 24))).mono ?_
  rintro e w1 ⟨rfl, hb⟩
  have C := (CalIn.new w c 24).kept hb
  have T1 := ((tb).alloc (.cells #[.string c.nm, .int .i64 c.k, .int .i64 c.d, .int .i64 c.m, .int .i64 c.s, .int .i64 c.sh, .int .i64 c.p0, .int .i64 c.p1, .int .i64 c.p2, .int .i64 c.cy, .int .i64 c.ex, .int .i64 c.fi, .int .i64 c.la, .int .i64 c.po] 24)).kept hb
  have B1 := bthen (balloc (Below.refl _ w) (.cells #[.string c.nm, .int .i64 c.k, .int .i64 c.d, .int .i64 c.m, .int .i64 c.s, .int .i64 c.sh, .int .i64 c.p0, .int .i64 c.p1, .int .i64 c.p2, .int .i64 c.cy, .int .i64 c.ex, .int .i64 c.fi, .int .i64 c.la, .int .i64 c.po] 24)) hb
  try simp only [World.size_alloc] at C
  clear hb
  obtain ⟨z0, C_0, C_1, C_2, C_3, C_4, C_5, C_6, C_7, C_8, C_9, C_10, C_11, C_12, C_13⟩ := id C
  go_wp2_with fail
  refine (co _ (T1)).mono ?_
  rintro e w2 ⟨rfl, hb⟩
  replace C := (C).kept hb
  have T2 := (T1).kept hb
  replace B1 := bthen B1 hb
  clear hb z0 C_0 C_1 C_2 C_3 C_4 C_5 C_6 C_7 C_8 C_9 C_10 C_11 C_12 C_13 T1
  obtain ⟨z0, C_0, C_1, C_2, C_3, C_4, C_5, C_6, C_7, C_8, C_9, C_10, C_11, C_12, C_13⟩ := id C
  go_wp2_with fail
  refine (cs' _ (T2)).mono ?_
  rintro e w3 ⟨rfl, hb⟩
  replace C := (C).kept hb
  have T3 := (T2).kept hb
  replace B1 := bthen B1 hb
  clear hb z0 C_0 C_1 C_2 C_3 C_4 C_5 C_6 C_7 C_8 C_9 C_10 C_11 C_12 C_13 T2
  obtain ⟨z0, C_0, C_1, C_2, C_3, C_4, C_5, C_6, C_7, C_8, C_9, C_10, C_11, C_12, C_13⟩ := id C
  go_wp2_with fail
  refine (ce' _ (T3)).mono ?_
  rintro e w4 ⟨rfl, hb⟩
  replace C := (C).kept hb
  have T4 := (T3).kept hb
  replace B1 := bthen B1 hb
  clear hb z0 C_0 C_1 C_2 C_3 C_4 C_5 C_6 C_7 C_8 C_9 C_10 C_11 C_12 C_13 T3
  obtain ⟨z0, C_0, C_1, C_2, C_3, C_4, C_5, C_6, C_7, C_8, C_9, C_10, C_11, C_12, C_13⟩ := id C
  go_wp2_with fail
  refine (cn _ (T4)).mono ?_
  rintro e w5 ⟨rfl, hb⟩
  replace C := (C).kept hb
  have T5 := (T4).kept hb
  replace B1 := bthen B1 hb
  clear hb z0 C_0 C_1 C_2 C_3 C_4 C_5 C_6 C_7 C_8 C_9 C_10 C_11 C_12 C_13 T4
  obtain ⟨z0, C_0, C_1, C_2, C_3, C_4, C_5, C_6, C_7, C_8, C_9, C_10, C_11, C_12, C_13⟩ := id C
  go_wp2_with fail
  refine (cs _ (T5)).mono ?_
  rintro e w6 ⟨rfl, hb⟩
  replace C := (C).kept hb
  have T6 := (T5).kept hb
  replace B1 := bthen B1 hb
  clear hb z0 C_0 C_1 C_2 C_3 C_4 C_5 C_6 C_7 C_8 C_9 C_10 C_11 C_12 C_13 T5
  obtain ⟨z0, C_0, C_1, C_2, C_3, C_4, C_5, C_6, C_7, C_8, C_9, C_10, C_11, C_12, C_13⟩ := id C
  go_wp2_with fail
  refine (ce _ (T6)).mono ?_
  rintro e w7 ⟨rfl, hb⟩
  replace C := (C).kept hb
  have T7 := (T6).kept hb
  replace B1 := bthen B1 hb
  clear hb z0 C_0 C_1 C_2 C_3 C_4 C_5 C_6 C_7 C_8 C_9 C_10 C_11 C_12 C_13 T6
  obtain ⟨z0, C_0, C_1, C_2, C_3, C_4, C_5, C_6, C_7, C_8, C_9, C_10, C_11, C_12, C_13⟩ := id C
  go_wp2_with fail
  refine (co _ (T7)).mono ?_
  rintro e w8 ⟨rfl, hb⟩
  replace C := (C).kept hb
  have T8 := (T7).kept hb
  replace B1 := bthen B1 hb
  clear hb z0 C_0 C_1 C_2 C_3 C_4 C_5 C_6 C_7 C_8 C_9 C_10 C_11 C_12 C_13 T7
  obtain ⟨z0, C_0, C_1, C_2, C_3, C_4, C_5, C_6, C_7, C_8, C_9, C_10, C_11, C_12, C_13⟩ := id C
  go_wp2
  go_ret
  exact ⟨by simp <;> omega, B1⟩

set_option maxHeartbeats 8000000 in
set_option maxRecDepth 100000 in
theorem jin_a1 (c : CalZ) (n y z er s b e1 e2 : Int) (w : World) (k0 : (er == 0) = false) (k00 : (er != 0) = true) (k1 : (e1 != 0) = true) (dl : decide ((100 : Int) < (c.nm.size : Int)) = false)
    (co : ∀ w, FTab w → Calls Tryd.prog 33 #[.agg #[.string c.nm, .int .i64 c.k, .int .i64 c.d, .int .i64 c.m, .int .i64 c.s, .int .i64 c.sh, .int .i64 c.p0, .int .i64 c.p1, .int .i64 c.p2, .int .i64 c.cy, .int .i64 c.ex, .int .i64 c.fi, .int .i64 c.la, .int .i64 c.po], .int .i64 n] w fun e w' => e = .returned (.tuple #[.int .i64 z, .int .i64 er]) ∧ Below w.heap.size w w')
    (cs : ∀ w, FTab w → Calls Tryd.prog 18 #[.agg #[.string c.nm, .int .i64 c.k, .int .i64 c.d, .int .i64 c.m, .int .i64 c.s, .int .i64 c.sh, .int .i64 c.p0, .int .i64 c.p1, .int .i64 c.p2, .int .i64 c.cy, .int .i64 c.ex, .int .i64 c.fi, .int .i64 c.la, .int .i64 c.po], .int .i64 y] w fun e w' => e = .returned (.tuple #[.int .i64 s, .int .i64 e1]) ∧ Below w.heap.size w w')
    (ce : ∀ w, FTab w → Calls Tryd.prog 16 #[.agg #[.string c.nm, .int .i64 c.k, .int .i64 c.d, .int .i64 c.m, .int .i64 c.s, .int .i64 c.sh, .int .i64 c.p0, .int .i64 c.p1, .int .i64 c.p2, .int .i64 c.cy, .int .i64 c.ex, .int .i64 c.fi, .int .i64 c.la, .int .i64 c.po], .int .i64 y] w fun e w' => e = .returned (.tuple #[.int .i64 b, .int .i64 e2]) ∧ Below w.heap.size w w')
    (tb : FTab w) :
    Calls Tryd.prog 10 #[.agg #[.string c.nm, .int .i64 c.k, .int .i64 c.d, .int .i64 c.m, .int .i64 c.s, .int .i64 c.sh, .int .i64 c.p0, .int .i64 c.p1, .int .i64 c.p2, .int .i64 c.cy, .int .i64 c.ex, .int .i64 c.fi, .int .i64 c.la, .int .i64 c.po], .int .i64 n, .int .i64 y] w fun e w' => e = .returned (.bool true) ∧ Below w.heap.size w w' := by
  go_enter Tryd.func10, Tryd.ntmps10
  go_wp2_with fail
  refine (jlive_ok _ ((tb).alloc (.cells #[.string c.nm, .int .i64 c.k, .int .i64 c.d, .int .i64 c.m, .int .i64 c.s, .int .i64 c.sh, .int .i64 c.p0, .int .i64 c.p1, .int .i64 c.p2, .int .i64 c.cy, .int .i64 c.ex, .int .i64 c.fi, .int .i64 c.la, .int .i64 c.po] 24))).mono ?_
  rintro e w1 ⟨rfl, hb⟩
  have C := (CalIn.new w c 24).kept hb
  have T1 := ((tb).alloc (.cells #[.string c.nm, .int .i64 c.k, .int .i64 c.d, .int .i64 c.m, .int .i64 c.s, .int .i64 c.sh, .int .i64 c.p0, .int .i64 c.p1, .int .i64 c.p2, .int .i64 c.cy, .int .i64 c.ex, .int .i64 c.fi, .int .i64 c.la, .int .i64 c.po] 24)).kept hb
  have B1 := bthen (balloc (Below.refl _ w) (.cells #[.string c.nm, .int .i64 c.k, .int .i64 c.d, .int .i64 c.m, .int .i64 c.s, .int .i64 c.sh, .int .i64 c.p0, .int .i64 c.p1, .int .i64 c.p2, .int .i64 c.cy, .int .i64 c.ex, .int .i64 c.fi, .int .i64 c.la, .int .i64 c.po] 24)) hb
  try simp only [World.size_alloc] at C
  clear hb
  obtain ⟨z0, C_0, C_1, C_2, C_3, C_4, C_5, C_6, C_7, C_8, C_9, C_10, C_11, C_12, C_13⟩ := id C
  go_wp2_with fail
  refine (co _ (T1)).mono ?_
  rintro e w2 ⟨rfl, hb⟩
  replace C := (C).kept hb
  have T2 := (T1).kept hb
  replace B1 := bthen B1 hb
  clear hb z0 C_0 C_1 C_2 C_3 C_4 C_5 C_6 C_7 C_8 C_9 C_10 C_11 C_12 C_13 T1
  obtain ⟨z0, C_0, C_1, C_2, C_3, C_4, C_5, C_6, C_7, C_8, C_9, C_10, C_11, C_12, C_13⟩ := id C
  go_wp2_with fail
  refine (cs _ (T2)).mono ?_
  rintro e w3 ⟨rfl, hb⟩
  replace C := (C).kept hb
  have T3 := (T2).kept hb
  replace B1 := bthen B1 hb
  clear hb z0 C_0 C_1 C_2 C_3 C_4 C_5 C_6 C_7 C_8 C_9 C_10 C_11 C_12 C_13 T2
  obtain ⟨z0, C_0, C_1, C_2, C_3, C_4, C_5, C_6, C_7, C_8, C_9, C_10, C_11, C_12, C_13⟩ := id C
  go_wp2_with fail
  refine (ce _ (T3)).mono ?_
  rintro e w4 ⟨rfl, hb⟩
  replace C := (C).kept hb
  have T4 := (T3).kept hb
  replace B1 := bthen B1 hb
  clear hb z0 C_0 C_1 C_2 C_3 C_4 C_5 C_6 C_7 C_8 C_9 C_10 C_11 C_12 C_13 T3
  obtain ⟨z0, C_0, C_1, C_2, C_3, C_4, C_5, C_6, C_7, C_8, C_9, C_10, C_11, C_12, C_13⟩ := id C
  go_wp2
  go_ret
  exact ⟨by simp <;> omega, B1⟩

set_option maxHeartbeats 8000000 in
set_option maxRecDepth 100000 in
theorem jin_a2 (c : CalZ) (n y z er s b : Int) (w : World) (k0 : (er == 0) = false) (k00 : (er != 0) = true) (d2 : n < s) (dl : decide ((100 : Int) < (c.nm.size : Int)) = false)
    (co : ∀ w, FTab w → Calls Tryd.prog 33 #[.agg #[.string c.nm, .int .i64 c.k, .int .i64 c.d, .int .i64 c.m, .int .i64 c.s, .int .i64 c.sh, .int .i64 c.p0, .int .i64 c.p1, .int .i64 c.p2, .int .i64 c.cy, .int .i64 c.ex, .int .i64 c.fi, .int .i64 c.la, .int .i64 c.po], .int .i64 n] w fun e w' => e = .returned (.tuple #[.int .i64 z, .int .i64 er]) ∧ Below w.heap.size w w')
    (cs : ∀ w, FTab w → Calls Tryd.prog 18 #[.agg #[.string c.nm, .int .i64 c.k, .int .i64 c.d, .int .i64 c.m, .int .i64 c.s, .int .i64 c.sh, .int .i64 c.p0, .int .i64 c.p1, .int .i64 c.p2, .int .i64 c.cy, .int .i64 c.ex, .int .i64 c.fi, .int .i64 c.la, .int .i64 c.po], .int .i64 y] w fun e w' => e = .returned (.tuple #[.int .i64 s, .int .i64 0]) ∧ Below w.heap.size w w')
    (ce : ∀ w, FTab w → Calls Tryd.prog 16 #[.agg #[.string c.nm, .int .i64 c.k, .int .i64 c.d, .int .i64 c.m, .int .i64 c.s, .int .i64 c.sh, .int .i64 c.p0, .int .i64 c.p1, .int .i64 c.p2, .int .i64 c.cy, .int .i64 c.ex, .int .i64 c.fi, .int .i64 c.la, .int .i64 c.po], .int .i64 y] w fun e w' => e = .returned (.tuple #[.int .i64 b, .int .i64 0]) ∧ Below w.heap.size w w')
    (tb : FTab w) :
    Calls Tryd.prog 10 #[.agg #[.string c.nm, .int .i64 c.k, .int .i64 c.d, .int .i64 c.m, .int .i64 c.s, .int .i64 c.sh, .int .i64 c.p0, .int .i64 c.p1, .int .i64 c.p2, .int .i64 c.cy, .int .i64 c.ex, .int .i64 c.fi, .int .i64 c.la, .int .i64 c.po], .int .i64 n, .int .i64 y] w fun e w' => e = .returned (.bool true) ∧ Below w.heap.size w w' := by
  go_enter Tryd.func10, Tryd.ntmps10
  go_wp2_with fail
  refine (jlive_ok _ ((tb).alloc (.cells #[.string c.nm, .int .i64 c.k, .int .i64 c.d, .int .i64 c.m, .int .i64 c.s, .int .i64 c.sh, .int .i64 c.p0, .int .i64 c.p1, .int .i64 c.p2, .int .i64 c.cy, .int .i64 c.ex, .int .i64 c.fi, .int .i64 c.la, .int .i64 c.po] 24))).mono ?_
  rintro e w1 ⟨rfl, hb⟩
  have C := (CalIn.new w c 24).kept hb
  have T1 := ((tb).alloc (.cells #[.string c.nm, .int .i64 c.k, .int .i64 c.d, .int .i64 c.m, .int .i64 c.s, .int .i64 c.sh, .int .i64 c.p0, .int .i64 c.p1, .int .i64 c.p2, .int .i64 c.cy, .int .i64 c.ex, .int .i64 c.fi, .int .i64 c.la, .int .i64 c.po] 24)).kept hb
  have B1 := bthen (balloc (Below.refl _ w) (.cells #[.string c.nm, .int .i64 c.k, .int .i64 c.d, .int .i64 c.m, .int .i64 c.s, .int .i64 c.sh, .int .i64 c.p0, .int .i64 c.p1, .int .i64 c.p2, .int .i64 c.cy, .int .i64 c.ex, .int .i64 c.fi, .int .i64 c.la, .int .i64 c.po] 24)) hb
  try simp only [World.size_alloc] at C
  clear hb
  obtain ⟨z0, C_0, C_1, C_2, C_3, C_4, C_5, C_6, C_7, C_8, C_9, C_10, C_11, C_12, C_13⟩ := id C
  go_wp2_with fail
  refine (co _ (T1)).mono ?_
  rintro e w2 ⟨rfl, hb⟩
  replace C := (C).kept hb
  have T2 := (T1).kept hb
  replace B1 := bthen B1 hb
  clear hb z0 C_0 C_1 C_2 C_3 C_4 C_5 C_6 C_7 C_8 C_9 C_10 C_11 C_12 C_13 T1
  obtain ⟨z0, C_0, C_1, C_2, C_3, C_4, C_5, C_6, C_7, C_8, C_9, C_10, C_11, C_12, C_13⟩ := id C
  go_wp2_with fail
  refine (cs _ (T2)).mono ?_
  rintro e w3 ⟨rfl, hb⟩
  replace C := (C).kept hb
  have T3 := (T2).kept hb
  replace B1 := bthen B1 hb
  clear hb z0 C_0 C_1 C_2 C_3 C_4 C_5 C_6 C_7 C_8 C_9 C_10 C_11 C_12 C_13 T2
  obtain ⟨z0, C_0, C_1, C_2, C_3, C_4, C_5, C_6, C_7, C_8, C_9, C_10, C_11, C_12, C_13⟩ := id C
  go_wp2_with fail
  refine (ce _ (T3)).mono ?_
  rintro e w4 ⟨rfl, hb⟩
  replace C := (C).kept hb
  have T4 := (T3).kept hb
  replace B1 := bthen B1 hb
  clear hb z0 C_0 C_1 C_2 C_3 C_4 C_5 C_6 C_7 C_8 C_9 C_10 C_11 C_12 C_13 T3
  obtain ⟨z0, C_0, C_1, C_2, C_3, C_4, C_5, C_6, C_7, C_8, C_9, C_10, C_11, C_12, C_13⟩ := id C
  go_wp2
  go_ret
  exact ⟨by simp <;> omega, B1⟩

set_option maxHeartbeats 8000000 in
set_option maxRecDepth 100000 in
theorem jin_a3 (c : CalZ) (n y z er s b : Int) (w : World) (k0 : (er == 0) = false) (k00 : (er != 0) = true) (d2 : s ≤ n) (d3 : b < n) (dl : decide ((100 : Int) < (c.nm.size : Int)) = false)
    (co : ∀ w, FTab w → Calls Tryd.prog 33 #[.agg #[.string c.nm, .int .i64 c.k, .int .i64 c.d, .int .i64 c.m, .int .i64 c.s, .int .i64 c.sh, .int .i64 c.p0, .int .i64 c.p1, .int .i64 c.p2, .int .i64 c.cy, .int .i64 c.ex, .int .i64 c.fi, .int .i64 c.la, .int .i64 c.po], .int .i64 n] w fun e w' => e = .returned (.tuple #[.int .i64 z, .int .i64 er]) ∧ Below w.heap.size w w')
    (cs : ∀ w, FTab w → Calls Tryd.prog 18 #[.agg #[.string c.nm, .int .i64 c.k, .int .i64 c.d, .int .i64 c.m, .int .i64 c.s, .int .i64 c.sh, .int .i64 c.p0, .int .i64 c.p1, .int .i64 c.p2, .int .i64 c.cy, .int .i64 c.ex, .int .i64 c.fi, .int .i64 c.la, .int .i64 c.po], .int .i64 y] w fun e w' => e = .returned (.tuple #[.int .i64 s, .int .i64 0]) ∧ Below w.heap.size w w')
    (ce : ∀ w, FTab w → Calls Tryd.prog 16 #[.agg #[.string c.nm, .int .i64 c.k, .int .i64 c.d, .int .i64 c.m, .int .i64 c.s, .int .i64 c.sh, .int .i64 c.p0, .int .i64 c.p1, .int .i64 c.p2, .int .i64 c.cy, .int .i64 c.ex, .int .i64 c.fi, .int .i64 c.la, .int .i64 c.po], .int .i64 y] w fun e w' => e = .returned (.tuple #[.int .i64 b, .int .i64 0]) ∧ Below w.heap.size w w')
    (tb : FTab w) :
    Calls Tryd.prog 10 #[.agg #[.string c.nm, .int .i64 c.k, .int .i64 c.d, .int .i64 c.m, .int .i64 c.s, .int .i64 c.sh, .int .i64 c.p0, .int .i64 c.p1, .int .i64 c.p2, .int .i64 c.cy, .int .i64 c.ex, .int .i64 c.fi, .int .i64 c.la, .int .i64 c.po], .int .i64 n, .int .i64 y] w fun e w' => e = .returned (.bool true) ∧ Below w.heap.size w w' := by
  go_enter Tryd.func10, Tryd.ntmps10
  go_wp2_with fail
  refine (jlive_ok _ ((tb).alloc (.cells #[.string c.nm, .int .i64 c.k, .int .i64 c.d, .int .i64 c.m, .int .i64 c.s, .int .i64 c.sh, .int .i64 c.p0, .int .i64 c.p1, .int .i64 c.p2, .int .i64 c.cy, .int .i64 c.ex, .int .i64 c.fi, .int .i64 c.la, .int .i64 c.po] 24))).mono ?_
  rintro e w1 ⟨rfl, hb⟩
  have C := (CalIn.new w c 24).kept hb
  have T1 := ((tb).alloc (.cells #[.string c.nm, .int .i64 c.k, .int .i64 c.d, .int .i64 c.m, .int .i64 c.s, .int .i64 c.sh, .int .i64 c.p0, .int .i64 c.p1, .int .i64 c.p2, .int .i64 c.cy, .int .i64 c.ex, .int .i64 c.fi, .int .i64 c.la, .int .i64 c.po] 24)).kept hb
  have B1 := bthen (balloc (Below.refl _ w) (.cells #[.string c.nm, .int .i64 c.k, .int .i64 c.d, .int .i64 c.m, .int .i64 c.s, .int .i64 c.sh, .int .i64 c.p0, .int .i64 c.p1, .int .i64 c.p2, .int .i64 c.cy, .int .i64 c.ex, .int .i64 c.fi, .int .i64 c.la, .int .i64 c.po] 24)) hb
  try simp only [World.size_alloc] at C
  clear hb
  obtain ⟨z0, C_0, C_1, C_2, C_3, C_4, C_5, C_6, C_7, C_8, C_9, C_10, C_11, C_12, C_13⟩ := id C
  go_wp2_with fail
  refine (co _ (T1)).mono ?_
  rintro e w2 ⟨rfl, hb⟩
  replace C := (C).kept hb
  have T2 := (T1).kept hb
  replace B1 := bthen B1 hb
  clear hb z0 C_0 C_1 C_2 C_3 C_4 C_5 C_6 C_7 C_8 C_9 C_10 C_11 C_12 C_13 T1
  obtain ⟨z0, C_0, C_1, C_2, C_3, C_4, C_5, C_6, C_7, C_8, C_9, C_10, C_11, C_12, C_13⟩ := id C
  go_wp2_with fail
  refine (cs _ (T2)).mono ?_
  rintro e w3 ⟨rfl, hb⟩
  replace C := (C).kept hb
  have T3 := (T2).kept hb
  replace B1 := bthen B1 hb
  clear hb z0 C_0 C_1 C_2 C_3 C_4 C_5 C_6 C_7 C_8 C_9 C_10 C_11 C_12 C_13 T2
  obtain ⟨z0, C_0, C_1, C_2, C_3, C_4, C_5, C_6, C_7, C_8, C_9, C_10, C_11, C_12, C_13⟩ := id C
  go_wp2_with fail
  refine (ce _ (T3)).mono ?_
  rintro e w4 ⟨rfl, hb⟩
  replace C := (C).kept hb
  have T4 := (T3).kept hb
  replace B1 := bthen B1 hb
  clear hb z0 C_0 C_1 C_2 C_3 C_4 C_5 C_6 C_7 C_8 C_9 C_10 C_11 C_12 C_13 T3
  obtain ⟨z0, C_0, C_1, C_2, C_3, C_4, C_5, C_6, C_7, C_8, C_9, C_10, C_11, C_12, C_13⟩ := id C
  go_wp2
  go_ret
  exact ⟨by simp <;> omega, B1⟩

set_option maxRecDepth 100000 in
theorem jin_walk (c : CalZ) (n y : Int) (w : World) (wf : CalWf c) (wy : (Lit.int .i64 n).wf = true) (wz : (Lit.int .i64 y).wf = true) (tb : FTab w) :
    Calls Tryd.prog 10 #[.agg #[.string c.nm, .int .i64 c.k, .int .i64 c.d, .int .i64 c.m, .int .i64 c.s, .int .i64 c.sh, .int .i64 c.p0, .int .i64 c.p1, .int .i64 c.p2, .int .i64 c.cy, .int .i64 c.ex, .int .i64 c.fi, .int .i64 c.la, .int .i64 c.po], .int .i64 n, .int .i64 y] w fun e w' => e = .returned (.bool true) ∧ Below w.heap.size w w' := by
  have hm := wf.1
  clear wy wz
  by_cases hl : 100 < c.nm.size
  · have dl : decide ((100 : Int) < (c.nm.size : Int)) = true := decide_eq_true (by omega)
    clear hl
    go_enter Tryd.func10, Tryd.ntmps10
    go_wp2_with fail
    refine (jlive_ok _ ((tb).alloc (.cells #[.string c.nm, .int .i64 c.k, .int .i64 c.d, .int .i64 c.m, .int .i64 c.s, .int .i64 c.sh, .int .i64 c.p0, .int .i64 c.p1, .int .i64 c.p2, .int .i64 c.cy, .int .i64 c.ex, .int .i64 c.fi, .int .i64 c.la, .int .i64 c.po] 24))).mono ?_
    rintro e w1 ⟨rfl, hb⟩
    have C := (CalIn.new w c 24).kept hb
    have T1 := ((tb).alloc (.cells #[.string c.nm, .int .i64 c.k, .int .i64 c.d, .int .i64 c.m, .int .i64 c.s, .int .i64 c.sh, .int .i64 c.p0, .int .i64 c.p1, .int .i64 c.p2, .int .i64 c.cy, .int .i64 c.ex, .int .i64 c.fi, .int .i64 c.la, .int .i64 c.po] 24)).kept hb
    have B1 := bthen (balloc (Below.refl _ w) (.cells #[.string c.nm, .int .i64 c.k, .int .i64 c.d, .int .i64 c.m, .int .i64 c.s, .int .i64 c.sh, .int .i64 c.p0, .int .i64 c.p1, .int .i64 c.p2, .int .i64 c.cy, .int .i64 c.ex, .int .i64 c.fi, .int .i64 c.la, .int .i64 c.po] 24)) hb
    try simp only [World.size_alloc] at C
    clear hb
    obtain ⟨z0, C_0, C_1, C_2, C_3, C_4, C_5, C_6, C_7, C_8, C_9, C_10, C_11, C_12, C_13⟩ := id C
    go_wp2
    go_ret
    exact ⟨by simp, B1⟩
  · have dl : decide ((100 : Int) < (c.nm.size : Int)) = false := decide_eq_false (by omega)
    clear hl
    obtain ⟨z, er, R⟩ := ofa_ex c n
    have co := fun w T => Of_any c n z er w R hm T
    obtain ⟨s, e1, R1⟩ := starta_ex c y
    have cs := fun w T => Start_any c y s e1 w R1 hm T
    obtain ⟨b, e2, R2⟩ := enda_ex c y
    have ce := fun w T => End_any c y b e2 w R2 hm T
    have O2 : (e1 ≠ 0) ∨ (e1 = 0 ∧ e2 = 0 ∧ n < s) ∨ (e1 = 0 ∧ e2 = 0 ∧ s ≤ n ∧ b < n) ∨ (e1 = 0 ∧ e2 = 0 ∧ s ≤ n ∧ n ≤ b ∧ er = 0 ∧ z = y) := by
      rcases R1 with ⟨ok, y0, y1, hs, h1⟩ | ⟨_, _, _, h1⟩ | ⟨_, _, h1⟩
      · rcases R2 with ⟨_, _, _, hb', h2⟩ | ⟨_, h, _⟩ | ⟨no, _⟩
        · by_cases q : n < s
          · exact .inr (.inl ⟨h1, h2, q⟩)
          · by_cases q2 : b < n
            · exact .inr (.inr (.inl ⟨h1, h2, by omega, q2⟩))
            · have bz := yend_bd ok.1 (y := y - 1) (by omega) (by omega)
              have by' := yend_bd ok.1 (y := y) (by omega) (by omega)
              refine .inr (.inr (.inr ⟨h1, h2, by omega, by omega, ?_⟩))
              rcases R with ⟨_, _, _, z0, z1, za, zb, h3⟩ | ⟨_, _, _, h3, _, _⟩ | ⟨_, h3, _⟩ | ⟨no, _⟩
              · exact ⟨h3, year_uniq ok.1 z0 z1 za zb y0 y1 (by omega) (by omega)⟩
              · have l1 := yend_le ok.1 (a := 1600) (b := y - 1) (by omega) (by omega) (by omega)
                have l2 := yend_le ok.1 (a := y) (b := 9997) (by omega) (by omega) (by omega)
                omega
              · omega
              · exact absurd ok no
        · exact absurd ⟨by omega, by omega⟩ h
        · exact absurd ok no
      · exact .inl (by omega)
      · exact .inl (by omega)
    by_cases he : er = 0
    · subst he
      obtain ⟨ok, n0, n1, z0, z1, za, zb⟩ : CalOk c ∧ 0 ≤ n ∧ n ≤ 3068036 ∧ 1601 ≤ z ∧ z ≤ 9997 ∧ yend c (z - 1) < n ∧ n ≤ yend c z := by
        rcases R with ⟨a1, a2, a3, a4, a5, a6, a7, _⟩ | ⟨_, _, _, _, _, h⟩ | ⟨_, _, _, h⟩ | ⟨_, _, h⟩
        · exact ⟨a1, a2, a3, a4, a5, a6, a7⟩
        · exact absurd h (by decide)
        · exact absurd h (by decide)
        · exact absurd h (by decide)
      obtain ⟨a', ha⟩ : ∃ a, a = yend c (z - 1) := ⟨_, rfl⟩
      obtain ⟨b', hb'⟩ : ∃ b, b = yend c z := ⟨_, rfl⟩
      have bd := yend_bd ok.1 (y := z - 1) (by omega) (by omega)
      have cs' := fun w T => Start_any c z (a' + 1) 0 w (.inl ⟨ok, z0, z1, by rw [ha], rfl⟩) hm T
      have ce' := fun w T => End_any c z b' 0 w (.inl ⟨ok, by omega, z1, hb', rfl⟩) hm T
      have cn := fun w T => Nth_any c n (n - a') 0 w ⟨z, R, fun _ => by rw [ha], fun h => absurd rfl h⟩ hm T
      rw [← ha] at za bd
      rw [← hb'] at zb
      obtain ⟨a0, a1⟩ := bd
      rcases O2 with d1 | ⟨rfl, rfl, d2⟩ | ⟨rfl, rfl, d2, d3⟩ | ⟨rfl, rfl, d2, d3, _, rfl⟩
      · exact jin_b1 c n y z a' b' s b e1 e2 w n0 n1 a0 a1 za zb (bne_iff_ne.2 d1) dl co cs' ce' cn cs ce tb
      · exact jin_b2 c n y z a' b' s b w n0 n1 a0 a1 za zb d2 dl co cs' ce' cn cs ce tb
      · exact jin_b3 c n y z a' b' s b w n0 n1 a0 a1 za zb d2 d3 dl co cs' ce' cn cs ce tb
      · exact jin_b4 c n z a' b' s b w n0 n1 a0 a1 za zb d2 d3 dl co cs' ce' cn cs ce tb
    · have k0 : (er == 0) = false := beq_eq_false_iff_ne.2 he
      have k00 : (er != 0) = true := bne_iff_ne.2 he
      rcases O2 with d1 | ⟨rfl, rfl, d2⟩ | ⟨rfl, rfl, d2, d3⟩ | ⟨_, _, _, _, h, _⟩
      · exact jin_a1 c n y z er s b e1 e2 w k0 k00 (bne_iff_ne.2 d1) dl co cs ce tb
      · exact jin_a2 c n y z er s b w k0 k00 d2 dl co cs ce tb
      · exact jin_a3 c n y z er s b w k0 k00 d2 d3 dl co cs ce tb
      · exact absurd h he

end Go.Proofs.YtkpjkdeomoecjaaDoor.Jl
