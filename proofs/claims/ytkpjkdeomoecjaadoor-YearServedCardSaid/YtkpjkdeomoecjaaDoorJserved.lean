/- YearServed's walk. -/
import Derived.Test.YtkpjkdeomoecjaaDoorJlive
import Derived.Test.YtkpjkdeomoecjaaDoorJlaw
namespace Go.Proofs.YtkpjkdeomoecjaaDoor.Jl
set_option linter.unusedSimpArgs false
set_option linter.unusedVariables false
open Go.RowKit Go.Proofs.YtkpjkdeomoecjaaDoor.Bn Go.Proofs.YtkpjkdeomoecjaaDoor.Am Go.Proofs.YtkpjkdeomoecjaaDoor.Fp Go.Proofs.YtkpjkdeomoecjaaDoor.Ap Go.Proofs.YtkpjkdeomoecjaaDoor.Cm Go.Proofs.YtkpjkdeomoecjaaDoor.Em Go.Proofs.YtkpjkdeomoecjaaDoor.Ep Go.Proofs.YtkpjkdeomoecjaaDoor.Bx Go.Proofs.YtkpjkdeomoecjaaDoor.Pr Go.Proofs.YtkpjkdeomoecjaaDoor.Jp

open Go.Proofs.YtkpjkdeomoecjaaDoor.Cp (Tab Day_any Length_any Weekday_any)

set_option maxHeartbeats 1000000

set_option maxHeartbeats 8000000 in
set_option maxRecDepth 100000 in
theorem jserved_s1 (c : CalZ) (n y a b : Int) (w : World) (p0 : decide (c.fi ≤ y) = true) (p1 : decide (y ≤ c.la) = true) (p2 : decide (a + 1 ≤ n) = true) (p3 : decide (n ≤ b) = true) (dl : decide ((100 : Int) < (c.nm.size : Int)) = false)
    (co : ∀ w, FTab w → Calls Tryd.prog 33 #[.agg #[.string c.nm, .int .i64 c.k, .int .i64 c.d, .int .i64 c.m, .int .i64 c.s, .int .i64 c.sh, .int .i64 c.p0, .int .i64 c.p1, .int .i64 c.p2, .int .i64 c.cy, .int .i64 c.ex, .int .i64 c.fi, .int .i64 c.la, .int .i64 c.po], .int .i64 n] w fun e w' => e = .returned (.tuple #[.int .i64 y, .int .i64 0]) ∧ Below w.heap.size w w')
    (cs : ∀ w, FTab w → Calls Tryd.prog 39 #[.agg #[.string c.nm, .int .i64 c.k, .int .i64 c.d, .int .i64 c.m, .int .i64 c.s, .int .i64 c.sh, .int .i64 c.p0, .int .i64 c.p1, .int .i64 c.p2, .int .i64 c.cy, .int .i64 c.ex, .int .i64 c.fi, .int .i64 c.la, .int .i64 c.po], .int .i64 n] w fun e w' => e = .returned (.tuple #[.int .i64 y, .int .i64 0]) ∧ Below w.heap.size w w')
    (cb : ∀ w, FTab w → Calls Tryd.prog 37 #[.agg #[.string c.nm, .int .i64 c.k, .int .i64 c.d, .int .i64 c.m, .int .i64 c.s, .int .i64 c.sh, .int .i64 c.p0, .int .i64 c.p1, .int .i64 c.p2, .int .i64 c.cy, .int .i64 c.ex, .int .i64 c.fi, .int .i64 c.la, .int .i64 c.po]] w fun e w' => e = .returned (.tuple #[.agg #[.int .i64 (a + 1), .int .i64 b], .int .i64 0]) ∧ Below w.heap.size w w')
    (tb : FTab w) :
    Calls Tryd.prog 13 #[.agg #[.string c.nm, .int .i64 c.k, .int .i64 c.d, .int .i64 c.m, .int .i64 c.s, .int .i64 c.sh, .int .i64 c.p0, .int .i64 c.p1, .int .i64 c.p2, .int .i64 c.cy, .int .i64 c.ex, .int .i64 c.fi, .int .i64 c.la, .int .i64 c.po], .int .i64 n] w fun e w' => e = .returned (.bool true) ∧ Below w.heap.size w w' := by
  go_enter Tryd.func13, Tryd.ntmps13
  go_wp2_with fail
  refine (jlive_ok _ ((tb).alloc (.cells #[.string c.nm, .int .i64 c.k, .int .i64 c.d, .int .i64 c.m, .int .i64 c.s, .int .i64 c.sh, .int .i64 c.p0, .int .i64 c.p1, .int .i64 c.p2, .int .i64 c.cy, .int .i64 c.ex, .int .i64 c.fi, .int .i64 c.la, .int .i64 c.po] 24))).mono ?_
  rintro e w1 ⟨rfl, hb⟩
  have C := (CalIn.new w c 24).kept hb
  have T1 := ((tb).alloc (.cells #[.string c.nm, .int .i64 c.k, .int .i64 c.d, .int .i64 c.m, .int .i64 c.s, .int .i64 c.sh, .int .i64 c.p0, .int .i64 c.p1, .int .i64 c.p2, .int .i64 c.cy, .int .i64 c.ex, .int .i64 c.fi, .int .i64 c.la, .int .i64 c.po] 24)).kept hb
  have B1 := bthen (balloc (Below.refl _ w) (.cells #[.string c.nm, .int .i64 c.k, .int .i64 c.d, .int .i64 c.m, .int .i64 c.s, .int .i64 c.sh, .int .i64 c.p0, .int .i64 c.p1, .int .i64 c.p2, .int .i64 c.cy, .int .i64 c.ex, .int .i64 c.fi, .int .i64 c.la, .int .i64 c.po] 24)) hb
  try simp only [World.size_alloc] at C
  clear hb
  obtain ⟨z0, C_0, C_1, C_2, C_3, C_4, C_5, C_6, C_7, C_8, C_9, C_10, C_11, C_12, C_13⟩ := id C
  go_wp2_with fail
  refine (co _ (T1)).mono ?_
  rintro e w2 ⟨rfl, hb⟩
  replace C := (C).kept hb
  have T2 := (T1).kept hb
  replace B1 := bthen B1 hb
  clear hb z0 C_0 C_1 C_2 C_3 C_4 C_5 C_6 C_7 C_8 C_9 C_10 C_11 C_12 C_13 T1
  obtain ⟨z0, C_0, C_1, C_2, C_3, C_4, C_5, C_6, C_7, C_8, C_9, C_10, C_11, C_12, C_13⟩ := id C
  go_wp2_with fail
  refine (cs _ (T2)).mono ?_
  rintro e w3 ⟨rfl, hb⟩
  replace C := (C).kept hb
  have T3 := (T2).kept hb
  replace B1 := bthen B1 hb
  clear hb z0 C_0 C_1 C_2 C_3 C_4 C_5 C_6 C_7 C_8 C_9 C_10 C_11 C_12 C_13 T2
  obtain ⟨z0, C_0, C_1, C_2, C_3, C_4, C_5, C_6, C_7, C_8, C_9, C_10, C_11, C_12, C_13⟩ := id C
  go_wp2_with fail
  refine (cb _ (T3)).mono ?_
  rintro e w4 ⟨rfl, hb⟩
  replace C := (C).kept hb
  have T4 := (T3).kept hb
  replace B1 := bthen B1 hb
  clear hb z0 C_0 C_1 C_2 C_3 C_4 C_5 C_6 C_7 C_8 C_9 C_10 C_11 C_12 C_13 T3
  obtain ⟨z0, C_0, C_1, C_2, C_3, C_4, C_5, C_6, C_7, C_8, C_9, C_10, C_11, C_12, C_13⟩ := id C
  go_wp2
  go_ret
  exact ⟨by simp, (balloc B1 (.cells #[.int .i64 (a + 1), .int .i64 b] 44))⟩

set_option maxHeartbeats 8000000 in
set_option maxRecDepth 100000 in
theorem jserved_s200 (c : CalZ) (n y a b : Int) (w : World) (p0 : decide (c.fi ≤ y) = false) (p2 : decide (a + 1 ≤ n) = false) (p4 : decide (n < 0) = false) (p5 : decide (3068037 ≤ n) = false) (dl : decide ((100 : Int) < (c.nm.size : Int)) = false)
    (co : ∀ w, FTab w → Calls Tryd.prog 33 #[.agg #[.string c.nm, .int .i64 c.k, .int .i64 c.d, .int .i64 c.m, .int .i64 c.s, .int .i64 c.sh, .int .i64 c.p0, .int .i64 c.p1, .int .i64 c.p2, .int .i64 c.cy, .int .i64 c.ex, .int .i64 c.fi, .int .i64 c.la, .int .i64 c.po], .int .i64 n] w fun e w' => e = .returned (.tuple #[.int .i64 y, .int .i64 0]) ∧ Below w.heap.size w w')
    (cs : ∀ w, FTab w → Calls Tryd.prog 39 #[.agg #[.string c.nm, .int .i64 c.k, .int .i64 c.d, .int .i64 c.m, .int .i64 c.s, .int .i64 c.sh, .int .i64 c.p0, .int .i64 c.p1, .int .i64 c.p2, .int .i64 c.cy, .int .i64 c.ex, .int .i64 c.fi, .int .i64 c.la, .int .i64 c.po], .int .i64 n] w fun e w' => e = .returned (.tuple #[.int .i64 0, .int .i64 11]) ∧ Below w.heap.size w w')
    (cb : ∀ w, FTab w → Calls Tryd.prog 37 #[.agg #[.string c.nm, .int .i64 c.k, .int .i64 c.d, .int .i64 c.m, .int .i64 c.s, .int .i64 c.sh, .int .i64 c.p0, .int .i64 c.p1, .int .i64 c.p2, .int .i64 c.cy, .int .i64 c.ex, .int .i64 c.fi, .int .i64 c.la, .int .i64 c.po]] w fun e w' => e = .returned (.tuple #[.agg #[.int .i64 (a + 1), .int .i64 b], .int .i64 0]) ∧ Below w.heap.size w w')
    (tb : FTab w) :
    Calls Tryd.prog 13 #[.agg #[.string c.nm, .int .i64 c.k, .int .i64 c.d, .int .i64 c.m, .int .i64 c.s, .int .i64 c.sh, .int .i64 c.p0, .int .i64 c.p1, .int .i64 c.p2, .int .i64 c.cy, .int .i64 c.ex, .int .i64 c.fi, .int .i64 c.la, .int .i64 c.po], .int .i64 n] w fun e w' => e = .returned (.bool true) ∧ Below w.heap.size w w' := by
  go_enter Tryd.func13, Tryd.ntmps13
  go_wp2_with fail
  refine (jlive_ok _ ((tb).alloc (.cells #[.string c.nm, .int .i64 c.k, .int .i64 c.d, .int .i64 c.m, .int .i64 c.s, .int .i64 c.sh, .int .i64 c.p0, .int .i64 c.p1, .int .i64 c.p2, .int .i64 c.cy, .int .i64 c.ex, .int .i64 c.fi, .int .i64 c.la, .int .i64 c.po] 24))).mono ?_
  rintro e w1 ⟨rfl, hb⟩
  have C := (CalIn.new w c 24).kept hb
  have T1 := ((tb).alloc (.cells #[.string c.nm, .int .i64 c.k, .int .i64 c.d, .int .i64 c.m, .int .i64 c.s, .int .i64 c.sh, .int .i64 c.p0, .int .i64 c.p1, .int .i64 c.p2, .int .i64 c.cy, .int .i64 c.ex, .int .i64 c.fi, .int .i64 c.la, .int .i64 c.po] 24)).kept hb
  have B1 := bthen (balloc (Below.refl _ w) (.cells #[.string c.nm, .int .i64 c.k, .int .i64 c.d, .int .i64 c.m, .int .i64 c.s, .int .i64 c.sh, .int .i64 c.p0, .int .i64 c.p1, .int .i64 c.p2, .int .i64 c.cy, .int .i64 c.ex, .int .i64 c.fi, .int .i64 c.la, .int .i64 c.po] 24)) hb
  try simp only [World.size_alloc] at C
  clear hb
  obtain ⟨z0, C_0, C_1, C_2, C_3, C_4, C_5, C_6, C_7, C_8, C_9, C_10, C_11, C_12, C_13⟩ := id C
  go_wp2_with fail
  refine (co _ (T1)).mono ?_
  rintro e w2 ⟨rfl, hb⟩
  replace C := (C).kept hb
  have T2 := (T1).kept hb
  replace B1 := bthen B1 hb
  clear hb z0 C_0 C_1 C_2 C_3 C_4 C_5 C_6 C_7 C_8 C_9 C_10 C_11 C_12 C_13 T1
  obtain ⟨z0, C_0, C_1, C_2, C_3, C_4, C_5, C_6, C_7, C_8, C_9, C_10, C_11, C_12, C_13⟩ := id C
  go_wp2_with fail
  refine (cs _ (T2)).mono ?_
  rintro e w3 ⟨rfl, hb⟩
  replace C := (C).kept hb
  have T3 := (T2).kept hb
  replace B1 := bthen B1 hb
  clear hb z0 C_0 C_1 C_2 C_3 C_4 C_5 C_6 C_7 C_8 C_9 C_10 C_11 C_12 C_13 T2
  obtain ⟨z0, C_0, C_1, C_2, C_3, C_4, C_5, C_6, C_7, C_8, C_9, C_10, C_11, C_12, C_13⟩ := id C
  go_wp2_with fail
  refine (cb _ (T3)).mono ?_
  rintro e w4 ⟨rfl, hb⟩
  replace C := (C).kept hb
  have T4 := (T3).kept hb
  replace B1 := bthen B1 hb
  clear hb z0 C_0 C_1 C_2 C_3 C_4 C_5 C_6 C_7 C_8 C_9 C_10 C_11 C_12 C_13 T3
  obtain ⟨z0, C_0, C_1, C_2, C_3, C_4, C_5, C_6, C_7, C_8, C_9, C_10, C_11, C_12, C_13⟩ := id C
  go_wp2
  go_ret
  exact ⟨by simp, (balloc B1 (.cells #[.int .i64 (a + 1), .int .i64 b] 44))⟩

set_option maxHeartbeats 8000000 in
set_option maxRecDepth 100000 in
theorem jserved_s201 (c : CalZ) (n y a b : Int) (w : World) (p0 : decide (c.fi ≤ y) = false) (p2 : decide (a + 1 ≤ n) = true) (p3 : decide (n ≤ b) = false) (p4 : decide (n < 0) = false) (p5 : decide (3068037 ≤ n) = false) (dl : decide ((100 : Int) < (c.nm.size : Int)) = false)
    (co : ∀ w, FTab w → Calls Tryd.prog 33 #[.agg #[.string c.nm, .int .i64 c.k, .int .i64 c.d, .int .i64 c.m, .int .i64 c.s, .int .i64 c.sh, .int .i64 c.p0, .int .i64 c.p1, .int .i64 c.p2, .int .i64 c.cy, .int .i64 c.ex, .int .i64 c.fi, .int .i64 c.la, .int .i64 c.po], .int .i64 n] w fun e w' => e = .returned (.tuple #[.int .i64 y, .int .i64 0]) ∧ Below w.heap.size w w')
    (cs : ∀ w, FTab w → Calls Tryd.prog 39 #[.agg #[.string c.nm, .int .i64 c.k, .int .i64 c.d, .int .i64 c.m, .int .i64 c.s, .int .i64 c.sh, .int .i64 c.p0, .int .i64 c.p1, .int .i64 c.p2, .int .i64 c.cy, .int .i64 c.ex, .int .i64 c.fi, .int .i64 c.la, .int .i64 c.po], .int .i64 n] w fun e w' => e = .returned (.tuple #[.int .i64 0, .int .i64 11]) ∧ Below w.heap.size w w')
    (cb : ∀ w, FTab w → Calls Tryd.prog 37 #[.agg #[.string c.nm, .int .i64 c.k, .int .i64 c.d, .int .i64 c.m, .int .i64 c.s, .int .i64 c.sh, .int .i64 c.p0, .int .i64 c.p1, .int .i64 c.p2, .int .i64 c.cy, .int .i64 c.ex, .int .i64 c.fi, .int .i64 c.la, .int .i64 c.po]] w fun e w' => e = .returned (.tuple #[.agg #[.int .i64 (a + 1), .int .i64 b], .int .i64 0]) ∧ Below w.heap.size w w')
    (tb : FTab w) :
    Calls Tryd.prog 13 #[.agg #[.string c.nm, .int .i64 c.k, .int .i64 c.d, .int .i64 c.m, .int .i64 c.s, .int .i64 c.sh, .int .i64 c.p0, .int .i64 c.p1, .int .i64 c.p2, .int .i64 c.cy, .int .i64 c.ex, .int .i64 c.fi, .int .i64 c.la, .int .i64 c.po], .int .i64 n] w fun e w' => e = .returned (.bool true) ∧ Below w.heap.size w w' := by
  go_enter Tryd.func13, Tryd.ntmps13
  go_wp2_with fail
  refine (jlive_ok _ ((tb).alloc (.cells #[.string c.nm, .int .i64 c.k, .int .i64 c.d, .int .i64 c.m, .int .i64 c.s, .int .i64 c.sh, .int .i64 c.p0, .int .i64 c.p1, .int .i64 c.p2, .int .i64 c.cy, .int .i64 c.ex, .int .i64 c.fi, .int .i64 c.la, .int .i64 c.po] 24))).mono ?_
  rintro e w1 ⟨rfl, hb⟩
  have C := (CalIn.new w c 24).kept hb
  have T1 := ((tb).alloc (.cells #[.string c.nm, .int .i64 c.k, .int .i64 c.d, .int .i64 c.m, .int .i64 c.s, .int .i64 c.sh, .int .i64 c.p0, .int .i64 c.p1, .int .i64 c.p2, .int .i64 c.cy, .int .i64 c.ex, .int .i64 c.fi, .int .i64 c.la, .int .i64 c.po] 24)).kept hb
  have B1 := bthen (balloc (Below.refl _ w) (.cells #[.string c.nm, .int .i64 c.k, .int .i64 c.d, .int .i64 c.m, .int .i64 c.s, .int .i64 c.sh, .int .i64 c.p0, .int .i64 c.p1, .int .i64 c.p2, .int .i64 c.cy, .int .i64 c.ex, .int .i64 c.fi, .int .i64 c.la, .int .i64 c.po] 24)) hb
  try simp only [World.size_alloc] at C
  clear hb
  obtain ⟨z0, C_0, C_1, C_2, C_3, C_4, C_5, C_6, C_7, C_8, C_9, C_10, C_11, C_12, C_13⟩ := id C
  go_wp2_with fail
  refine (co _ (T1)).mono ?_
  rintro e w2 ⟨rfl, hb⟩
  replace C := (C).kept hb
  have T2 := (T1).kept hb
  replace B1 := bthen B1 hb
  clear hb z0 C_0 C_1 C_2 C_3 C_4 C_5 C_6 C_7 C_8 C_9 C_10 C_11 C_12 C_13 T1
  obtain ⟨z0, C_0, C_1, C_2, C_3, C_4, C_5, C_6, C_7, C_8, C_9, C_10, C_11, C_12, C_13⟩ := id C
  go_wp2_with fail
  refine (cs _ (T2)).mono ?_
  rintro e w3 ⟨rfl, hb⟩
  replace C := (C).kept hb
  have T3 := (T2).kept hb
  replace B1 := bthen B1 hb
  clear hb z0 C_0 C_1 C_2 C_3 C_4 C_5 C_6 C_7 C_8 C_9 C_10 C_11 C_12 C_13 T2
  obtain ⟨z0, C_0, C_1, C_2, C_3, C_4, C_5, C_6, C_7, C_8, C_9, C_10, C_11, C_12, C_13⟩ := id C
  go_wp2_with fail
  refine (cb _ (T3)).mono ?_
  rintro e w4 ⟨rfl, hb⟩
  replace C := (C).kept hb
  have T4 := (T3).kept hb
  replace B1 := bthen B1 hb
  clear hb z0 C_0 C_1 C_2 C_3 C_4 C_5 C_6 C_7 C_8 C_9 C_10 C_11 C_12 C_13 T3
  obtain ⟨z0, C_0, C_1, C_2, C_3, C_4, C_5, C_6, C_7, C_8, C_9, C_10, C_11, C_12, C_13⟩ := id C
  go_wp2
  go_ret
  exact ⟨by simp, (balloc B1 (.cells #[.int .i64 (a + 1), .int .i64 b] 44))⟩

set_option maxHeartbeats 8000000 in
set_option maxRecDepth 100000 in
theorem jserved_s210 (c : CalZ) (n y a b : Int) (w : World) (p0 : decide (c.fi ≤ y) = true) (p1 : decide (y ≤ c.la) = false) (p2 : decide (a + 1 ≤ n) = false) (p4 : decide (n < 0) = false) (p5 : decide (3068037 ≤ n) = false) (dl : decide ((100 : Int) < (c.nm.size : Int)) = false)
    (co : ∀ w, FTab w → Calls Tryd.prog 33 #[.agg #[.string c.nm, .int .i64 c.k, .int .i64 c.d, .int .i64 c.m, .int .i64 c.s, .int .i64 c.sh, .int .i64 c.p0, .int .i64 c.p1, .int .i64 c.p2, .int .i64 c.cy, .int .i64 c.ex, .int .i64 c.fi, .int .i64 c.la, .int .i64 c.po], .int .i64 n] w fun e w' => e = .returned (.tuple #[.int .i64 y, .int .i64 0]) ∧ Below w.heap.size w w')
    (cs : ∀ w, FTab w → Calls Tryd.prog 39 #[.agg #[.string c.nm, .int .i64 c.k, .int .i64 c.d, .int .i64 c.m, .int .i64 c.s, .int .i64 c.sh, .int .i64 c.p0, .int .i64 c.p1, .int .i64 c.p2, .int .i64 c.cy, .int .i64 c.ex, .int .i64 c.fi, .int .i64 c.la, .int .i64 c.po], .int .i64 n] w fun e w' => e = .returned (.tuple #[.int .i64 0, .int .i64 11]) ∧ Below w.heap.size w w')
    (cb : ∀ w, FTab w → Calls Tryd.prog 37 #[.agg #[.string c.nm, .int .i64 c.k, .int .i64 c.d, .int .i64 c.m, .int .i64 c.s, .int .i64 c.sh, .int .i64 c.p0, .int .i64 c.p1, .int .i64 c.p2, .int .i64 c.cy, .int .i64 c.ex, .int .i64 c.fi, .int .i64 c.la, .int .i64 c.po]] w fun e w' => e = .returned (.tuple #[.agg #[.int .i64 (a + 1), .int .i64 b], .int .i64 0]) ∧ Below w.heap.size w w')
    (tb : FTab w) :
    Calls Tryd.prog 13 #[.agg #[.string c.nm, .int .i64 c.k, .int .i64 c.d, .int .i64 c.m, .int .i64 c.s, .int .i64 c.sh, .int .i64 c.p0, .int .i64 c.p1, .int .i64 c.p2, .int .i64 c.cy, .int .i64 c.ex, .int .i64 c.fi, .int .i64 c.la, .int .i64 c.po], .int .i64 n] w fun e w' => e = .returned (.bool true) ∧ Below w.heap.size w w' := by
  go_enter Tryd.func13, Tryd.ntmps13
  go_wp2_with fail
  refine (jlive_ok _ ((tb).alloc (.cells #[.string c.nm, .int .i64 c.k, .int .i64 c.d, .int .i64 c.m, .int .i64 c.s, .int .i64 c.sh, .int .i64 c.p0, .int .i64 c.p1, .int .i64 c.p2, .int .i64 c.cy, .int .i64 c.ex, .int .i64 c.fi, .int .i64 c.la, .int .i64 c.po] 24))).mono ?_
  rintro e w1 ⟨rfl, hb⟩
  have C := (CalIn.new w c 24).kept hb
  have T1 := ((tb).alloc (.cells #[.string c.nm, .int .i64 c.k, .int .i64 c.d, .int .i64 c.m, .int .i64 c.s, .int .i64 c.sh, .int .i64 c.p0, .int .i64 c.p1, .int .i64 c.p2, .int .i64 c.cy, .int .i64 c.ex, .int .i64 c.fi, .int .i64 c.la, .int .i64 c.po] 24)).kept hb
  have B1 := bthen (balloc (Below.refl _ w) (.cells #[.string c.nm, .int .i64 c.k, .int .i64 c.d, .int .i64 c.m, .int .i64 c.s, .int .i64 c.sh, .int .i64 c.p0, .int .i64 c.p1, .int .i64 c.p2, .int .i64 c.cy, .int .i64 c.ex, .int .i64 c.fi, .int .i64 c.la, .int .i64 c.po] 24)) hb
  try simp only [World.size_alloc] at C
  clear hb
  obtain ⟨z0, C_0, C_1, C_2, C_3, C_4, C_5, C_6, C_7, C_8, C_9, C_10, C_11, C_12, C_13⟩ := id C
  go_wp2_with fail
  refine (co _ (T1)).mono ?_
  rintro e w2 ⟨rfl, hb⟩
  replace C := (C).kept hb
  have T2 := (T1).kept hb
  replace B1 := bthen B1 hb
  clear hb z0 C_0 C_1 C_2 C_3 C_4 C_5 C_6 C_7 C_8 C_9 C_10 C_11 C_12 C_13 T1
  obtain ⟨z0, C_0, C_1, C_2, C_3, C_4, C_5, C_6, C_7, C_8, C_9, C_10, C_11, C_12, C_13⟩ := id C
  go_wp2_with fail
  refine (cs _ (T2)).mono ?_
  rintro e w3 ⟨rfl, hb⟩
  replace C := (C).kept hb
  have T3 := (T2).kept hb
  replace B1 := bthen B1 hb
  clear hb z0 C_0 C_1 C_2 C_3 C_4 C_5 C_6 C_7 C_8 C_9 C_10 C_11 C_12 C_13 T2
  obtain ⟨z0, C_0, C_1, C_2, C_3, C_4, C_5, C_6, C_7, C_8, C_9, C_10, C_11, C_12, C_13⟩ := id C
  go_wp2_with fail
  refine (cb _ (T3)).mono ?_
  rintro e w4 ⟨rfl, hb⟩
  replace C := (C).kept hb
  have T4 := (T3).kept hb
  replace B1 := bthen B1 hb
  clear hb z0 C_0 C_1 C_2 C_3 C_4 C_5 C_6 C_7 C_8 C_9 C_10 C_11 C_12 C_13 T3
  obtain ⟨z0, C_0, C_1, C_2, C_3, C_4, C_5, C_6, C_7, C_8, C_9, C_10, C_11, C_12, C_13⟩ := id C
  go_wp2
  go_ret
  exact ⟨by simp, (balloc B1 (.cells #[.int .i64 (a + 1), .int .i64 b] 44))⟩

set_option maxHeartbeats 8000000 in
set_option maxRecDepth 100000 in
theorem jserved_s211 (c : CalZ) (n y a b : Int) (w : World) (p0 : decide (c.fi ≤ y) = true) (p1 : decide (y ≤ c.la) = false) (p2 : decide (a + 1 ≤ n) = true) (p3 : decide (n ≤ b) = false) (p4 : decide (n < 0) = false) (p5 : decide (3068037 ≤ n) = false) (dl : decide ((100 : Int) < (c.nm.size : Int)) = false)
    (co : ∀ w, FTab w → Calls Tryd.prog 33 #[.agg #[.string c.nm, .int .i64 c.k, .int .i64 c.d, .int .i64 c.m, .int .i64 c.s, .int .i64 c.sh, .int .i64 c.p0, .int .i64 c.p1, .int .i64 c.p2, .int .i64 c.cy, .int .i64 c.ex, .int .i64 c.fi, .int .i64 c.la, .int .i64 c.po], .int .i64 n] w fun e w' => e = .returned (.tuple #[.int .i64 y, .int .i64 0]) ∧ Below w.heap.size w w')
    (cs : ∀ w, FTab w → Calls Tryd.prog 39 #[.agg #[.string c.nm, .int .i64 c.k, .int .i64 c.d, .int .i64 c.m, .int .i64 c.s, .int .i64 c.sh, .int .i64 c.p0, .int .i64 c.p1, .int .i64 c.p2, .int .i64 c.cy, .int .i64 c.ex, .int .i64 c.fi, .int .i64 c.la, .int .i64 c.po], .int .i64 n] w fun e w' => e = .returned (.tuple #[.int .i64 0, .int .i64 11]) ∧ Below w.heap.size w w')
    (cb : ∀ w, FTab w → Calls Tryd.prog 37 #[.agg #[.string c.nm, .int .i64 c.k, .int .i64 c.d, .int .i64 c.m, .int .i64 c.s, .int .i64 c.sh, .int .i64 c.p0, .int .i64 c.p1, .int .i64 c.p2, .int .i64 c.cy, .int .i64 c.ex, .int .i64 c.fi, .int .i64 c.la, .int .i64 c.po]] w fun e w' => e = .returned (.tuple #[.agg #[.int .i64 (a + 1), .int .i64 b], .int .i64 0]) ∧ Below w.heap.size w w')
    (tb : FTab w) :
    Calls Tryd.prog 13 #[.agg #[.string c.nm, .int .i64 c.k, .int .i64 c.d, .int .i64 c.m, .int .i64 c.s, .int .i64 c.sh, .int .i64 c.p0, .int .i64 c.p1, .int .i64 c.p2, .int .i64 c.cy, .int .i64 c.ex, .int .i64 c.fi, .int .i64 c.la, .int .i64 c.po], .int .i64 n] w fun e w' => e = .returned (.bool true) ∧ Below w.heap.size w w' := by
  go_enter Tryd.func13, Tryd.ntmps13
  go_wp2_with fail
  refine (jlive_ok _ ((tb).alloc (.cells #[.string c.nm, .int .i64 c.k, .int .i64 c.d, .int .i64 c.m, .int .i64 c.s, .int .i64 c.sh, .int .i64 c.p0, .int .i64 c.p1, .int .i64 c.p2, .int .i64 c.cy, .int .i64 c.ex, .int .i64 c.fi, .int .i64 c.la, .int .i64 c.po] 24))).mono ?_
  rintro e w1 ⟨rfl, hb⟩
  have C := (CalIn.new w c 24).kept hb
  have T1 := ((tb).alloc (.cells #[.string c.nm, .int .i64 c.k, .int .i64 c.d, .int .i64 c.m, .int .i64 c.s, .int .i64 c.sh, .int .i64 c.p0, .int .i64 c.p1, .int .i64 c.p2, .int .i64 c.cy, .int .i64 c.ex, .int .i64 c.fi, .int .i64 c.la, .int .i64 c.po] 24)).kept hb
  have B1 := bthen (balloc (Below.refl _ w) (.cells #[.string c.nm, .int .i64 c.k, .int .i64 c.d, .int .i64 c.m, .int .i64 c.s, .int .i64 c.sh, .int .i64 c.p0, .int .i64 c.p1, .int .i64 c.p2, .int .i64 c.cy, .int .i64 c.ex, .int .i64 c.fi, .int .i64 c.la, .int .i64 c.po] 24)) hb
  try simp only [World.size_alloc] at C
  clear hb
  obtain ⟨z0, C_0, C_1, C_2, C_3, C_4, C_5, C_6, C_7, C_8, C_9, C_10, C_11, C_12, C_13⟩ := id C
  go_wp2_with fail
  refine (co _ (T1)).mono ?_
  rintro e w2 ⟨rfl, hb⟩
  replace C := (C).kept hb
  have T2 := (T1).kept hb
  replace B1 := bthen B1 hb
  clear hb z0 C_0 C_1 C_2 C_3 C_4 C_5 C_6 C_7 C_8 C_9 C_10 C_11 C_12 C_13 T1
  obtain ⟨z0, C_0, C_1, C_2, C_3, C_4, C_5, C_6, C_7, C_8, C_9, C_10, C_11, C_12, C_13⟩ := id C
  go_wp2_with fail
  refine (cs _ (T2)).mono ?_
  rintro e w3 ⟨rfl, hb⟩
  replace C := (C).kept hb
  have T3 := (T2).kept hb
  replace B1 := bthen B1 hb
  clear hb z0 C_0 C_1 C_2 C_3 C_4 C_5 C_6 C_7 C_8 C_9 C_10 C_11 C_12 C_13 T2
  obtain ⟨z0, C_0, C_1, C_2, C_3, C_4, C_5, C_6, C_7, C_8, C_9, C_10, C_11, C_12, C_13⟩ := id C
  go_wp2_with fail
  refine (cb _ (T3)).mono ?_
  rintro e w4 ⟨rfl, hb⟩
  replace C := (C).kept hb
  have T4 := (T3).kept hb
  replace B1 := bthen B1 hb
  clear hb z0 C_0 C_1 C_2 C_3 C_4 C_5 C_6 C_7 C_8 C_9 C_10 C_11 C_12 C_13 T3
  obtain ⟨z0, C_0, C_1, C_2, C_3, C_4, C_5, C_6, C_7, C_8, C_9, C_10, C_11, C_12, C_13⟩ := id C
  go_wp2
  go_ret
  exact ⟨by simp, (balloc B1 (.cells #[.int .i64 (a + 1), .int .i64 b] 44))⟩

set_option maxHeartbeats 8000000 in
set_option maxRecDepth 100000 in
theorem jserved_s30 (c : CalZ) (n y a b : Int) (w : World) (p2 : decide (a + 1 ≤ n) = false) (p4 : decide (n < 0) = false) (p5 : decide (3068037 ≤ n) = false) (dl : decide ((100 : Int) < (c.nm.size : Int)) = false)
    (co : ∀ w, FTab w → Calls Tryd.prog 33 #[.agg #[.string c.nm, .int .i64 c.k, .int .i64 c.d, .int .i64 c.m, .int .i64 c.s, .int .i64 c.sh, .int .i64 c.p0, .int .i64 c.p1, .int .i64 c.p2, .int .i64 c.cy, .int .i64 c.ex, .int .i64 c.fi, .int .i64 c.la, .int .i64 c.po], .int .i64 n] w fun e w' => e = .returned (.tuple #[.int .i64 y, .int .i64 11]) ∧ Below w.heap.size w w')
    (cs : ∀ w, FTab w → Calls Tryd.prog 39 #[.agg #[.string c.nm, .int .i64 c.k, .int .i64 c.d, .int .i64 c.m, .int .i64 c.s, .int .i64 c.sh, .int .i64 c.p0, .int .i64 c.p1, .int .i64 c.p2, .int .i64 c.cy, .int .i64 c.ex, .int .i64 c.fi, .int .i64 c.la, .int .i64 c.po], .int .i64 n] w fun e w' => e = .returned (.tuple #[.int .i64 0, .int .i64 11]) ∧ Below w.heap.size w w')
    (cb : ∀ w, FTab w → Calls Tryd.prog 37 #[.agg #[.string c.nm, .int .i64 c.k, .int .i64 c.d, .int .i64 c.m, .int .i64 c.s, .int .i64 c.sh, .int .i64 c.p0, .int .i64 c.p1, .int .i64 c.p2, .int .i64 c.cy, .int .i64 c.ex, .int .i64 c.fi, .int .i64 c.la, .int .i64 c.po]] w fun e w' => e = .returned (.tuple #[.agg #[.int .i64 (a + 1), .int .i64 b], .int .i64 0]) ∧ Below w.heap.size w w')
    (tb : FTab w) :
    Calls Tryd.prog 13 #[.agg #[.string c.nm, .int .i64 c.k, .int .i64 c.d, .int .i64 c.m, .int .i64 c.s, .int .i64 c.sh, .int .i64 c.p0, .int .i64 c.p1, .int .i64 c.p2, .int .i64 c.cy, .int .i64 c.ex, .int .i64 c.fi, .int .i64 c.la, .int .i64 c.po], .int .i64 n] w fun e w' => e = .returned (.bool true) ∧ Below w.heap.size w w' := by
  go_enter Tryd.func13, Tryd.ntmps13
  go_wp2_with fail
  refine (jlive_ok _ ((tb).alloc (.cells #[.string c.nm, .int .i64 c.k, .int .i64 c.d, .int .i64 c.m, .int .i64 c.s, .int .i64 c.sh, .int .i64 c.p0, .int .i64 c.p1, .int .i64 c.p2, .int .i64 c.cy, .int .i64 c.ex, .int .i64 c.fi, .int .i64 c.la, .int .i64 c.po] 24))).mono ?_
  rintro e w1 ⟨rfl, hb⟩
  have C := (CalIn.new w c 24).kept hb
  have T1 := ((tb).alloc (.cells #[.string c.nm, .int .i64 c.k, .int .i64 c.d, .int .i64 c.m, .int .i64 c.s, .int .i64 c.sh, .int .i64 c.p0, .int .i64 c.p1, .int .i64 c.p2, .int .i64 c.cy, .int .i64 c.ex, .int .i64 c.fi, .int .i64 c.la, .int .i64 c.po] 24)).kept hb
  have B1 := bthen (balloc (Below.refl _ w) (.cells #[.string c.nm, .int .i64 c.k, .int .i64 c.d, .int .i64 c.m, .int .i64 c.s, .int .i64 c.sh, .int .i64 c.p0, .int .i64 c.p1, .int .i64 c.p2, .int .i64 c.cy, .int .i64 c.ex, .int .i64 c.fi, .int .i64 c.la, .int .i64 c.po] 24)) hb
  try simp only [World.size_alloc] at C
  clear hb
  obtain ⟨z0, C_0, C_1, C_2, C_3, C_4, C_5, C_6, C_7, C_8, C_9, C_10, C_11, C_12, C_13⟩ := id C
  go_wp2_with fail
  refine (co _ (T1)).mono ?_
  rintro e w2 ⟨rfl, hb⟩
  replace C := (C).kept hb
  have T2 := (T1).kept hb
  replace B1 := bthen B1 hb
  clear hb z0 C_0 C_1 C_2 C_3 C_4 C_5 C_6 C_7 C_8 C_9 C_10 C_11 C_12 C_13 T1
  obtain ⟨z0, C_0, C_1, C_2, C_3, C_4, C_5, C_6, C_7, C_8, C_9, C_10, C_11, C_12, C_13⟩ := id C
  go_wp2_with fail
  refine (cs _ (T2)).mono ?_
  rintro e w3 ⟨rfl, hb⟩
  replace C := (C).kept hb
  have T3 := (T2).kept hb
  replace B1 := bthen B1 hb
  clear hb z0 C_0 C_1 C_2 C_3 C_4 C_5 C_6 C_7 C_8 C_9 C_10 C_11 C_12 C_13 T2
  obtain ⟨z0, C_0, C_1, C_2, C_3, C_4, C_5, C_6, C_7, C_8, C_9, C_10, C_11, C_12, C_13⟩ := id C
  go_wp2_with fail
  refine (cb _ (T3)).mono ?_
  rintro e w4 ⟨rfl, hb⟩
  replace C := (C).kept hb
  have T4 := (T3).kept hb
  replace B1 := bthen B1 hb
  clear hb z0 C_0 C_1 C_2 C_3 C_4 C_5 C_6 C_7 C_8 C_9 C_10 C_11 C_12 C_13 T3
  obtain ⟨z0, C_0, C_1, C_2, C_3, C_4, C_5, C_6, C_7, C_8, C_9, C_10, C_11, C_12, C_13⟩ := id C
  go_wp2
  go_ret
  exact ⟨by simp, (balloc B1 (.cells #[.int .i64 (a + 1), .int .i64 b] 44))⟩

set_option maxHeartbeats 8000000 in
set_option maxRecDepth 100000 in
theorem jserved_s31 (c : CalZ) (n y a b : Int) (w : World) (p2 : decide (a + 1 ≤ n) = true) (p3 : decide (n ≤ b) = false) (p4 : decide (n < 0) = false) (p5 : decide (3068037 ≤ n) = false) (dl : decide ((100 : Int) < (c.nm.size : Int)) = false)
    (co : ∀ w, FTab w → Calls Tryd.prog 33 #[.agg #[.string c.nm, .int .i64 c.k, .int .i64 c.d, .int .i64 c.m, .int .i64 c.s, .int .i64 c.sh, .int .i64 c.p0, .int .i64 c.p1, .int .i64 c.p2, .int .i64 c.cy, .int .i64 c.ex, .int .i64 c.fi, .int .i64 c.la, .int .i64 c.po], .int .i64 n] w fun e w' => e = .returned (.tuple #[.int .i64 y, .int .i64 11]) ∧ Below w.heap.size w w')
    (cs : ∀ w, FTab w → Calls Tryd.prog 39 #[.agg #[.string c.nm, .int .i64 c.k, .int .i64 c.d, .int .i64 c.m, .int .i64 c.s, .int .i64 c.sh, .int .i64 c.p0, .int .i64 c.p1, .int .i64 c.p2, .int .i64 c.cy, .int .i64 c.ex, .int .i64 c.fi, .int .i64 c.la, .int .i64 c.po], .int .i64 n] w fun e w' => e = .returned (.tuple #[.int .i64 0, .int .i64 11]) ∧ Below w.heap.size w w')
    (cb : ∀ w, FTab w → Calls Tryd.prog 37 #[.agg #[.string c.nm, .int .i64 c.k, .int .i64 c.d, .int .i64 c.m, .int .i64 c.s, .int .i64 c.sh, .int .i64 c.p0, .int .i64 c.p1, .int .i64 c.p2, .int .i64 c.cy, .int .i64 c.ex, .int .i64 c.fi, .int .i64 c.la, .int .i64 c.po]] w fun e w' => e = .returned (.tuple #[.agg #[.int .i64 (a + 1), .int .i64 b], .int .i64 0]) ∧ Below w.heap.size w w')
    (tb : FTab w) :
    Calls Tryd.prog 13 #[.agg #[.string c.nm, .int .i64 c.k, .int .i64 c.d, .int .i64 c.m, .int .i64 c.s, .int .i64 c.sh, .int .i64 c.p0, .int .i64 c.p1, .int .i64 c.p2, .int .i64 c.cy, .int .i64 c.ex, .int .i64 c.fi, .int .i64 c.la, .int .i64 c.po], .int .i64 n] w fun e w' => e = .returned (.bool true) ∧ Below w.heap.size w w' := by
  go_enter Tryd.func13, Tryd.ntmps13
  go_wp2_with fail
  refine (jlive_ok _ ((tb).alloc (.cells #[.string c.nm, .int .i64 c.k, .int .i64 c.d, .int .i64 c.m, .int .i64 c.s, .int .i64 c.sh, .int .i64 c.p0, .int .i64 c.p1, .int .i64 c.p2, .int .i64 c.cy, .int .i64 c.ex, .int .i64 c.fi, .int .i64 c.la, .int .i64 c.po] 24))).mono ?_
  rintro e w1 ⟨rfl, hb⟩
  have C := (CalIn.new w c 24).kept hb
  have T1 := ((tb).alloc (.cells #[.string c.nm, .int .i64 c.k, .int .i64 c.d, .int .i64 c.m, .int .i64 c.s, .int .i64 c.sh, .int .i64 c.p0, .int .i64 c.p1, .int .i64 c.p2, .int .i64 c.cy, .int .i64 c.ex, .int .i64 c.fi, .int .i64 c.la, .int .i64 c.po] 24)).kept hb
  have B1 := bthen (balloc (Below.refl _ w) (.cells #[.string c.nm, .int .i64 c.k, .int .i64 c.d, .int .i64 c.m, .int .i64 c.s, .int .i64 c.sh, .int .i64 c.p0, .int .i64 c.p1, .int .i64 c.p2, .int .i64 c.cy, .int .i64 c.ex, .int .i64 c.fi, .int .i64 c.la, .int .i64 c.po] 24)) hb
  try simp only [World.size_alloc] at C
  clear hb
  obtain ⟨z0, C_0, C_1, C_2, C_3, C_4, C_5, C_6, C_7, C_8, C_9, C_10, C_11, C_12, C_13⟩ := id C
  go_wp2_with fail
  refine (co _ (T1)).mono ?_
  rintro e w2 ⟨rfl, hb⟩
  replace C := (C).kept hb
  have T2 := (T1).kept hb
  replace B1 := bthen B1 hb
  clear hb z0 C_0 C_1 C_2 C_3 C_4 C_5 C_6 C_7 C_8 C_9 C_10 C_11 C_12 C_13 T1
  obtain ⟨z0, C_0, C_1, C_2, C_3, C_4, C_5, C_6, C_7, C_8, C_9, C_10, C_11, C_12, C_13⟩ := id C
  go_wp2_with fail
  refine (cs _ (T2)).mono ?_
  rintro e w3 ⟨rfl, hb⟩
  replace C := (C).kept hb
  have T3 := (T2).kept hb
  replace B1 := bthen B1 hb
  clear hb z0 C_0 C_1 C_2 C_3 C_4 C_5 C_6 C_7 C_8 C_9 C_10 C_11 C_12 C_13 T2
  obtain ⟨z0, C_0, C_1, C_2, C_3, C_4, C_5, C_6, C_7, C_8, C_9, C_10, C_11, C_12, C_13⟩ := id C
  go_wp2_with fail
  refine (cb _ (T3)).mono ?_
  rintro e w4 ⟨rfl, hb⟩
  replace C := (C).kept hb
  have T4 := (T3).kept hb
  replace B1 := bthen B1 hb
  clear hb z0 C_0 C_1 C_2 C_3 C_4 C_5 C_6 C_7 C_8 C_9 C_10 C_11 C_12 C_13 T3
  obtain ⟨z0, C_0, C_1, C_2, C_3, C_4, C_5, C_6, C_7, C_8, C_9, C_10, C_11, C_12, C_13⟩ := id C
  go_wp2
  go_ret
  exact ⟨by simp, (balloc B1 (.cells #[.int .i64 (a + 1), .int .i64 b] 44))⟩

set_option maxHeartbeats 8000000 in
set_option maxRecDepth 100000 in
theorem jserved_s40 (c : CalZ) (n y a b : Int) (w : World) (p2 : decide (a + 1 ≤ n) = false) (p4 : decide (n < 0) = true) (dl : decide ((100 : Int) < (c.nm.size : Int)) = false)
    (co : ∀ w, FTab w → Calls Tryd.prog 33 #[.agg #[.string c.nm, .int .i64 c.k, .int .i64 c.d, .int .i64 c.m, .int .i64 c.s, .int .i64 c.sh, .int .i64 c.p0, .int .i64 c.p1, .int .i64 c.p2, .int .i64 c.cy, .int .i64 c.ex, .int .i64 c.fi, .int .i64 c.la, .int .i64 c.po], .int .i64 n] w fun e w' => e = .returned (.tuple #[.int .i64 y, .int .i64 4]) ∧ Below w.heap.size w w')
    (cs : ∀ w, FTab w → Calls Tryd.prog 39 #[.agg #[.string c.nm, .int .i64 c.k, .int .i64 c.d, .int .i64 c.m, .int .i64 c.s, .int .i64 c.sh, .int .i64 c.p0, .int .i64 c.p1, .int .i64 c.p2, .int .i64 c.cy, .int .i64 c.ex, .int .i64 c.fi, .int .i64 c.la, .int .i64 c.po], .int .i64 n] w fun e w' => e = .returned (.tuple #[.int .i64 0, .int .i64 4]) ∧ Below w.heap.size w w')
    (cb : ∀ w, FTab w → Calls Tryd.prog 37 #[.agg #[.string c.nm, .int .i64 c.k, .int .i64 c.d, .int .i64 c.m, .int .i64 c.s, .int .i64 c.sh, .int .i64 c.p0, .int .i64 c.p1, .int .i64 c.p2, .int .i64 c.cy, .int .i64 c.ex, .int .i64 c.fi, .int .i64 c.la, .int .i64 c.po]] w fun e w' => e = .returned (.tuple #[.agg #[.int .i64 (a + 1), .int .i64 b], .int .i64 0]) ∧ Below w.heap.size w w')
    (tb : FTab w) :
    Calls Tryd.prog 13 #[.agg #[.string c.nm, .int .i64 c.k, .int .i64 c.d, .int .i64 c.m, .int .i64 c.s, .int .i64 c.sh, .int .i64 c.p0, .int .i64 c.p1, .int .i64 c.p2, .int .i64 c.cy, .int .i64 c.ex, .int .i64 c.fi, .int .i64 c.la, .int .i64 c.po], .int .i64 n] w fun e w' => e = .returned (.bool true) ∧ Below w.heap.size w w' := by
  go_enter Tryd.func13, Tryd.ntmps13
  go_wp2_with fail
  refine (jlive_ok _ ((tb).alloc (.cells #[.string c.nm, .int .i64 c.k, .int .i64 c.d, .int .i64 c.m, .int .i64 c.s, .int .i64 c.sh, .int .i64 c.p0, .int .i64 c.p1, .int .i64 c.p2, .int .i64 c.cy, .int .i64 c.ex, .int .i64 c.fi, .int .i64 c.la, .int .i64 c.po] 24))).mono ?_
  rintro e w1 ⟨rfl, hb⟩
  have C := (CalIn.new w c 24).kept hb
  have T1 := ((tb).alloc (.cells #[.string c.nm, .int .i64 c.k, .int .i64 c.d, .int .i64 c.m, .int .i64 c.s, .int .i64 c.sh, .int .i64 c.p0, .int .i64 c.p1, .int .i64 c.p2, .int .i64 c.cy, .int .i64 c.ex, .int .i64 c.fi, .int .i64 c.la, .int .i64 c.po] 24)).kept hb
  have B1 := bthen (balloc (Below.refl _ w) (.cells #[.string c.nm, .int .i64 c.k, .int .i64 c.d, .int .i64 c.m, .int .i64 c.s, .int .i64 c.sh, .int .i64 c.p0, .int .i64 c.p1, .int .i64 c.p2, .int .i64 c.cy, .int .i64 c.ex, .int .i64 c.fi, .int .i64 c.la, .int .i64 c.po] 24)) hb
  try simp only [World.size_alloc] at C
  clear hb
  obtain ⟨z0, C_0, C_1, C_2, C_3, C_4, C_5, C_6, C_7, C_8, C_9, C_10, C_11, C_12, C_13⟩ := id C
  go_wp2_with fail
  refine (co _ (T1)).mono ?_
  rintro e w2 ⟨rfl, hb⟩
  replace C := (C).kept hb
  have T2 := (T1).kept hb
  replace B1 := bthen B1 hb
  clear hb z0 C_0 C_1 C_2 C_3 C_4 C_5 C_6 C_7 C_8 C_9 C_10 C_11 C_12 C_13 T1
  obtain ⟨z0, C_0, C_1, C_2, C_3, C_4, C_5, C_6, C_7, C_8, C_9, C_10, C_11, C_12, C_13⟩ := id C
  go_wp2_with fail
  refine (cs _ (T2)).mono ?_
  rintro e w3 ⟨rfl, hb⟩
  replace C := (C).kept hb
  have T3 := (T2).kept hb
  replace B1 := bthen B1 hb
  clear hb z0 C_0 C_1 C_2 C_3 C_4 C_5 C_6 C_7 C_8 C_9 C_10 C_11 C_12 C_13 T2
  obtain ⟨z0, C_0, C_1, C_2, C_3, C_4, C_5, C_6, C_7, C_8, C_9, C_10, C_11, C_12, C_13⟩ := id C
  go_wp2_with fail
  refine (cb _ (T3)).mono ?_
  rintro e w4 ⟨rfl, hb⟩
  replace C := (C).kept hb
  have T4 := (T3).kept hb
  replace B1 := bthen B1 hb
  clear hb z0 C_0 C_1 C_2 C_3 C_4 C_5 C_6 C_7 C_8 C_9 C_10 C_11 C_12 C_13 T3
  obtain ⟨z0, C_0, C_1, C_2, C_3, C_4, C_5, C_6, C_7, C_8, C_9, C_10, C_11, C_12, C_13⟩ := id C
  go_wp2
  go_ret
  exact ⟨by simp, (balloc B1 (.cells #[.int .i64 (a + 1), .int .i64 b] 44))⟩

set_option maxHeartbeats 8000000 in
set_option maxRecDepth 100000 in
theorem jserved_s41 (c : CalZ) (n y a b : Int) (w : World) (p2 : decide (a + 1 ≤ n) = true) (p3 : decide (n ≤ b) = false) (p4 : decide (n < 0) = false) (p5 : decide (3068037 ≤ n) = true) (dl : decide ((100 : Int) < (c.nm.size : Int)) = false)
    (co : ∀ w, FTab w → Calls Tryd.prog 33 #[.agg #[.string c.nm, .int .i64 c.k, .int .i64 c.d, .int .i64 c.m, .int .i64 c.s, .int .i64 c.sh, .int .i64 c.p0, .int .i64 c.p1, .int .i64 c.p2, .int .i64 c.cy, .int .i64 c.ex, .int .i64 c.fi, .int .i64 c.la, .int .i64 c.po], .int .i64 n] w fun e w' => e = .returned (.tuple #[.int .i64 y, .int .i64 4]) ∧ Below w.heap.size w w')
    (cs : ∀ w, FTab w → Calls Tryd.prog 39 #[.agg #[.string c.nm, .int .i64 c.k, .int .i64 c.d, .int .i64 c.m, .int .i64 c.s, .int .i64 c.sh, .int .i64 c.p0, .int .i64 c.p1, .int .i64 c.p2, .int .i64 c.cy, .int .i64 c.ex, .int .i64 c.fi, .int .i64 c.la, .int .i64 c.po], .int .i64 n] w fun e w' => e = .returned (.tuple #[.int .i64 0, .int .i64 4]) ∧ Below w.heap.size w w')
    (cb : ∀ w, FTab w → Calls Tryd.prog 37 #[.agg #[.string c.nm, .int .i64 c.k, .int .i64 c.d, .int .i64 c.m, .int .i64 c.s, .int .i64 c.sh, .int .i64 c.p0, .int .i64 c.p1, .int .i64 c.p2, .int .i64 c.cy, .int .i64 c.ex, .int .i64 c.fi, .int .i64 c.la, .int .i64 c.po]] w fun e w' => e = .returned (.tuple #[.agg #[.int .i64 (a + 1), .int .i64 b], .int .i64 0]) ∧ Below w.heap.size w w')
    (tb : FTab w) :
    Calls Tryd.prog 13 #[.agg #[.string c.nm, .int .i64 c.k, .int .i64 c.d, .int .i64 c.m, .int .i64 c.s, .int .i64 c.sh, .int .i64 c.p0, .int .i64 c.p1, .int .i64 c.p2, .int .i64 c.cy, .int .i64 c.ex, .int .i64 c.fi, .int .i64 c.la, .int .i64 c.po], .int .i64 n] w fun e w' => e = .returned (.bool true) ∧ Below w.heap.size w w' := by
  go_enter Tryd.func13, Tryd.ntmps13
  go_wp2_with fail
  refine (jlive_ok _ ((tb).alloc (.cells #[.string c.nm, .int .i64 c.k, .int .i64 c.d, .int .i64 c.m, .int .i64 c.s, .int .i64 c.sh, .int .i64 c.p0, .int .i64 c.p1, .int .i64 c.p2, .int .i64 c.cy, .int .i64 c.ex, .int .i64 c.fi, .int .i64 c.la, .int .i64 c.po] 24))).mono ?_
  rintro e w1 ⟨rfl, hb⟩
  have C := (CalIn.new w c 24).kept hb
  have T1 := ((tb).alloc (.cells #[.string c.nm, .int .i64 c.k, .int .i64 c.d, .int .i64 c.m, .int .i64 c.s, .int .i64 c.sh, .int .i64 c.p0, .int .i64 c.p1, .int .i64 c.p2, .int .i64 c.cy, .int .i64 c.ex, .int .i64 c.fi, .int .i64 c.la, .int .i64 c.po] 24)).kept hb
  have B1 := bthen (balloc (Below.refl _ w) (.cells #[.string c.nm, .int .i64 c.k, .int .i64 c.d, .int .i64 c.m, .int .i64 c.s, .int .i64 c.sh, .int .i64 c.p0, .int .i64 c.p1, .int .i64 c.p2, .int .i64 c.cy, .int .i64 c.ex, .int .i64 c.fi, .int .i64 c.la, .int .i64 c.po] 24)) hb
  try simp only [World.size_alloc] at C
  clear hb
  obtain ⟨z0, C_0, C_1, C_2, C_3, C_4, C_5, C_6, C_7, C_8, C_9, C_10, C_11, C_12, C_13⟩ := id C
  go_wp2_with fail
  refine (co _ (T1)).mono ?_
  rintro e w2 ⟨rfl, hb⟩
  replace C := (C).kept hb
  have T2 := (T1).kept hb
  replace B1 := bthen B1 hb
  clear hb z0 C_0 C_1 C_2 C_3 C_4 C_5 C_6 C_7 C_8 C_9 C_10 C_11 C_12 C_13 T1
  obtain ⟨z0, C_0, C_1, C_2, C_3, C_4, C_5, C_6, C_7, C_8, C_9, C_10, C_11, C_12, C_13⟩ := id C
  go_wp2_with fail
  refine (cs _ (T2)).mono ?_
  rintro e w3 ⟨rfl, hb⟩
  replace C := (C).kept hb
  have T3 := (T2).kept hb
  replace B1 := bthen B1 hb
  clear hb z0 C_0 C_1 C_2 C_3 C_4 C_5 C_6 C_7 C_8 C_9 C_10 C_11 C_12 C_13 T2
  obtain ⟨z0, C_0, C_1, C_2, C_3, C_4, C_5, C_6, C_7, C_8, C_9, C_10, C_11, C_12, C_13⟩ := id C
  go_wp2_with fail
  refine (cb _ (T3)).mono ?_
  rintro e w4 ⟨rfl, hb⟩
  replace C := (C).kept hb
  have T4 := (T3).kept hb
  replace B1 := bthen B1 hb
  clear hb z0 C_0 C_1 C_2 C_3 C_4 C_5 C_6 C_7 C_8 C_9 C_10 C_11 C_12 C_13 T3
  obtain ⟨z0, C_0, C_1, C_2, C_3, C_4, C_5, C_6, C_7, C_8, C_9, C_10, C_11, C_12, C_13⟩ := id C
  go_wp2
  go_ret
  exact ⟨by simp, (balloc B1 (.cells #[.int .i64 (a + 1), .int .i64 b] 44))⟩

set_option maxRecDepth 100000 in
theorem jserved_walk (c : CalZ) (n : Int) (w : World) (wf : CalWf c) (wy : (Lit.int .i64 n).wf = true) (tb : FTab w) :
    Calls Tryd.prog 13 #[.agg #[.string c.nm, .int .i64 c.k, .int .i64 c.d, .int .i64 c.m, .int .i64 c.s, .int .i64 c.sh, .int .i64 c.p0, .int .i64 c.p1, .int .i64 c.p2, .int .i64 c.cy, .int .i64 c.ex, .int .i64 c.fi, .int .i64 c.la, .int .i64 c.po], .int .i64 n] w fun e w' => e = .returned (.bool true) ∧ Below w.heap.size w w' := by
  have hm := wf.1
  clear wy
  by_cases hl : 100 < c.nm.size
  · have dl : decide ((100 : Int) < (c.nm.size : Int)) = true := decide_eq_true (by omega)
    clear hl
    go_enter Tryd.func13, Tryd.ntmps13
    go_wp2_with fail
    refine (jlive_ok _ ((tb).alloc (.cells #[.string c.nm, .int .i64 c.k, .int .i64 c.d, .int .i64 c.m, .int .i64 c.s, .int .i64 c.sh, .int .i64 c.p0, .int .i64 c.p1, .int .i64 c.p2, .int .i64 c.cy, .int .i64 c.ex, .int .i64 c.fi, .int .i64 c.la, .int .i64 c.po] 24))).mono ?_
    rintro e w1 ⟨rfl, hb⟩
    have C := (CalIn.new w c 24).kept hb
    have T1 := ((tb).alloc (.cells #[.string c.nm, .int .i64 c.k, .int .i64 c.d, .int .i64 c.m, .int .i64 c.s, .int .i64 c.sh, .int .i64 c.p0, .int .i64 c.p1, .int .i64 c.p2, .int .i64 c.cy, .int .i64 c.ex, .int .i64 c.fi, .int .i64 c.la, .int .i64 c.po] 24)).kept hb
    have B1 := bthen (balloc (Below.refl _ w) (.cells #[.string c.nm, .int .i64 c.k, .int .i64 c.d, .int .i64 c.m, .int .i64 c.s, .int .i64 c.sh, .int .i64 c.p0, .int .i64 c.p1, .int .i64 c.p2, .int .i64 c.cy, .int .i64 c.ex, .int .i64 c.fi, .int .i64 c.la, .int .i64 c.po] 24)) hb
    try simp only [World.size_alloc] at C
    clear hb
    obtain ⟨z0, C_0, C_1, C_2, C_3, C_4, C_5, C_6, C_7, C_8, C_9, C_10, C_11, C_12, C_13⟩ := id C
    go_wp2
    go_ret
    exact ⟨by simp, B1⟩
  · have dl : decide ((100 : Int) < (c.nm.size : Int)) = false := decide_eq_false (by omega)
    clear hl
    by_cases ok : CalOk c
    · obtain ⟨y, er, R⟩ := ofa_ex c n
      have co := fun w T => Of_any c n y er w R hm T
      have yo := ok.2.2.1
      obtain ⟨q0, q1, q2, q3⟩ := yo
      obtain ⟨a, ha⟩ : ∃ a, a = yend c (c.fi - 1) := ⟨_, rfl⟩
      obtain ⟨b, hb'⟩ : ∃ b, b = yend c c.la := ⟨_, rfl⟩
      have bd := yend_bd ok.1 (y := c.fi - 1) (by omega) (by omega)
      have bz := yend_bd ok.1 (y := c.la) (by omega) (by omega)
      have cb := fun w T => Bounds_any c (a + 1) b 0 w (.inl ⟨ok, by rw [ha], hb', rfl⟩) hm T
      have O : ∃ v f, ServedA c n v f ∧ ((er = 0 ∧ c.fi ≤ y ∧ y ≤ c.la ∧ a < n ∧ n ≤ b ∧ v = y ∧ f = 0) ∨ (er = 0 ∧ (y < c.fi ∨ (c.fi ≤ y ∧ c.la < y)) ∧ (n < a + 1 ∨ (a + 1 ≤ n ∧ b < n)) ∧ v = 0 ∧ f = 11 ∧ 0 ≤ n ∧ n ≤ 3068036) ∨ (er = 11 ∧ (n < a + 1 ∨ (a + 1 ≤ n ∧ b < n)) ∧ v = 0 ∧ f = 11 ∧ 0 ≤ n ∧ n ≤ 3068036) ∨
          (er = 4 ∧ ((n < a + 1 ∧ n < 0) ∨ (a + 1 ≤ n ∧ b < n ∧ 3068036 < n)) ∧ v = 0 ∧ f = 4)) := by
        rcases R with ⟨_, n0, n1, y0, y1, ya, yb, h⟩ | ⟨_, n0, n1, h2, h3, h⟩ | ⟨_, h2, h3, h⟩ | ⟨no, _⟩
        · by_cases k : c.fi ≤ y ∧ y ≤ c.la
          · have l1 := yend_le ok.1 (a := c.fi - 1) (b := y - 1) (by omega) (by omega) (by omega)
            have l2 := yend_le ok.1 (a := y) (b := c.la) (by omega) (by omega) (by omega)
            exact ⟨y, 0, ⟨y, er, .inl ⟨ok, n0, n1, y0, y1, ya, yb, h⟩, .inr (.inl ⟨h, k.1, k.2, rfl, rfl⟩)⟩, .inl ⟨h, k.1, k.2, by omega, by omega, rfl, rfl⟩⟩
          · refine ⟨0, 11, ⟨y, er, .inl ⟨ok, n0, n1, y0, y1, ya, yb, h⟩, .inr (.inr ⟨h, k, rfl, rfl⟩)⟩, .inr (.inl ⟨h, by omega, ?_, rfl, rfl, n0, n1⟩)⟩
            by_cases k2 : y < c.fi
            · have l1 := yend_le ok.1 (a := y) (b := c.fi - 1) (by omega) (by omega) (by omega)
              omega
            · have l1 := yend_le ok.1 (a := c.la) (b := y - 1) (by omega) (by omega) (by omega)
              omega
        · refine ⟨0, 11, ⟨y, er, .inr (.inl ⟨ok, n0, n1, h2, h3, h⟩), .inl ⟨by omega, rfl, h.symm⟩⟩, .inr (.inr (.inl ⟨h, ?_, rfl, rfl, n0, n1⟩))⟩
          have l1 := yend_le ok.1 (a := 1600) (b := c.fi - 1) (by omega) (by omega) (by omega)
          have l2 := yend_le ok.1 (a := c.la) (b := 9997) (by omega) (by omega) (by omega)
          omega
        · refine ⟨0, 4, ⟨y, er, .inr (.inr (.inl ⟨ok, h2, h3, h⟩)), .inl ⟨by omega, rfl, h.symm⟩⟩, .inr (.inr (.inr ⟨h, by omega, rfl, rfl⟩))⟩
        · exact absurd ok no
      obtain ⟨v, f, RS, O⟩ := O
      have cs := fun w T => Served_any c n v f w RS hm T
      rw [← ha] at bd
      rw [← hb'] at bz
      obtain ⟨a0, a1⟩ := bd
      obtain ⟨b0, b1⟩ := bz
      rcases O with ⟨rfl, h1, h2, h3, h4, rfl, rfl⟩ | ⟨rfl, h1 | ⟨h1, h11⟩, h2 | ⟨h2, h22⟩, rfl, rfl, h5, h6⟩ | ⟨rfl, h2 | ⟨h2, h22⟩, rfl, rfl, h5, h6⟩ | ⟨rfl, ⟨h2, h22⟩ | ⟨h2, h22, h23⟩, rfl, rfl⟩
      · exact jserved_s1 c n _ a b w (decide_eq_true (by omega)) (decide_eq_true (by omega)) (decide_eq_true (by omega)) (decide_eq_true (by omega)) dl co cs cb tb
      · exact jserved_s200 c n _ a b w (decide_eq_false (by omega)) (decide_eq_false (by omega)) (decide_eq_false (by omega)) (decide_eq_false (by omega)) dl co cs cb tb
      · exact jserved_s201 c n _ a b w (decide_eq_false (by omega)) (decide_eq_true (by omega)) (decide_eq_false (by omega)) (decide_eq_false (by omega)) (decide_eq_false (by omega)) dl co cs cb tb
      · exact jserved_s210 c n _ a b w (decide_eq_true (by omega)) (decide_eq_false (by omega)) (decide_eq_false (by omega)) (decide_eq_false (by omega)) (decide_eq_false (by omega)) dl co cs cb tb
      · exact jserved_s211 c n _ a b w (decide_eq_true (by omega)) (decide_eq_false (by omega)) (decide_eq_true (by omega)) (decide_eq_false (by omega)) (decide_eq_false (by omega)) (decide_eq_false (by omega)) dl co cs cb tb
      · exact jserved_s30 c n _ a b w (decide_eq_false (by omega)) (decide_eq_false (by omega)) (decide_eq_false (by omega)) dl co cs cb tb
      · exact jserved_s31 c n _ a b w (decide_eq_true (by omega)) (decide_eq_false (by omega)) (decide_eq_false (by omega)) (decide_eq_false (by omega)) dl co cs cb tb
      · exact jserved_s40 c n _ a b w (decide_eq_false (by omega)) (decide_eq_true (by omega)) dl co cs cb tb
      · exact jserved_s41 c n _ a b w (decide_eq_true (by omega)) (decide_eq_false (by omega)) (decide_eq_false (by omega)) (decide_eq_true (by omega)) dl co cs cb tb
    · have co := fun w T => Of_any c n 0 1 w (.inr (.inr (.inr ⟨ok, rfl, rfl⟩))) hm T
      have cs := fun w T => Served_any c n 0 1 w ⟨0, 1, .inr (.inr (.inr ⟨ok, rfl, rfl⟩)), .inl ⟨by decide, rfl, rfl⟩⟩ hm T
      have cb := fun w T => Bounds_any c 0 0 1 w (.inr ⟨ok, rfl, rfl, rfl⟩) hm T
      have ck := fun w T => Check_any c 1 w (.inr ⟨ok, rfl⟩) hm T
      clear ok hm
      go_enter Tryd.func13, Tryd.ntmps13
      go_wp2_with fail
      refine (jlive_ok _ ((tb).alloc (.cells #[.string c.nm, .int .i64 c.k, .int .i64 c.d, .int .i64 c.m, .int .i64 c.s, .int .i64 c.sh, .int .i64 c.p0, .int .i64 c.p1, .int .i64 c.p2, .int .i64 c.cy, .int .i64 c.ex, .int .i64 c.fi, .int .i64 c.la, .int .i64 c.po] 24))).mono ?_
      rintro e w1 ⟨rfl, hb⟩
      have C := (CalIn.new w c 24).kept hb
      have T1 := ((tb).alloc (.cells #[.string c.nm, .int .i64 c.k, .int .i64 c.d, .int .i64 c.m, .int .i64 c.s, .int .i64 c.sh, .int .i64 c.p0, .int .i64 c.p1, .int .i64 c.p2, .int .i64 c.cy, .int .i64 c.ex, .int .i64 c.fi, .int .i64 c.la, .int .i64 c.po] 24)).kept hb
      have B1 := bthen (balloc (Below.refl _ w) (.cells #[.string c.nm, .int .i64 c.k, .int .i64 c.d, .int .i64 c.m, .int .i64 c.s, .int .i64 c.sh, .int .i64 c.p0, .int .i64 c.p1, .int .i64 c.p2, .int .i64 c.cy, .int .i64 c.ex, .int .i64 c.fi, .int .i64 c.la, .int .i64 c.po] 24)) hb
      try simp only [World.size_alloc] at C
      clear hb
      obtain ⟨z0, C_0, C_1, C_2, C_3, C_4, C_5, C_6, C_7, C_8, C_9, C_10, C_11, C_12, C_13⟩ := id C
      go_wp2_with fail
      refine (co _ (T1)).mono ?_
      rintro e w2 ⟨rfl, hb⟩
      replace C := (C).kept hb
      have T2 := (T1).kept hb
      replace B1 := bthen B1 hb
      clear hb z0 C_0 C_1 C_2 C_3 C_4 C_5 C_6 C_7 C_8 C_9 C_10 C_11 C_12 C_13 T1
      obtain ⟨z0, C_0, C_1, C_2, C_3, C_4, C_5, C_6, C_7, C_8, C_9, C_10, C_11, C_12, C_13⟩ := id C
      go_wp2_with fail
      refine (cs _ (T2)).mono ?_
      rintro e w3 ⟨rfl, hb⟩
      replace C := (C).kept hb
      have T3 := (T2).kept hb
      replace B1 := bthen B1 hb
      clear hb z0 C_0 C_1 C_2 C_3 C_4 C_5 C_6 C_7 C_8 C_9 C_10 C_11 C_12 C_13 T2
      obtain ⟨z0, C_0, C_1, C_2, C_3, C_4, C_5, C_6, C_7, C_8, C_9, C_10, C_11, C_12, C_13⟩ := id C
      go_wp2_with fail
      refine (cb _ (T3)).mono ?_
      rintro e w4 ⟨rfl, hb⟩
      replace C := (C).kept hb
      have T4 := (T3).kept hb
      replace B1 := bthen B1 hb
      clear hb z0 C_0 C_1 C_2 C_3 C_4 C_5 C_6 C_7 C_8 C_9 C_10 C_11 C_12 C_13 T3
      obtain ⟨z0, C_0, C_1, C_2, C_3, C_4, C_5, C_6, C_7, C_8, C_9, C_10, C_11, C_12, C_13⟩ := id C
      go_wp2_with fail
      refine (ck _ ((T4).alloc (.cells #[.int .i64 0, .int .i64 0] 44))).mono ?_
      rintro e w5 ⟨rfl, hb⟩
      replace C := ((C).alloc (.cells #[.int .i64 0, .int .i64 0] 44)).kept hb
      have S := (Two.new w4 (.int .i64 0) (.int .i64 0) 44).kept hb
      have T5 := ((T4).alloc (.cells #[.int .i64 0, .int .i64 0] 44)).kept hb
      replace B1 := bthen (balloc B1 (.cells #[.int .i64 0, .int .i64 0] 44)) hb
      try simp only [World.size_alloc] at C S
      clear hb z0 C_0 C_1 C_2 C_3 C_4 C_5 C_6 C_7 C_8 C_9 C_10 C_11 C_12 C_13 T4
      obtain ⟨z0, C_0, C_1, C_2, C_3, C_4, C_5, C_6, C_7, C_8, C_9, C_10, C_11, C_12, C_13⟩ := id C
      obtain ⟨z1, S_0, S_1, _, _⟩ := id S
      go_wp2
      go_ret
      exact ⟨by simp, B1⟩

end Go.Proofs.YtkpjkdeomoecjaaDoor.Jl
