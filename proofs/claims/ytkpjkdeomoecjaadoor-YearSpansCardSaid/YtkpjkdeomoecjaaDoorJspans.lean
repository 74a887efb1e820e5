/- YearSpans' walk. -/
import Derived.Test.YtkpjkdeomoecjaaDoorJlive
import Derived.Test.YtkpjkdeomoecjaaDoorJlaw
namespace Go.Proofs.YtkpjkdeomoecjaaDoor.Jl
set_option linter.unusedSimpArgs false
set_option linter.unusedVariables false
open Go.RowKit Go.Proofs.YtkpjkdeomoecjaaDoor.Bn Go.Proofs.YtkpjkdeomoecjaaDoor.Am Go.Proofs.YtkpjkdeomoecjaaDoor.Fp Go.Proofs.YtkpjkdeomoecjaaDoor.Ap Go.Proofs.YtkpjkdeomoecjaaDoor.Cm Go.Proofs.YtkpjkdeomoecjaaDoor.Em Go.Proofs.YtkpjkdeomoecjaaDoor.Ep Go.Proofs.YtkpjkdeomoecjaaDoor.Bx Go.Proofs.YtkpjkdeomoecjaaDoor.Pr Go.Proofs.YtkpjkdeomoecjaaDoor.Jp

open Go.Proofs.YtkpjkdeomoecjaaDoor.Cp (Tab Day_any Length_any Weekday_any)

set_option maxHeartbeats 1000000

set_option maxRecDepth 100000 in
theorem jspans_walk (c : CalZ)  (w : World) (wf : CalWf c) (tb : FTab w) :
    Calls Tryd.prog 14 #[.agg #[.string c.nm, .int .i64 c.k, .int .i64 c.d, .int .i64 c.m, .int .i64 c.s, .int .i64 c.sh, .int .i64 c.p0, .int .i64 c.p1, .int .i64 c.p2, .int .i64 c.cy, .int .i64 c.ex, .int .i64 c.fi, .int .i64 c.la, .int .i64 c.po]] w fun e w' => e = .returned (.bool true) ∧ Below w.heap.size w w' := by
  have hm := wf.1
  by_cases hl : 100 < c.nm.size
  · have dl : decide ((100 : Int) < (c.nm.size : Int)) = true := decide_eq_true (by omega)
    clear hl
    go_enter Tryd.func14, Tryd.ntmps14
    go_wp2_with fail
    refine (jlive_ok _ ((tb).alloc (.cells #[.string c.nm, .int .i64 c.k, .int .i64 c.d, .int .i64 c.m, .int .i64 c.s, .int .i64 c.sh, .int .i64 c.p0, .int .i64 c.p1, .int .i64 c.p2, .int .i64 c.cy, .int .i64 c.ex, .int .i64 c.fi, .int .i64 c.la, .int .i64 c.po] 24))).mono ?_
    rintro e w1 ⟨rfl, hb⟩
    have C := (CalIn.new w c 24).kept hb
    have T1 := ((tb).alloc (.cells #[.string c.nm, .int .i64 c.k, .int .i64 c.d, .int .i64 c.m, .int .i64 c.s, .int .i64 c.sh, .int .i64 c.p0, .int .i64 c.p1, .int .i64 c.p2, .int .i64 c.cy, .int .i64 c.ex, .int .i64 c.fi, .int .i64 c.la, .int .i64 c.po] 24)).kept hb
    have B1 := bthen (balloc (Below.refl _ w) (.cells #[.string c.nm, .int .i64 c.k, .int .i64 c.d, .int .i64 c.m, .int .i64 c.s, .int .i64 c.sh, .int .i64 c.p0, .int .i64 c.p1, .int .i64 c.p2, .int .i64 c.cy, .int .i64 c.ex, .int .i64 c.fi, .int .i64 c.la, .int .i64 c.po] 24)) hb
    try simp only [World.size_alloc] at C
    clear hb
    obtain ⟨z0, C_0, C_1, C_2, C_3, C_4, C_5, C_6, C_7, C_8, C_9, C_10, C_11, C_12, C_13⟩ := id C
    go_wp2
    go_ret
    exact ⟨by simp, B1⟩
  · have dl : decide ((100 : Int) < (c.nm.size : Int)) = false := decide_eq_false (by omega)
    clear hl
    by_cases ok : CalOk c
    · have yo := ok.2.2.1
      obtain ⟨q0, q1, q2, q3⟩ := yo
      obtain ⟨a, ha⟩ : ∃ a, a = yend c (c.fi - 1) := ⟨_, rfl⟩
      obtain ⟨b, hb'⟩ : ∃ b, b = yend c c.la := ⟨_, rfl⟩
      have bd := yend_bd ok.1 (y := c.fi - 1) (by omega) (by omega)
      have bz := yend_bd ok.1 (y := c.la) (by omega) (by omega)
      have l := yend_lt ok.1 (a := c.fi - 1) (b := c.la) (by omega) (by omega) (by omega)
      have cb := fun w T => Bounds_any c (a + 1) b 0 w (.inl ⟨ok, by rw [ha], hb', rfl⟩) hm T
      have cs := fun w T => Start_any c c.fi (a + 1) 0 w (.inl ⟨ok, by omega, by omega, by rw [ha], rfl⟩) hm T
      have ce := fun w T => End_any c c.la b 0 w (.inl ⟨ok, by omega, by omega, hb', rfl⟩) hm T
      rw [← ha] at bd l
      rw [← hb'] at bz l
      obtain ⟨a0, a1⟩ := bd
      obtain ⟨b0, b1⟩ := bz
      obtain ⟨l0, l1⟩ := l
      clear ok ha hb' hm
      go_enter Tryd.func14, Tryd.ntmps14
      go_wp2_with fail
      refine (jlive_ok _ ((tb).alloc (.cells #[.string c.nm, .int .i64 c.k, .int .i64 c.d, .int .i64 c.m, .int .i64 c.s, .int .i64 c.sh, .int .i64 c.p0, .int .i64 c.p1, .int .i64 c.p2, .int .i64 c.cy, .int .i64 c.ex, .int .i64 c.fi, .int .i64 c.la, .int .i64 c.po] 24))).mono ?_
      rintro e w1 ⟨rfl, hb⟩
      have C := (CalIn.new w c 24).kept hb
      have T1 := ((tb).alloc (.cells #[.string c.nm, .int .i64 c.k, .int .i64 c.d, .int .i64 c.m, .int .i64 c.s, .int .i64 c.sh, .int .i64 c.p0, .int .i64 c.p1, .int .i64 c.p2, .int .i64 c.cy, .int .i64 c.ex, .int .i64 c.fi, .int .i64 c.la, .int .i64 c.po] 24)).kept hb
      have B1 := bthen (balloc (Below.refl _ w) (.cells #[.string c.nm, .int .i64 c.k, .int .i64 c.d, .int .i64 c.m, .int .i64 c.s, .int .i64 c.sh, .int .i64 c.p0, .int .i64 c.p1, .int .i64 c.p2, .int .i64 c.cy, .int .i64 c.ex, .int .i64 c.fi, .int .i64 c.la, .int .i64 c.po] 24)) hb
      try simp only [World.size_alloc] at C
      clear hb
      obtain ⟨z0, C_0, C_1, C_2, C_3, C_4, C_5, C_6, C_7, C_8, C_9, C_10, C_11, C_12, C_13⟩ := id C
      go_wp2_with fail
      refine (cb _ (T1)).mono ?_
      rintro e w2 ⟨rfl, hb⟩
      replace C := (C).kept hb
      have T2 := (T1).kept hb
      replace B1 := bthen B1 hb
      clear hb z0 C_0 C_1 C_2 C_3 C_4 C_5 C_6 C_7 C_8 C_9 C_10 C_11 C_12 C_13 T1
      obtain ⟨z0, C_0, C_1, C_2, C_3, C_4, C_5, C_6, C_7, C_8, C_9, C_10, C_11, C_12, C_13⟩ := id C
      go_wp2_with fail
      refine (cs _ ((T2).alloc (.cells #[.int .i64 (a + 1), .int .i64 b] 44))).mono ?_
      rintro e w3 ⟨rfl, hb⟩
      replace C := ((C).alloc (.cells #[.int .i64 (a + 1), .int .i64 b] 44)).kept hb
      have S := (Two.new w2 (.int .i64 (a + 1)) (.int .i64 b) 44).kept hb
      have T3 := ((T2).alloc (.cells #[.int .i64 (a + 1), .int .i64 b] 44)).kept hb
      replace B1 := bthen (balloc B1 (.cells #[.int .i64 (a + 1), .int .i64 b] 44)) hb
      try simp only [World.size_alloc] at C S
      clear hb z0 C_0 C_1 C_2 C_3 C_4 C_5 C_6 C_7 C_8 C_9 C_10 C_11 C_12 C_13 T2
      obtain ⟨z0, C_0, C_1, C_2, C_3, C_4, C_5, C_6, C_7, C_8, C_9, C_10, C_11, C_12, C_13⟩ := id C
      obtain ⟨z1, S_0, S_1, _, _⟩ := id S
      go_wp2_with fail
      refine (ce _ (T3)).mono ?_
      rintro e w4 ⟨rfl, hb⟩
      replace C := (C).kept hb
      replace S := (S).kept hb
      have T4 := (T3).kept hb
      replace B1 := bthen B1 hb
      clear hb z0 C_0 C_1 C_2 C_3 C_4 C_5 C_6 C_7 C_8 C_9 C_10 C_11 C_12 C_13 z1 S_0 S_1 T3
      obtain ⟨z0, C_0, C_1, C_2, C_3, C_4, C_5, C_6, C_7, C_8, C_9, C_10, C_11, C_12, C_13⟩ := id C
      obtain ⟨z1, S_0, S_1, _, _⟩ := id S
      go_wp2
      go_ret
      exact ⟨by simp <;> omega, B1⟩
    · have cb := fun w T => Bounds_any c 0 0 1 w (.inr ⟨ok, rfl, rfl, rfl⟩) hm T
      have ck := fun w T => Check_any c 1 w (.inr ⟨ok, rfl⟩) hm T
      clear ok hm
      go_enter Tryd.func14, Tryd.ntmps14
      go_wp2_with fail
      refine (jlive_ok _ ((tb).alloc (.cells #[.string c.nm, .int .i64 c.k, .int .i64 c.d, .int .i64 c.m, .int .i64 c.s, .int .i64 c.sh, .int .i64 c.p0, .int .i64 c.p1, .int .i64 c.p2, .int .i64 c.cy, .int .i64 c.ex, .int .i64 c.fi, .int .i64 c.la, .int .i64 c.po] 24))).mono ?_
      rintro e w1 ⟨rfl, hb⟩
      have C := (CalIn.new w c 24).kept hb
      have T1 := ((tb).alloc (.cells #[.string c.nm, .int .i64 c.k, .int .i64 c.d, .int .i64 c.m, .int .i64 c.s, .int .i64 c.sh, .int .i64 c.p0, .int .i64 c.p1, .int .i64 c.p2, .int .i64 c.cy, .int .i64 c.ex, .int .i64 c.fi, .int .i64 c.la, .int .i64 c.po] 24)).kept hb
      have B1 := bthen (balloc (Below.refl _ w) (.cells #[.string c.nm, .int .i64 c.k, .int .i64 c.d, .int .i64 c.m, .int .i64 c.s, .int .i64 c.sh, .int .i64 c.p0, .int .i64 c.p1, .int .i64 c.p2, .int .i64 c.cy, .int .i64 c.ex, .int .i64 c.fi, .int .i64 c.la, .int .i64 c.po] 24)) hb
      try simp only [World.size_alloc] at C
      clear hb
      obtain ⟨z0, C_0, C_1, C_2, C_3, C_4, C_5, C_6, C_7, C_8, C_9, C_10, C_11, C_12, C_13⟩ := id C
      go_wp2_with fail
      refine (cb _ (T1)).mono ?_
      rintro e w2 ⟨rfl, hb⟩
      replace C := (C).kept hb
      have T2 := (T1).kept hb
      replace B1 := bthen B1 hb
      clear hb z0 C_0 C_1 C_2 C_3 C_4 C_5 C_6 C_7 C_8 C_9 C_10 C_11 C_12 C_13 T1
      obtain ⟨z0, C_0, C_1, C_2, C_3, C_4, C_5, C_6, C_7, C_8, C_9, C_10, C_11, C_12, C_13⟩ := id C
      go_wp2_with fail
      refine (ck _ ((T2).alloc (.cells #[.int .i64 0, .int .i64 0] 44))).mono ?_
      rintro e w3 ⟨rfl, hb⟩
      replace C := ((C).alloc (.cells #[.int .i64 0, .int .i64 0] 44)).kept hb
      have S := (Two.new w2 (.int .i64 0) (.int .i64 0) 44).kept hb
      have T3 := ((T2).alloc (.cells #[.int .i64 0, .int .i64 0] 44)).kept hb
      replace B1 := bthen (balloc B1 (.cells #[.int .i64 0, .int .i64 0] 44)) hb
      try simp only [World.size_alloc] at C S
      clear hb z0 C_0 C_1 C_2 C_3 C_4 C_5 C_6 C_7 C_8 C_9 C_10 C_11 C_12 C_13 T2
      obtain ⟨z0, C_0, C_1, C_2, C_3, C_4, C_5, C_6, C_7, C_8, C_9, C_10, C_11, C_12, C_13⟩ := id C
      obtain ⟨z1, S_0, S_1, _, _⟩ := id S
      go_wp2
      go_ret
      exact ⟨by simp, B1⟩

end Go.Proofs.YtkpjkdeomoecjaaDoor.Jl
