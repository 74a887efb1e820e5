/- AnchorWords' walk. -/
import Derived.Test.YtkpjkdeomoecjaaDoorAlive
import Derived.Test.YtkpjkdeomoecjaaDoorAlaw
namespace Go.Proofs.YtkpjkdeomoecjaaDoor.Al
set_option linter.unusedSimpArgs false
set_option linter.unusedVariables false
open Go.RowKit Go.Proofs.YtkpjkdeomoecjaaDoor.Bn Go.Proofs.YtkpjkdeomoecjaaDoor.Cp Go.Proofs.YtkpjkdeomoecjaaDoor.Am Go.Proofs.YtkpjkdeomoecjaaDoor.Fp Go.Proofs.YtkpjkdeomoecjaaDoor.Ap Go.Proofs.YtkpjkdeomoecjaaDoor.Cm Go.Proofs.YtkpjkdeomoecjaaDoor.Em Go.Proofs.YtkpjkdeomoecjaaDoor.Ep Go.Proofs.YtkpjkdeomoecjaaDoor.Bx

set_option maxHeartbeats 1000000

set_option maxRecDepth 100000 in
theorem awords_walk (c : CalZ) (y : Int) (w : World) (wf : CalWf c) (wy : (Lit.int .i64 y).wf = true) (tb : FTab w) :
    Calls Tryd.prog 6 #[.agg #[.string c.nm, .int .i64 c.k, .int .i64 c.d, .int .i64 c.m, .int .i64 c.s, .int .i64 c.sh, .int .i64 c.p0, .int .i64 c.p1, .int .i64 c.p2, .int .i64 c.cy, .int .i64 c.ex, .int .i64 c.fi, .int .i64 c.la, .int .i64 c.po], .int .i64 y] w fun e w' => e = .returned (.bool true) ∧ Below w.heap.size w w' := by
  have hm := wf.1
  clear wy
  by_cases hl : 100 < c.nm.size
  · have dl : decide ((100 : Int) < (c.nm.size : Int)) = true := decide_eq_true (by omega)
    clear hl
    go_enter Tryd.func6, Tryd.ntmps6
    go_wp2_with fail
    refine (alive_ok _ ((tb).alloc (.cells #[.string c.nm, .int .i64 c.k, .int .i64 c.d, .int .i64 c.m, .int .i64 c.s, .int .i64 c.sh, .int .i64 c.p0, .int .i64 c.p1, .int .i64 c.p2, .int .i64 c.cy, .int .i64 c.ex, .int .i64 c.fi, .int .i64 c.la, .int .i64 c.po] 24))).mono ?_
    rintro e w1 ⟨rfl, hb⟩
    have C := (CalIn.new w c 24).kept hb
    have T1 := ((tb).alloc (.cells #[.string c.nm, .int .i64 c.k, .int .i64 c.d, .int .i64 c.m, .int .i64 c.s, .int .i64 c.sh, .int .i64 c.p0, .int .i64 c.p1, .int .i64 c.p2, .int .i64 c.cy, .int .i64 c.ex, .int .i64 c.fi, .int .i64 c.la, .int .i64 c.po] 24)).kept hb
    have B1 := bthen (balloc (Below.refl _ w) (.cells #[.string c.nm, .int .i64 c.k, .int .i64 c.d, .int .i64 c.m, .int .i64 c.s, .int .i64 c.sh, .int .i64 c.p0, .int .i64 c.p1, .int .i64 c.p2, .int .i64 c.cy, .int .i64 c.ex, .int .i64 c.fi, .int .i64 c.la, .int .i64 c.po] 24)) hb
    try simp only [World.size_alloc] at C
    clear hb
    obtain ⟨z0, C_0, C_1, C_2, C_3, C_4, C_5, C_6, C_7, C_8, C_9, C_10, C_11, C_12, C_13⟩ := id C
    go_wp2
    go_ret
    exact ⟨by simp, B1⟩
  · have dl : decide ((100 : Int) < (c.nm.size : Int)) = false := decide_eq_false (by omega)
    clear hl
    by_cases hk : CalOk c ∧ 1600 ≤ y ∧ y ≤ 9997
    · obtain ⟨ok, y0, y1⟩ := hk
      have kb := kind_bd ok.1
      have mo := mon_ok ok.1 (y := y) y0 (by omega)
      obtain ⟨n, hn⟩ : ∃ n, n = yend c y := ⟨_, rfl⟩
      have bz := yend_bd ok.1 (y := y) y0 y1
      have cE := fun w T => End_any c y n 0 w (.inl ⟨ok, y0, y1, hn, rfl⟩) hm T
      obtain ⟨l, hl⟩ : ∃ l, l = mlen (y + c.s) c.m := ⟨_, rfl⟩
      obtain ⟨z, hz⟩ : ∃ z, z = mend (y + c.s) c.m := ⟨_, rfl⟩
      have cl := fun w T => Length_any (y + c.s) c.m l 0 w (.inl ⟨mo, hl, rfl⟩) T
      have eo := end_ok mo
      rw [← hl] at eo
      have cd := fun w T => Day_any (y + c.s) c.m l z 0 w (.inl ⟨eo, by rw [hz, hl]; rfl, rfl⟩) T
      have er := end_range mo
      have lb := mlen_bd (y + c.s) c.m
      have hw : IntKind.i64.wrap (y + c.s) = y + c.s := by rw [IntWalk.i64_in _ (by omega)]
      rw [← hl] at lb
      rw [← hz] at er
      rw [← hn] at bz
      obtain ⟨m0, m1, q0, q1, _, _, kd, _⟩ := kb
      have O : (c.k = 6 ∧ n = z ∧ (∃ Y M D, OfRes n Y M D 0) ∧ ∃ u, WkdRes n u 0) ∨ ((c.k = 1 ∨ c.k = 4) ∧ WkdRes n c.d 0 ∧ ∃ b, 0 ≤ b ∧ b ≤ 6 ∧ OfRes n (y + c.s) c.m (l - b) 0) ∨
          (c.k ≠ 6 ∧ c.k ≠ 1 ∧ c.k ≠ 4 ∧ WkdRes n c.d 0 ∧ (∃ Y M D, OfRes n Y M D 0) ∧ z - 3 ≤ n ∧ n ≤ z + 3) := by
        have ex : ∃ Y M D, OfRes n Y M D 0 := by
          obtain ⟨Y, M, D, h1, h2⟩ := num_ex bz.1 bz.2
          exact ⟨Y, M, D, .inl ⟨bz.1, bz.2, h1, h2, rfl⟩⟩
        by_cases k6 : c.k = 6
        · refine .inl ⟨k6, ?_, ex, wday n, .inl ⟨bz.1, bz.2, rfl, rfl⟩⟩
          rw [hn, hz]; unfold yend; rw [if_neg (by omega), if_pos k6]
        · have wd : WkdRes n c.d 0 := .inl ⟨bz.1, bz.2, by rw [hn]; exact (yend_wday ok.1 k6).symm, rfl⟩
          by_cases k1 : c.k = 1 ∨ c.k = 4
          · refine .inr (.inl ⟨k1, wd, mback (y + c.s) c.m c.d, (back_bd _ _ _).1, (back_bd _ _ _).2, ?_⟩)
            have ld := (last_date (wd := c.d) mo (kd k6).1 (kd k6).2).1
            rw [hn, hl]; unfold yend; rw [if_pos k1]; exact ld
          · refine .inr (.inr ⟨k6, by omega, by omega, wd, ex, ?_⟩)
            have nb := near_bd (y + c.s) c.m c.d
            rw [hn, hz]; unfold yend; rw [if_neg k1, if_neg k6]; exact nb
      obtain ⟨e0, e1⟩ := er
      obtain ⟨l0, l1⟩ := lb
      obtain ⟨n0, n1⟩ := bz
      clear hn hl hz eo mo ok hm kd
      rcases O with ⟨k6, rfl, ⟨Y, M, D, ho⟩, u, hu⟩ | ⟨k1, hu, b, b0, b1, ho⟩ | ⟨k6, k1, k4, hu, ⟨Y, M, D, ho⟩, g0, g1⟩
      · have co := fun w T => Of_any n Y M D 0 w ho T
        have cw := fun w => Weekday_any n u 0 w hu
        have d6 : (c.k == 6) = true := by rw [k6]; rfl
        clear ho hu k6
        go_enter Tryd.func6, Tryd.ntmps6
        go_wp2_with fail
        refine (alive_ok _ ((tb).alloc (.cells #[.string c.nm, .int .i64 c.k, .int .i64 c.d, .int .i64 c.m, .int .i64 c.s, .int .i64 c.sh, .int .i64 c.p0, .int .i64 c.p1, .int .i64 c.p2, .int .i64 c.cy, .int .i64 c.ex, .int .i64 c.fi, .int .i64 c.la, .int .i64 c.po] 24))).mono ?_
        rintro e w1 ⟨rfl, hb⟩
        have C := (CalIn.new w c 24).kept hb
        have T1 := ((tb).alloc (.cells #[.string c.nm, .int .i64 c.k, .int .i64 c.d, .int .i64 c.m, .int .i64 c.s, .int .i64 c.sh, .int .i64 c.p0, .int .i64 c.p1, .int .i64 c.p2, .int .i64 c.cy, .int .i64 c.ex, .int .i64 c.fi, .int .i64 c.la, .int .i64 c.po] 24)).kept hb
        have B1 := bthen (balloc (Below.refl _ w) (.cells #[.string c.nm, .int .i64 c.k, .int .i64 c.d, .int .i64 c.m, .int .i64 c.s, .int .i64 c.sh, .int .i64 c.p0, .int .i64 c.p1, .int .i64 c.p2, .int .i64 c.cy, .int .i64 c.ex, .int .i64 c.fi, .int .i64 c.la, .int .i64 c.po] 24)) hb
        try simp only [World.size_alloc] at C
        clear hb
        obtain ⟨z0, C_0, C_1, C_2, C_3, C_4, C_5, C_6, C_7, C_8, C_9, C_10, C_11, C_12, C_13⟩ := id C
        go_wp2_with fail
        refine (cE _ (T1)).mono ?_
        rintro e w2 ⟨rfl, hb⟩
        replace C := (C).kept hb
        have T2 := (T1).kept hb
        replace B1 := bthen B1 hb
        clear hb z0 C_0 C_1 C_2 C_3 C_4 C_5 C_6 C_7 C_8 C_9 C_10 C_11 C_12 C_13 T1
        obtain ⟨z0, C_0, C_1, C_2, C_3, C_4, C_5, C_6, C_7, C_8, C_9, C_10, C_11, C_12, C_13⟩ := id C
        go_wp2_with fail
        refine (co _ (T2).civ).mono ?_
        rintro e w3 ⟨rfl, hb⟩
        replace C := (C).kept hb
        have T3 := (T2).kept hb
        replace B1 := bthen B1 hb
        clear hb z0 C_0 C_1 C_2 C_3 C_4 C_5 C_6 C_7 C_8 C_9 C_10 C_11 C_12 C_13 T2
        obtain ⟨z0, C_0, C_1, C_2, C_3, C_4, C_5, C_6, C_7, C_8, C_9, C_10, C_11, C_12, C_13⟩ := id C
        go_wp2_with fail
        refine (cl _ ((T3).alloc (.cells #[.int .i64 Y, .int .i64 M, .int .i64 D] 33)).civ).mono ?_
        rintro e w' ⟨rfl, rfl⟩
        go_wp2_with fail
        refine (cd _ ((T3).alloc (.cells #[.int .i64 Y, .int .i64 M, .int .i64 D] 33)).civ).mono ?_
        rintro e w4 ⟨rfl, hb⟩
        replace C := ((C).alloc (.cells #[.int .i64 Y, .int .i64 M, .int .i64 D] 33)).kept hb
        have Q := (Tri.new w3 (.int .i64 Y) (.int .i64 M) (.int .i64 D) 33).kept hb
        have T4 := ((T3).alloc (.cells #[.int .i64 Y, .int .i64 M, .int .i64 D] 33)).kept hb
        replace B1 := bthen (balloc B1 (.cells #[.int .i64 Y, .int .i64 M, .int .i64 D] 33)) hb
        try simp only [World.size_alloc] at C Q
        clear hb z0 C_0 C_1 C_2 C_3 C_4 C_5 C_6 C_7 C_8 C_9 C_10 C_11 C_12 C_13 T3
        obtain ⟨z0, C_0, C_1, C_2, C_3, C_4, C_5, C_6, C_7, C_8, C_9, C_10, C_11, C_12, C_13⟩ := id C
        obtain ⟨z1, Q_0, Q_1, Q_2, _, _, _⟩ := id Q
        go_wp2_with fail
        refine (cw _).mono ?_
        rintro e w' ⟨rfl, rfl⟩
        go_wp2
        go_ret
        exact ⟨by simp <;> omega, B1⟩
      · have co := fun w T => Of_any n (y + c.s) c.m (l - b) 0 w ho T
        have cw := fun w => Weekday_any n c.d 0 w hu
        have d6 : (c.k == 6) = false := beq_eq_false_iff_ne.2 (by omega)
        clear ho hu
        rcases k1 with k1 | k1
        · have d1 : (c.k == 1) = true := by rw [k1]; rfl
          clear k1
          go_enter Tryd.func6, Tryd.ntmps6
          go_wp2_with fail
          refine (alive_ok _ ((tb).alloc (.cells #[.string c.nm, .int .i64 c.k, .int .i64 c.d, .int .i64 c.m, .int .i64 c.s, .int .i64 c.sh, .int .i64 c.p0, .int .i64 c.p1, .int .i64 c.p2, .int .i64 c.cy, .int .i64 c.ex, .int .i64 c.fi, .int .i64 c.la, .int .i64 c.po] 24))).mono ?_
          rintro e w1 ⟨rfl, hb⟩
          have C := (CalIn.new w c 24).kept hb
          have T1 := ((tb).alloc (.cells #[.string c.nm, .int .i64 c.k, .int .i64 c.d, .int .i64 c.m, .int .i64 c.s, .int .i64 c.sh, .int .i64 c.p0, .int .i64 c.p1, .int .i64 c.p2, .int .i64 c.cy, .int .i64 c.ex, .int .i64 c.fi, .int .i64 c.la, .int .i64 c.po] 24)).kept hb
          have B1 := bthen (balloc (Below.refl _ w) (.cells #[.string c.nm, .int .i64 c.k, .int .i64 c.d, .int .i64 c.m, .int .i64 c.s, .int .i64 c.sh, .int .i64 c.p0, .int .i64 c.p1, .int .i64 c.p2, .int .i64 c.cy, .int .i64 c.ex, .int .i64 c.fi, .int .i64 c.la, .int .i64 c.po] 24)) hb
          try simp only [World.size_alloc] at C
          clear hb
          obtain ⟨z0, C_0, C_1, C_2, C_3, C_4, C_5, C_6, C_7, C_8, C_9, C_10, C_11, C_12, C_13⟩ := id C
          go_wp2_with fail
          refine (cE _ (T1)).mono ?_
          rintro e w2 ⟨rfl, hb⟩
          replace C := (C).kept hb
          have T2 := (T1).kept hb
          replace B1 := bthen B1 hb
          clear hb z0 C_0 C_1 C_2 C_3 C_4 C_5 C_6 C_7 C_8 C_9 C_10 C_11 C_12 C_13 T1
          obtain ⟨z0, C_0, C_1, C_2, C_3, C_4, C_5, C_6, C_7, C_8, C_9, C_10, C_11, C_12, C_13⟩ := id C
          go_wp2_with fail
          refine (co _ (T2).civ).mono ?_
          rintro e w3 ⟨rfl, hb⟩
          replace C := (C).kept hb
          have T3 := (T2).kept hb
          replace B1 := bthen B1 hb
          clear hb z0 C_0 C_1 C_2 C_3 C_4 C_5 C_6 C_7 C_8 C_9 C_10 C_11 C_12 C_13 T2
          obtain ⟨z0, C_0, C_1, C_2, C_3, C_4, C_5, C_6, C_7, C_8, C_9, C_10, C_11, C_12, C_13⟩ := id C
          go_wp2_with fail
          refine (cl _ ((T3).alloc (.cells #[.int .i64 (y + c.s), .int .i64 c.m, .int .i64 (l - b)] 33)).civ).mono ?_
          rintro e w' ⟨rfl, rfl⟩
          go_wp2_with fail
          refine (cd _ ((T3).alloc (.cells #[.int .i64 (y + c.s), .int .i64 c.m, .int .i64 (l - b)] 33)).civ).mono ?_
          rintro e w4 ⟨rfl, hb⟩
          replace C := ((C).alloc (.cells #[.int .i64 (y + c.s), .int .i64 c.m, .int .i64 (l - b)] 33)).kept hb
          have Q := (Tri.new w3 (.int .i64 (y + c.s)) (.int .i64 c.m) (.int .i64 (l - b)) 33).kept hb
          have T4 := ((T3).alloc (.cells #[.int .i64 (y + c.s), .int .i64 c.m, .int .i64 (l - b)] 33)).kept hb
          replace B1 := bthen (balloc B1 (.cells #[.int .i64 (y + c.s), .int .i64 c.m, .int .i64 (l - b)] 33)) hb
          try simp only [World.size_alloc] at C Q
          clear hb z0 C_0 C_1 C_2 C_3 C_4 C_5 C_6 C_7 C_8 C_9 C_10 C_11 C_12 C_13 T3
          obtain ⟨z0, C_0, C_1, C_2, C_3, C_4, C_5, C_6, C_7, C_8, C_9, C_10, C_11, C_12, C_13⟩ := id C
          obtain ⟨z1, Q_0, Q_1, Q_2, _, _, _⟩ := id Q
          go_wp2_with fail
          refine (cw _).mono ?_
          rintro e w' ⟨rfl, rfl⟩
          go_wp2
          go_ret
          exact ⟨by simp <;> omega, B1⟩
        · have d1 : (c.k == 1) = false := beq_eq_false_iff_ne.2 (by omega)
          have d4 : (c.k == 4) = true := by rw [k1]; rfl
          clear k1
          go_enter Tryd.func6, Tryd.ntmps6
          go_wp2_with fail
          refine (alive_ok _ ((tb).alloc (.cells #[.string c.nm, .int .i64 c.k, .int .i64 c.d, .int .i64 c.m, .int .i64 c.s, .int .i64 c.sh, .int .i64 c.p0, .int .i64 c.p1, .int .i64 c.p2, .int .i64 c.cy, .int .i64 c.ex, .int .i64 c.fi, .int .i64 c.la, .int .i64 c.po] 24))).mono ?_
          rintro e w1 ⟨rfl, hb⟩
          have C := (CalIn.new w c 24).kept hb
          have T1 := ((tb).alloc (.cells #[.string c.nm, .int .i64 c.k, .int .i64 c.d, .int .i64 c.m, .int .i64 c.s, .int .i64 c.sh, .int .i64 c.p0, .int .i64 c.p1, .int .i64 c.p2, .int .i64 c.cy, .int .i64 c.ex, .int .i64 c.fi, .int .i64 c.la, .int .i64 c.po] 24)).kept hb
          have B1 := bthen (balloc (Below.refl _ w) (.cells #[.string c.nm, .int .i64 c.k, .int .i64 c.d, .int .i64 c.m, .int .i64 c.s, .int .i64 c.sh, .int .i64 c.p0, .int .i64 c.p1, .int .i64 c.p2, .int .i64 c.cy, .int .i64 c.ex, .int .i64 c.fi, .int .i64 c.la, .int .i64 c.po] 24)) hb
          try simp only [World.size_alloc] at C
          clear hb
          obtain ⟨z0, C_0, C_1, C_2, C_3, C_4, C_5, C_6, C_7, C_8, C_9, C_10, C_11, C_12, C_13⟩ := id C
          go_wp2_with fail
          refine (cE _ (T1)).mono ?_
          rintro e w2 ⟨rfl, hb⟩
          replace C := (C).kept hb
          have T2 := (T1).kept hb
          replace B1 := bthen B1 hb
          clear hb z0 C_0 C_1 C_2 C_3 C_4 C_5 C_6 C_7 C_8 C_9 C_10 C_11 C_12 C_13 T1
          obtain ⟨z0, C_0, C_1, C_2, C_3, C_4, C_5, C_6, C_7, C_8, C_9, C_10, C_11, C_12, C_13⟩ := id C
          go_wp2_with fail
          refine (co _ (T2).civ).mono ?_
          rintro e w3 ⟨rfl, hb⟩
          replace C := (C).kept hb
          have T3 := (T2).kept hb
          replace B1 := bthen B1 hb
          clear hb z0 C_0 C_1 C_2 C_3 C_4 C_5 C_6 C_7 C_8 C_9 C_10 C_11 C_12 C_13 T2
          obtain ⟨z0, C_0, C_1, C_2, C_3, C_4, C_5, C_6, C_7, C_8, C_9, C_10, C_11, C_12, C_13⟩ := id C
          go_wp2_with fail
          refine (cl _ ((T3).alloc (.cells #[.int .i64 (y + c.s), .int .i64 c.m, .int .i64 (l - b)] 33)).civ).mono ?_
          rintro e w' ⟨rfl, rfl⟩
          go_wp2_with fail
          refine (cd _ ((T3).alloc (.cells #[.int .i64 (y + c.s), .int .i64 c.m, .int .i64 (l - b)] 33)).civ).mono ?_
          rintro e w4 ⟨rfl, hb⟩
          replace C := ((C).alloc (.cells #[.int .i64 (y + c.s), .int .i64 c.m, .int .i64 (l - b)] 33)).kept hb
          have Q := (Tri.new w3 (.int .i64 (y + c.s)) (.int .i64 c.m) (.int .i64 (l - b)) 33).kept hb
          have T4 := ((T3).alloc (.cells #[.int .i64 (y + c.s), .int .i64 c.m, .int .i64 (l - b)] 33)).kept hb
          replace B1 := bthen (balloc B1 (.cells #[.int .i64 (y + c.s), .int .i64 c.m, .int .i64 (l - b)] 33)) hb
          try simp only [World.size_alloc] at C Q
          clear hb z0 C_0 C_1 C_2 C_3 C_4 C_5 C_6 C_7 C_8 C_9 C_10 C_11 C_12 C_13 T3
          obtain ⟨z0, C_0, C_1, C_2, C_3, C_4, C_5, C_6, C_7, C_8, C_9, C_10, C_11, C_12, C_13⟩ := id C
          obtain ⟨z1, Q_0, Q_1, Q_2, _, _, _⟩ := id Q
          go_wp2_with fail
          refine (cw _).mono ?_
          rintro e w' ⟨rfl, rfl⟩
          go_wp2
          go_ret
          exact ⟨by simp <;> omega, B1⟩
      · have co := fun w T => Of_any n Y M D 0 w ho T
        have cw := fun w => Weekday_any n c.d 0 w hu
        have d6 : (c.k == 6) = false := beq_eq_false_iff_ne.2 k6
        have d1 : (c.k == 1) = false := beq_eq_false_iff_ne.2 k1
        have d4 : (c.k == 4) = false := beq_eq_false_iff_ne.2 k4
        clear ho hu k6 k1 k4
        go_enter Tryd.func6, Tryd.ntmps6
        go_wp2_with fail
        refine (alive_ok _ ((tb).alloc (.cells #[.string c.nm, .int .i64 c.k, .int .i64 c.d, .int .i64 c.m, .int .i64 c.s, .int .i64 c.sh, .int .i64 c.p0, .int .i64 c.p1, .int .i64 c.p2, .int .i64 c.cy, .int .i64 c.ex, .int .i64 c.fi, .int .i64 c.la, .int .i64 c.po] 24))).mono ?_
        rintro e w1 ⟨rfl, hb⟩
        have C := (CalIn.new w c 24).kept hb
        have T1 := ((tb).alloc (.cells #[.string c.nm, .int .i64 c.k, .int .i64 c.d, .int .i64 c.m, .int .i64 c.s, .int .i64 c.sh, .int .i64 c.p0, .int .i64 c.p1, .int .i64 c.p2, .int .i64 c.cy, .int .i64 c.ex, .int .i64 c.fi, .int .i64 c.la, .int .i64 c.po] 24)).kept hb
        have B1 := bthen (balloc (Below.refl _ w) (.cells #[.string c.nm, .int .i64 c.k, .int .i64 c.d, .int .i64 c.m, .int .i64 c.s, .int .i64 c.sh, .int .i64 c.p0, .int .i64 c.p1, .int .i64 c.p2, .int .i64 c.cy, .int .i64 c.ex, .int .i64 c.fi, .int .i64 c.la, .int .i64 c.po] 24)) hb
        try simp only [World.size_alloc] at C
        clear hb
        obtain ⟨z0, C_0, C_1, C_2, C_3, C_4, C_5, C_6, C_7, C_8, C_9, C_10, C_11, C_12, C_13⟩ := id C
        go_wp2_with fail
        refine (cE _ (T1)).mono ?_
        rintro e w2 ⟨rfl, hb⟩
        replace C := (C).kept hb
        have T2 := (T1).kept hb
        replace B1 := bthen B1 hb
        clear hb z0 C_0 C_1 C_2 C_3 C_4 C_5 C_6 C_7 C_8 C_9 C_10 C_11 C_12 C_13 T1
        obtain ⟨z0, C_0, C_1, C_2, C_3, C_4, C_5, C_6, C_7, C_8, C_9, C_10, C_11, C_12, C_13⟩ := id C
        go_wp2_with fail
        refine (co _ (T2).civ).mono ?_
        rintro e w3 ⟨rfl, hb⟩
        replace C := (C).kept hb
        have T3 := (T2).kept hb
        replace B1 := bthen B1 hb
        clear hb z0 C_0 C_1 C_2 C_3 C_4 C_5 C_6 C_7 C_8 C_9 C_10 C_11 C_12 C_13 T2
        obtain ⟨z0, C_0, C_1, C_2, C_3, C_4, C_5, C_6, C_7, C_8, C_9, C_10, C_11, C_12, C_13⟩ := id C
        go_wp2_with fail
        refine (cl _ ((T3).alloc (.cells #[.int .i64 Y, .int .i64 M, .int .i64 D] 33)).civ).mono ?_
        rintro e w' ⟨rfl, rfl⟩
        go_wp2_with fail
        refine (cd _ ((T3).alloc (.cells #[.int .i64 Y, .int .i64 M, .int .i64 D] 33)).civ).mono ?_
        rintro e w4 ⟨rfl, hb⟩
        replace C := ((C).alloc (.cells #[.int .i64 Y, .int .i64 M, .int .i64 D] 33)).kept hb
        have Q := (Tri.new w3 (.int .i64 Y) (.int .i64 M) (.int .i64 D) 33).kept hb
        have T4 := ((T3).alloc (.cells #[.int .i64 Y, .int .i64 M, .int .i64 D] 33)).kept hb
        replace B1 := bthen (balloc B1 (.cells #[.int .i64 Y, .int .i64 M, .int .i64 D] 33)) hb
        try simp only [World.size_alloc] at C Q
        clear hb z0 C_0 C_1 C_2 C_3 C_4 C_5 C_6 C_7 C_8 C_9 C_10 C_11 C_12 C_13 T3
        obtain ⟨z0, C_0, C_1, C_2, C_3, C_4, C_5, C_6, C_7, C_8, C_9, C_10, C_11, C_12, C_13⟩ := id C
        obtain ⟨z1, Q_0, Q_1, Q_2, _, _, _⟩ := id Q
        go_wp2_with fail
        refine (cw _).mono ?_
        rintro e w' ⟨rfl, rfl⟩
        go_wp2
        go_ret
        exact ⟨by simp <;> omega, B1⟩
    · obtain ⟨er, cE, he⟩ : ∃ er : Int, (∀ w, FTab w → Calls Tryd.prog 16 #[.agg #[.string c.nm, .int .i64 c.k, .int .i64 c.d, .int .i64 c.m, .int .i64 c.s, .int .i64 c.sh, .int .i64 c.p0, .int .i64 c.p1, .int .i64 c.p2, .int .i64 c.cy, .int .i64 c.ex, .int .i64 c.fi, .int .i64 c.la, .int .i64 c.po], .int .i64 y] w fun e w' => e = .returned (.tuple #[.int .i64 0, .int .i64 er]) ∧ Below w.heap.size w w') ∧ (er = 11 ∨ er = 1) := by
        by_cases h1 : CalOk c
        · exact ⟨11, fun w T => End_any c y 0 11 w (.inr (.inl ⟨h1, fun k => hk ⟨h1, k.1, k.2⟩, rfl, rfl⟩)) hm T, .inl rfl⟩
        · exact ⟨1, fun w T => End_any c y 0 1 w (.inr (.inr ⟨h1, rfl, rfl⟩)) hm T, .inr rfl⟩
      clear hk hm
      rcases he with rfl | rfl
      all_goals
        go_enter Tryd.func6, Tryd.ntmps6
        go_wp2_with fail
        refine (alive_ok _ ((tb).alloc (.cells #[.string c.nm, .int .i64 c.k, .int .i64 c.d, .int .i64 c.m, .int .i64 c.s, .int .i64 c.sh, .int .i64 c.p0, .int .i64 c.p1, .int .i64 c.p2, .int .i64 c.cy, .int .i64 c.ex, .int .i64 c.fi, .int .i64 c.la, .int .i64 c.po] 24))).mono ?_
        rintro e w1 ⟨rfl, hb⟩
        have C := (CalIn.new w c 24).kept hb
        have T1 := ((tb).alloc (.cells #[.string c.nm, .int .i64 c.k, .int .i64 c.d, .int .i64 c.m, .int .i64 c.s, .int .i64 c.sh, .int .i64 c.p0, .int .i64 c.p1, .int .i64 c.p2, .int .i64 c.cy, .int .i64 c.ex, .int .i64 c.fi, .int .i64 c.la, .int .i64 c.po] 24)).kept hb
        have B1 := bthen (balloc (Below.refl _ w) (.cells #[.string c.nm, .int .i64 c.k, .int .i64 c.d, .int .i64 c.m, .int .i64 c.s, .int .i64 c.sh, .int .i64 c.p0, .int .i64 c.p1, .int .i64 c.p2, .int .i64 c.cy, .int .i64 c.ex, .int .i64 c.fi, .int .i64 c.la, .int .i64 c.po] 24)) hb
        try simp only [World.size_alloc] at C
        clear hb
        obtain ⟨z0, C_0, C_1, C_2, C_3, C_4, C_5, C_6, C_7, C_8, C_9, C_10, C_11, C_12, C_13⟩ := id C
        go_wp2_with fail
        refine (cE _ (T1)).mono ?_
        rintro e w2 ⟨rfl, hb⟩
        replace C := (C).kept hb
        have T2 := (T1).kept hb
        replace B1 := bthen B1 hb
        clear hb z0 C_0 C_1 C_2 C_3 C_4 C_5 C_6 C_7 C_8 C_9 C_10 C_11 C_12 C_13 T1
        obtain ⟨z0, C_0, C_1, C_2, C_3, C_4, C_5, C_6, C_7, C_8, C_9, C_10, C_11, C_12, C_13⟩ := id C
        go_wp2
        go_ret
        exact ⟨by simp, B1⟩

end Go.Proofs.YtkpjkdeomoecjaaDoor.Al
