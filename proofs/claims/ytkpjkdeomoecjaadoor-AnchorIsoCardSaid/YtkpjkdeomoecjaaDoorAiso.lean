/- AnchorIso's walk. -/
import Derived.Test.YtkpjkdeomoecjaaDoorAlive
import Derived.Test.YtkpjkdeomoecjaaDoorAlaw
namespace Go.Proofs.YtkpjkdeomoecjaaDoor.Al
set_option linter.unusedSimpArgs false
set_option linter.unusedVariables false
open Go.RowKit Go.Proofs.YtkpjkdeomoecjaaDoor.Bn Go.Proofs.YtkpjkdeomoecjaaDoor.Cp Go.Proofs.YtkpjkdeomoecjaaDoor.Am Go.Proofs.YtkpjkdeomoecjaaDoor.Fp Go.Proofs.YtkpjkdeomoecjaaDoor.Ap Go.Proofs.YtkpjkdeomoecjaaDoor.Cm Go.Proofs.YtkpjkdeomoecjaaDoor.Em Go.Proofs.YtkpjkdeomoecjaaDoor.Ep Go.Proofs.YtkpjkdeomoecjaaDoor.Bx

set_option maxHeartbeats 1000000

set_option maxRecDepth 100000 in
theorem aiso_walk (c : CalZ) (y : Int) (w : World) (wf : CalWf c) (wy : (Lit.int .i64 y).wf = true) (tb : FTab w) :
    Calls Tryd.prog 7 #[.agg #[.string c.nm, .int .i64 c.k, .int .i64 c.d, .int .i64 c.m, .int .i64 c.s, .int .i64 c.sh, .int .i64 c.p0, .int .i64 c.p1, .int .i64 c.p2, .int .i64 c.cy, .int .i64 c.ex, .int .i64 c.fi, .int .i64 c.la, .int .i64 c.po], .int .i64 y] w fun e w' => e = .returned (.bool true) ∧ Below w.heap.size w w' := by
  have hm := wf.1
  clear wy
  by_cases hl : 100 < c.nm.size
  · have dl : decide ((100 : Int) < (c.nm.size : Int)) = true := decide_eq_true (by omega)
    clear hl
    go_enter Tryd.func7, Tryd.ntmps7
    go_wp2_with fail
    refine (alive_ok _ ((tb).alloc (.cells #[.string c.nm, .int .i64 c.k, .int .i64 c.d, .int .i64 c.m, .int .i64 c.s, .int .i64 c.sh, .int .i64 c.p0, .int .i64 c.p1, .int .i64 c.p2, .int .i64 c.cy, .int .i64 c.ex, .int .i64 c.fi, .int .i64 c.la, .int .i64 c.po] 24))).mono ?_
    rintro e w1 ⟨rfl, hb⟩
    have C := (CalIn.new w c 24).kept hb
    have T1 := ((tb).alloc (.cells #[.string c.nm, .int .i64 c.k, .int .i64 c.d, .int .i64 c.m, .int .i64 c.s, .int .i64 c.sh, .int .i64 c.p0, .int .i64 c.p1, .int .i64 c.p2, .int .i64 c.cy, .int .i64 c.ex, .int .i64 c.fi, .int .i64 c.la, .int .i64 c.po] 24)).kept hb
    have B1 := bthen (balloc (Below.refl _ w) (.cells #[.string c.nm, .int .i64 c.k, .int .i64 c.d, .int .i64 c.m, .int .i64 c.s, .int .i64 c.sh, .int .i64 c.p0, .int .i64 c.p1, .int .i64 c.p2, .int .i64 c.cy, .int .i64 c.ex, .int .i64 c.fi, .int .i64 c.la, .int .i64 c.po] 24)) hb
    try simp only [World.size_alloc] at C
    clear hb
    obtain ⟨z0, C_0, C_1, C_2, C_3, C_4, C_5, C_6, C_7, C_8, C_9, C_10, C_11, C_12, C_13⟩ := id C
    go_wp2
    go_ret
    exact ⟨by simp, B1⟩
  · have dl : decide ((100 : Int) < (c.nm.size : Int)) = false := decide_eq_false (by omega)
    clear hl
    by_cases ok : CalOk c
    · by_cases hy : 1601 ≤ y ∧ y ≤ 9997
      · obtain ⟨y0, y1⟩ := hy
        have kb := kind_bd ok.1
        obtain ⟨a, ha⟩ : ∃ a, a = yend c (y - 1) := ⟨_, rfl⟩
        obtain ⟨b, hb'⟩ : ∃ b, b = yend c y := ⟨_, rfl⟩
        have bd := yend_bd ok.1 (y := y - 1) (by omega) (by omega)
        have bz := yend_bd ok.1 (y := y) (by omega) y1
        have cs := fun w T => Start_any c y (a + 1) 0 w (.inl ⟨ok, y0, y1, by rw [ha], rfl⟩) hm T
        have ce := fun w T => End_any c y b 0 w (.inl ⟨ok, by omega, y1, hb', rfl⟩) hm T
        rw [← ha] at bd
        rw [← hb'] at bz
        have O : (c.k = 5 ∧ IsoRes (a + 1) y 1 1 0 ∧ ∃ m, m = many y ∧ IsoRes b y m 7 0) ∨ (c.k = 4 ∧ WkdRes b 7 0 ∧ ∃ D, 25 ≤ D ∧ D ≤ 31 ∧ OfRes b y 12 D 0) ∨ (c.k = 3 ∧ NearRes (y + 1) 1 6 b 0) ∨ (c.k ≠ 3 ∧ c.k ≠ 4 ∧ c.k ≠ 5) := by
          by_cases k5 : c.k = 5
          · obtain ⟨e1, e2, e3⟩ := kb.2.2.2.2.2.2.2.2.1 k5
            have q : ∀ x, yend c x = nearv x 12 7 := fun x => by unfold yend; rw [if_neg (by omega), if_neg (by omega), e1, e2, e3, Int.add_zero]
            exact .inl ⟨k5, by rw [ha, q]; exact iso_first y0 y1, _, rfl, by rw [hb', q]; exact iso_last y0 y1⟩
          · by_cases k4 : c.k = 4
            · obtain ⟨e1, e2, e3⟩ := kb.2.2.2.2.2.2.2.1 k4
              have mo : MonthOk y 12 := ⟨by omega, by omega, by omega, by omega⟩
              have ld := last_date (wd := 7) mo (by omega) (by omega)
              have q : yend c y = mend y 12 - mback y 12 7 := by unfold yend; rw [if_pos (by omega), e1, e2, e3, Int.add_zero]
              have bb := back_bd y 12 7
              have le : mlen y 12 = 31 := by simp [mlen]
              refine .inr (.inl ⟨k4, by rw [hb', q]; exact ld.2, mlen y 12 - mback y 12 7, by omega, by omega, by rw [hb', q]; exact ld.1⟩)
            · by_cases k3 : c.k = 3
              · obtain ⟨e1, e2, e3⟩ := kb.2.2.2.2.2.2.2.2.2 k3
                have mo : MonthOk (y + 1) 1 := ⟨by omega, by omega, by omega, by omega⟩
                have q : yend c y = nearv (y + 1) 1 6 := by unfold yend; rw [if_neg (by omega), if_neg (by omega), e1, e2, e3]
                exact .inr (.inr (.inl ⟨k3, .inl ⟨mo, by omega, by omega, near_early mo (by omega), by rw [hb', q], rfl⟩⟩))
              · exact .inr (.inr (.inr ⟨k3, k4, k5⟩))
        obtain ⟨a0, a1⟩ := bd
        obtain ⟨b0, b1⟩ := bz
        clear ha hb' ok hm kb
        rcases O with ⟨k5, i1, m, hmm, i2⟩ | ⟨k4, hu, D, D0, D1, ho⟩ | ⟨k3, hn⟩ | ⟨k3, k4, k5⟩
        · have ci := fun w T => Iso_any (a + 1) y 1 1 0 w i1 T
          have cj := fun w T => Iso_any b y m 7 0 w i2 T
          have cm := fun w T => Many_any y m 0 w (.inl ⟨by omega, by omega, hmm, rfl⟩) T
          have d5 : (c.k == 5) = true := by rw [k5]; rfl
          clear i1 i2 hmm k5
          go_enter Tryd.func7, Tryd.ntmps7
          go_wp2_with fail
          refine (alive_ok _ ((tb).alloc (.cells #[.string c.nm, .int .i64 c.k, .int .i64 c.d, .int .i64 c.m, .int .i64 c.s, .int .i64 c.sh, .int .i64 c.p0, .int .i64 c.p1, .int .i64 c.p2, .int .i64 c.cy, .int .i64 c.ex, .int .i64 c.fi, .int .i64 c.la, .int .i64 c.po] 24))).mono ?_
          rintro e w1 ⟨rfl, hb⟩
          have C := (CalIn.new w c 24).kept hb
          have T1 := ((tb).alloc (.cells #[.string c.nm, .int .i64 c.k, .int .i64 c.d, .int .i64 c.m, .int .i64 c.s, .int .i64 c.sh, .int .i64 c.p0, .int .i64 c.p1, .int .i64 c.p2, .int .i64 c.cy, .int .i64 c.ex, .int .i64 c.fi, .int .i64 c.la, .int .i64 c.po] 24)).kept hb
          have B1 := bthen (balloc (Below.refl _ w) (.cells #[.string c.nm, .int .i64 c.k, .int .i64 c.d, .int .i64 c.m, .int .i64 c.s, .int .i64 c.sh, .int .i64 c.p0, .int .i64 c.p1, .int .i64 c.p2, .int .i64 c.cy, .int .i64 c.ex, .int .i64 c.fi, .int .i64 c.la, .int .i64 c.po] 24)) hb
          try simp only [World.size_alloc] at C
          clear hb
          obtain ⟨z0, C_0, C_1, C_2, C_3, C_4, C_5, C_6, C_7, C_8, C_9, C_10, C_11, C_12, C_13⟩ := id C
          go_wp2_with fail
          refine (cs _ (T1)).mono ?_
          rintro e w2 ⟨rfl, hb⟩
          replace C := (C).kept hb
          have T2 := (T1).kept hb
          replace B1 := bthen B1 hb
          clear hb z0 C_0 C_1 C_2 C_3 C_4 C_5 C_6 C_7 C_8 C_9 C_10 C_11 C_12 C_13 T1
          obtain ⟨z0, C_0, C_1, C_2, C_3, C_4, C_5, C_6, C_7, C_8, C_9, C_10, C_11, C_12, C_13⟩ := id C
          go_wp2_with fail
          refine (ce _ (T2)).mono ?_
          rintro e w3 ⟨rfl, hb⟩
          replace C := (C).kept hb
          have T3 := (T2).kept hb
          replace B1 := bthen B1 hb
          clear hb z0 C_0 C_1 C_2 C_3 C_4 C_5 C_6 C_7 C_8 C_9 C_10 C_11 C_12 C_13 T2
          obtain ⟨z0, C_0, C_1, C_2, C_3, C_4, C_5, C_6, C_7, C_8, C_9, C_10, C_11, C_12, C_13⟩ := id C
          go_wp2_with fail
          refine (ci _ (T3).civ).mono ?_
          rintro e w4 ⟨rfl, hb⟩
          replace C := (C).kept hb
          have T4 := (T3).kept hb
          replace B1 := bthen B1 hb
          clear hb z0 C_0 C_1 C_2 C_3 C_4 C_5 C_6 C_7 C_8 C_9 C_10 C_11 C_12 C_13 T3
          obtain ⟨z0, C_0, C_1, C_2, C_3, C_4, C_5, C_6, C_7, C_8, C_9, C_10, C_11, C_12, C_13⟩ := id C
          go_wp2_with fail
          refine (cj _ ((T4).alloc (.cells #[.int .i64 y, .int .i64 1, .int .i64 1] 39)).civ).mono ?_
          rintro e w5 ⟨rfl, hb⟩
          replace C := ((C).alloc (.cells #[.int .i64 y, .int .i64 1, .int .i64 1] 39)).kept hb
          have Q := (Tri.new w4 (.int .i64 y) (.int .i64 1) (.int .i64 1) 39).kept hb
          have T5 := ((T4).alloc (.cells #[.int .i64 y, .int .i64 1, .int .i64 1] 39)).kept hb
          replace B1 := bthen (balloc B1 (.cells #[.int .i64 y, .int .i64 1, .int .i64 1] 39)) hb
          try simp only [World.size_alloc] at C Q
          clear hb z0 C_0 C_1 C_2 C_3 C_4 C_5 C_6 C_7 C_8 C_9 C_10 C_11 C_12 C_13 T4
          obtain ⟨z0, C_0, C_1, C_2, C_3, C_4, C_5, C_6, C_7, C_8, C_9, C_10, C_11, C_12, C_13⟩ := id C
          obtain ⟨z1, Q_0, Q_1, Q_2, _, _, _⟩ := id Q
          go_wp2_with fail
          refine (cm _ ((T5).alloc (.cells #[.int .i64 y, .int .i64 m, .int .i64 7] 39)).civ).mono ?_
          rintro e w6 ⟨rfl, hb⟩
          replace C := ((C).alloc (.cells #[.int .i64 y, .int .i64 m, .int .i64 7] 39)).kept hb
          replace Q := ((Q).alloc (.cells #[.int .i64 y, .int .i64 m, .int .i64 7] 39)).kept hb
          have R := (Tri.new w5 (.int .i64 y) (.int .i64 m) (.int .i64 7) 39).kept hb
          have T6 := ((T5).alloc (.cells #[.int .i64 y, .int .i64 m, .int .i64 7] 39)).kept hb
          replace B1 := bthen (balloc B1 (.cells #[.int .i64 y, .int .i64 m, .int .i64 7] 39)) hb
          try simp only [World.size_alloc] at C Q R
          clear hb z0 C_0 C_1 C_2 C_3 C_4 C_5 C_6 C_7 C_8 C_9 C_10 C_11 C_12 C_13 z1 Q_0 Q_1 Q_2 T5
          obtain ⟨z0, C_0, C_1, C_2, C_3, C_4, C_5, C_6, C_7, C_8, C_9, C_10, C_11, C_12, C_13⟩ := id C
          obtain ⟨z1, Q_0, Q_1, Q_2, _, _, _⟩ := id Q
          obtain ⟨z2, R_0, R_1, R_2, _, _, _⟩ := id R
          go_wp2
          go_ret
          exact ⟨by simp <;> omega, B1⟩
        · have co := fun w T => Of_any b y 12 D 0 w ho T
          have cw := fun w => Weekday_any b 7 0 w hu
          have d5 : (c.k == 5) = false := beq_eq_false_iff_ne.2 (by omega)
          have d4 : (c.k == 4) = true := by rw [k4]; rfl
          clear ho hu k4
          go_enter Tryd.func7, Tryd.ntmps7
          go_wp2_with fail
          refine (alive_ok _ ((tb).alloc (.cells #[.string c.nm, .int .i64 c.k, .int .i64 c.d, .int .i64 c.m, .int .i64 c.s, .int .i64 c.sh, .int .i64 c.p0, .int .i64 c.p1, .int .i64 c.p2, .int .i64 c.cy, .int .i64 c.ex, .int .i64 c.fi, .int .i64 c.la, .int .i64 c.po] 24))).mono ?_
          rintro e w1 ⟨rfl, hb⟩
          have C := (CalIn.new w c 24).kept hb
          have T1 := ((tb).alloc (.cells #[.string c.nm, .int .i64 c.k, .int .i64 c.d, .int .i64 c.m, .int .i64 c.s, .int .i64 c.sh, .int .i64 c.p0, .int .i64 c.p1, .int .i64 c.p2, .int .i64 c.cy, .int .i64 c.ex, .int .i64 c.fi, .int .i64 c.la, .int .i64 c.po] 24)).kept hb
          have B1 := bthen (balloc (Below.refl _ w) (.cells #[.string c.nm, .int .i64 c.k, .int .i64 c.d, .int .i64 c.m, .int .i64 c.s, .int .i64 c.sh, .int .i64 c.p0, .int .i64 c.p1, .int .i64 c.p2, .int .i64 c.cy, .int .i64 c.ex, .int .i64 c.fi, .int .i64 c.la, .int .i64 c.po] 24)) hb
          try simp only [World.size_alloc] at C
          clear hb
          obtain ⟨z0, C_0, C_1, C_2, C_3, C_4, C_5, C_6, C_7, C_8, C_9, C_10, C_11, C_12, C_13⟩ := id C
          go_wp2_with fail
          refine (cs _ (T1)).mono ?_
          rintro e w2 ⟨rfl, hb⟩
          replace C := (C).kept hb
          have T2 := (T1).kept hb
          replace B1 := bthen B1 hb
          clear hb z0 C_0 C_1 C_2 C_3 C_4 C_5 C_6 C_7 C_8 C_9 C_10 C_11 C_12 C_13 T1
          obtain ⟨z0, C_0, C_1, C_2, C_3, C_4, C_5, C_6, C_7, C_8, C_9, C_10, C_11, C_12, C_13⟩ := id C
          go_wp2_with fail
          refine (ce _ (T2)).mono ?_
          rintro e w3 ⟨rfl, hb⟩
          replace C := (C).kept hb
          have T3 := (T2).kept hb
          replace B1 := bthen B1 hb
          clear hb z0 C_0 C_1 C_2 C_3 C_4 C_5 C_6 C_7 C_8 C_9 C_10 C_11 C_12 C_13 T2
          obtain ⟨z0, C_0, C_1, C_2, C_3, C_4, C_5, C_6, C_7, C_8, C_9, C_10, C_11, C_12, C_13⟩ := id C
          go_wp2_with fail
          refine (co _ (T3).civ).mono ?_
          rintro e w4 ⟨rfl, hb⟩
          replace C := (C).kept hb
          have T4 := (T3).kept hb
          replace B1 := bthen B1 hb
          clear hb z0 C_0 C_1 C_2 C_3 C_4 C_5 C_6 C_7 C_8 C_9 C_10 C_11 C_12 C_13 T3
          obtain ⟨z0, C_0, C_1, C_2, C_3, C_4, C_5, C_6, C_7, C_8, C_9, C_10, C_11, C_12, C_13⟩ := id C
          go_wp2_with fail
          refine (cw _).mono ?_
          rintro e w' ⟨rfl, rfl⟩
          go_wp2
          go_ret
          exact ⟨by simp <;> omega, (balloc B1 (.cells #[.int .i64 y, .int .i64 12, .int .i64 D] 33))⟩
        · have cn := fun w T => Near_any (y + 1) 1 6 b 0 w hn T
          have d5 : (c.k == 5) = false := beq_eq_false_iff_ne.2 (by omega)
          have d4 : (c.k == 4) = false := beq_eq_false_iff_ne.2 (by omega)
          have d3 : (c.k == 3) = true := by rw [k3]; rfl
          clear hn k3
          go_enter Tryd.func7, Tryd.ntmps7
          go_wp2_with fail
          refine (alive_ok _ ((tb).alloc (.cells #[.string c.nm, .int .i64 c.k, .int .i64 c.d, .int .i64 c.m, .int .i64 c.s, .int .i64 c.sh, .int .i64 c.p0, .int .i64 c.p1, .int .i64 c.p2, .int .i64 c.cy, .int .i64 c.ex, .int .i64 c.fi, .int .i64 c.la, .int .i64 c.po] 24))).mono ?_
          rintro e w1 ⟨rfl, hb⟩
          have C := (CalIn.new w c 24).kept hb
          have T1 := ((tb).alloc (.cells #[.string c.nm, .int .i64 c.k, .int .i64 c.d, .int .i64 c.m, .int .i64 c.s, .int .i64 c.sh, .int .i64 c.p0, .int .i64 c.p1, .int .i64 c.p2, .int .i64 c.cy, .int .i64 c.ex, .int .i64 c.fi, .int .i64 c.la, .int .i64 c.po] 24)).kept hb
          have B1 := bthen (balloc (Below.refl _ w) (.cells #[.string c.nm, .int .i64 c.k, .int .i64 c.d, .int .i64 c.m, .int .i64 c.s, .int .i64 c.sh, .int .i64 c.p0, .int .i64 c.p1, .int .i64 c.p2, .int .i64 c.cy, .int .i64 c.ex, .int .i64 c.fi, .int .i64 c.la, .int .i64 c.po] 24)) hb
          try simp only [World.size_alloc] at C
          clear hb
          obtain ⟨z0, C_0, C_1, C_2, C_3, C_4, C_5, C_6, C_7, C_8, C_9, C_10, C_11, C_12, C_13⟩ := id C
          go_wp2_with fail
          refine (cs _ (T1)).mono ?_
          rintro e w2 ⟨rfl, hb⟩
          replace C := (C).kept hb
          have T2 := (T1).kept hb
          replace B1 := bthen B1 hb
          clear hb z0 C_0 C_1 C_2 C_3 C_4 C_5 C_6 C_7 C_8 C_9 C_10 C_11 C_12 C_13 T1
          obtain ⟨z0, C_0, C_1, C_2, C_3, C_4, C_5, C_6, C_7, C_8, C_9, C_10, C_11, C_12, C_13⟩ := id C
          go_wp2_with fail
          refine (ce _ (T2)).mono ?_
          rintro e w3 ⟨rfl, hb⟩
          replace C := (C).kept hb
          have T3 := (T2).kept hb
          replace B1 := bthen B1 hb
          clear hb z0 C_0 C_1 C_2 C_3 C_4 C_5 C_6 C_7 C_8 C_9 C_10 C_11 C_12 C_13 T2
          obtain ⟨z0, C_0, C_1, C_2, C_3, C_4, C_5, C_6, C_7, C_8, C_9, C_10, C_11, C_12, C_13⟩ := id C
          go_wp2_with fail
          refine (cn _ (T3).civ).mono ?_
          rintro e w4 ⟨rfl, hb⟩
          replace C := (C).kept hb
          have T4 := (T3).kept hb
          replace B1 := bthen B1 hb
          clear hb z0 C_0 C_1 C_2 C_3 C_4 C_5 C_6 C_7 C_8 C_9 C_10 C_11 C_12 C_13 T3
          obtain ⟨z0, C_0, C_1, C_2, C_3, C_4, C_5, C_6, C_7, C_8, C_9, C_10, C_11, C_12, C_13⟩ := id C
          go_wp2
          go_ret
          exact ⟨by simp <;> omega, B1⟩
        · have d5 : (c.k == 5) = false := beq_eq_false_iff_ne.2 k5
          have d4 : (c.k == 4) = false := beq_eq_false_iff_ne.2 k4
          have d3 : (c.k == 3) = false := beq_eq_false_iff_ne.2 k3
          clear k3 k4 k5
          go_enter Tryd.func7, Tryd.ntmps7
          go_wp2_with fail
          refine (alive_ok _ ((tb).alloc (.cells #[.string c.nm, .int .i64 c.k, .int .i64 c.d, .int .i64 c.m, .int .i64 c.s, .int .i64 c.sh, .int .i64 c.p0, .int .i64 c.p1, .int .i64 c.p2, .int .i64 c.cy, .int .i64 c.ex, .int .i64 c.fi, .int .i64 c.la, .int .i64 c.po] 24))).mono ?_
          rintro e w1 ⟨rfl, hb⟩
          have C := (CalIn.new w c 24).kept hb
          have T1 := ((tb).alloc (.cells #[.string c.nm, .int .i64 c.k, .int .i64 c.d, .int .i64 c.m, .int .i64 c.s, .int .i64 c.sh, .int .i64 c.p0, .int .i64 c.p1, .int .i64 c.p2, .int .i64 c.cy, .int .i64 c.ex, .int .i64 c.fi, .int .i64 c.la, .int .i64 c.po] 24)).kept hb
          have B1 := bthen (balloc (Below.refl _ w) (.cells #[.string c.nm, .int .i64 c.k, .int .i64 c.d, .int .i64 c.m, .int .i64 c.s, .int .i64 c.sh, .int .i64 c.p0, .int .i64 c.p1, .int .i64 c.p2, .int .i64 c.cy, .int .i64 c.ex, .int .i64 c.fi, .int .i64 c.la, .int .i64 c.po] 24)) hb
          try simp only [World.size_alloc] at C
          clear hb
          obtain ⟨z0, C_0, C_1, C_2, C_3, C_4, C_5, C_6, C_7, C_8, C_9, C_10, C_11, C_12, C_13⟩ := id C
          go_wp2_with fail
          refine (cs _ (T1)).mono ?_
          rintro e w2 ⟨rfl, hb⟩
          replace C := (C).kept hb
          have T2 := (T1).kept hb
          replace B1 := bthen B1 hb
          clear hb z0 C_0 C_1 C_2 C_3 C_4 C_5 C_6 C_7 C_8 C_9 C_10 C_11 C_12 C_13 T1
          obtain ⟨z0, C_0, C_1, C_2, C_3, C_4, C_5, C_6, C_7, C_8, C_9, C_10, C_11, C_12, C_13⟩ := id C
          go_wp2_with fail
          refine (ce _ (T2)).mono ?_
          rintro e w3 ⟨rfl, hb⟩
          replace C := (C).kept hb
          have T3 := (T2).kept hb
          replace B1 := bthen B1 hb
          clear hb z0 C_0 C_1 C_2 C_3 C_4 C_5 C_6 C_7 C_8 C_9 C_10 C_11 C_12 C_13 T2
          obtain ⟨z0, C_0, C_1, C_2, C_3, C_4, C_5, C_6, C_7, C_8, C_9, C_10, C_11, C_12, C_13⟩ := id C
          go_wp2
          go_ret
          exact ⟨by simp, B1⟩
      · have cs := fun w T => Start_any c y 0 11 w (.inr (.inl ⟨ok, hy, rfl, rfl⟩)) hm T
        have ca : (∃ v, ∀ w, FTab w → Calls Tryd.prog 16 #[.agg #[.string c.nm, .int .i64 c.k, .int .i64 c.d, .int .i64 c.m, .int .i64 c.s, .int .i64 c.sh, .int .i64 c.p0, .int .i64 c.p1, .int .i64 c.p2, .int .i64 c.cy, .int .i64 c.ex, .int .i64 c.fi, .int .i64 c.la, .int .i64 c.po], .int .i64 y] w fun e w' => e = .returned (.tuple #[.int .i64 v, .int .i64 0]) ∧ Below w.heap.size w w') ∨ (∀ w, FTab w → Calls Tryd.prog 16 #[.agg #[.string c.nm, .int .i64 c.k, .int .i64 c.d, .int .i64 c.m, .int .i64 c.s, .int .i64 c.sh, .int .i64 c.p0, .int .i64 c.p1, .int .i64 c.p2, .int .i64 c.cy, .int .i64 c.ex, .int .i64 c.fi, .int .i64 c.la, .int .i64 c.po], .int .i64 y] w fun e w' => e = .returned (.tuple #[.int .i64 0, .int .i64 11]) ∧ Below w.heap.size w w') := by
          by_cases h : 1600 ≤ y ∧ y ≤ 9997
          · exact .inl ⟨_, fun w T => End_any c y _ 0 w (.inl ⟨ok, h.1, h.2, rfl, rfl⟩) hm T⟩
          · exact .inr (fun w T => End_any c y 0 11 w (.inr (.inl ⟨ok, h, rfl, rfl⟩)) hm T)
        clear ok hm hy
        rcases ca with ⟨v, ca⟩ | ca
        all_goals
          go_enter Tryd.func7, Tryd.ntmps7
          go_wp2_with fail
          refine (alive_ok _ ((tb).alloc (.cells #[.string c.nm, .int .i64 c.k, .int .i64 c.d, .int .i64 c.m, .int .i64 c.s, .int .i64 c.sh, .int .i64 c.p0, .int .i64 c.p1, .int .i64 c.p2, .int .i64 c.cy, .int .i64 c.ex, .int .i64 c.fi, .int .i64 c.la, .int .i64 c.po] 24))).mono ?_
          rintro e w1 ⟨rfl, hb⟩
          have C := (CalIn.new w c 24).kept hb
          have T1 := ((tb).alloc (.cells #[.string c.nm, .int .i64 c.k, .int .i64 c.d, .int .i64 c.m, .int .i64 c.s, .int .i64 c.sh, .int .i64 c.p0, .int .i64 c.p1, .int .i64 c.p2, .int .i64 c.cy, .int .i64 c.ex, .int .i64 c.fi, .int .i64 c.la, .int .i64 c.po] 24)).kept hb
          have B1 := bthen (balloc (Below.refl _ w) (.cells #[.string c.nm, .int .i64 c.k, .int .i64 c.d, .int .i64 c.m, .int .i64 c.s, .int .i64 c.sh, .int .i64 c.p0, .int .i64 c.p1, .int .i64 c.p2, .int .i64 c.cy, .int .i64 c.ex, .int .i64 c.fi, .int .i64 c.la, .int .i64 c.po] 24)) hb
          try simp only [World.size_alloc] at C
          clear hb
          obtain ⟨z0, C_0, C_1, C_2, C_3, C_4, C_5, C_6, C_7, C_8, C_9, C_10, C_11, C_12, C_13⟩ := id C
          go_wp2_with fail
          refine (cs _ (T1)).mono ?_
          rintro e w2 ⟨rfl, hb⟩
          replace C := (C).kept hb
          have T2 := (T1).kept hb
          replace B1 := bthen B1 hb
          clear hb z0 C_0 C_1 C_2 C_3 C_4 C_5 C_6 C_7 C_8 C_9 C_10 C_11 C_12 C_13 T1
          obtain ⟨z0, C_0, C_1, C_2, C_3, C_4, C_5, C_6, C_7, C_8, C_9, C_10, C_11, C_12, C_13⟩ := id C
          go_wp2_with fail
          refine (ca _ (T2)).mono ?_
          rintro e w3 ⟨rfl, hb⟩
          replace C := (C).kept hb
          have T3 := (T2).kept hb
          replace B1 := bthen B1 hb
          clear hb z0 C_0 C_1 C_2 C_3 C_4 C_5 C_6 C_7 C_8 C_9 C_10 C_11 C_12 C_13 T2
          obtain ⟨z0, C_0, C_1, C_2, C_3, C_4, C_5, C_6, C_7, C_8, C_9, C_10, C_11, C_12, C_13⟩ := id C
          go_wp2
          go_ret
          exact ⟨by simp, B1⟩
    · have cs := fun w T => Start_any c y 0 1 w (.inr (.inr ⟨ok, rfl, rfl⟩)) hm T
      have ca := fun w T => End_any c y 0 1 w (.inr (.inr ⟨ok, rfl, rfl⟩)) hm T
      clear ok hm
      go_enter Tryd.func7, Tryd.ntmps7
      go_wp2_with fail
      refine (alive_ok _ ((tb).alloc (.cells #[.string c.nm, .int .i64 c.k, .int .i64 c.d, .int .i64 c.m, .int .i64 c.s, .int .i64 c.sh, .int .i64 c.p0, .int .i64 c.p1, .int .i64 c.p2, .int .i64 c.cy, .int .i64 c.ex, .int .i64 c.fi, .int .i64 c.la, .int .i64 c.po] 24))).mono ?_
      rintro e w1 ⟨rfl, hb⟩
      have C := (CalIn.new w c 24).kept hb
      have T1 := ((tb).alloc (.cells #[.string c.nm, .int .i64 c.k, .int .i64 c.d, .int .i64 c.m, .int .i64 c.s, .int .i64 c.sh, .int .i64 c.p0, .int .i64 c.p1, .int .i64 c.p2, .int .i64 c.cy, .int .i64 c.ex, .int .i64 c.fi, .int .i64 c.la, .int .i64 c.po] 24)).kept hb
      have B1 := bthen (balloc (Below.refl _ w) (.cells #[.string c.nm, .int .i64 c.k, .int .i64 c.d, .int .i64 c.m, .int .i64 c.s, .int .i64 c.sh, .int .i64 c.p0, .int .i64 c.p1, .int .i64 c.p2, .int .i64 c.cy, .int .i64 c.ex, .int .i64 c.fi, .int .i64 c.la, .int .i64 c.po] 24)) hb
      try simp only [World.size_alloc] at C
      clear hb
      obtain ⟨z0, C_0, C_1, C_2, C_3, C_4, C_5, C_6, C_7, C_8, C_9, C_10, C_11, C_12, C_13⟩ := id C
      go_wp2_with fail
      refine (cs _ (T1)).mono ?_
      rintro e w2 ⟨rfl, hb⟩
      replace C := (C).kept hb
      have T2 := (T1).kept hb
      replace B1 := bthen B1 hb
      clear hb z0 C_0 C_1 C_2 C_3 C_4 C_5 C_6 C_7 C_8 C_9 C_10 C_11 C_12 C_13 T1
      obtain ⟨z0, C_0, C_1, C_2, C_3, C_4, C_5, C_6, C_7, C_8, C_9, C_10, C_11, C_12, C_13⟩ := id C
      go_wp2_with fail
      refine (ca _ (T2)).mono ?_
      rintro e w3 ⟨rfl, hb⟩
      replace C := (C).kept hb
      have T3 := (T2).kept hb
      replace B1 := bthen B1 hb
      clear hb z0 C_0 C_1 C_2 C_3 C_4 C_5 C_6 C_7 C_8 C_9 C_10 C_11 C_12 C_13 T2
      obtain ⟨z0, C_0, C_1, C_2, C_3, C_4, C_5, C_6, C_7, C_8, C_9, C_10, C_11, C_12, C_13⟩ := id C
      go_wp2
      go_ret
      exact ⟨by simp, B1⟩

end Go.Proofs.YtkpjkdeomoecjaaDoor.Al
