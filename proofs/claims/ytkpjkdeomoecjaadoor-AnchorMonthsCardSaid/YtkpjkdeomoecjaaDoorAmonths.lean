/- AnchorMonths' walk. -/
import Derived.Test.YtkpjkdeomoecjaaDoorAlive
import Derived.Test.YtkpjkdeomoecjaaDoorAlaw
namespace Go.Proofs.YtkpjkdeomoecjaaDoor.Al
set_option linter.unusedSimpArgs false
set_option linter.unusedVariables false
open Go.RowKit Go.Proofs.YtkpjkdeomoecjaaDoor.Bn Go.Proofs.YtkpjkdeomoecjaaDoor.Cp Go.Proofs.YtkpjkdeomoecjaaDoor.Am Go.Proofs.YtkpjkdeomoecjaaDoor.Fp Go.Proofs.YtkpjkdeomoecjaaDoor.Ap Go.Proofs.YtkpjkdeomoecjaaDoor.Cm Go.Proofs.YtkpjkdeomoecjaaDoor.Em Go.Proofs.YtkpjkdeomoecjaaDoor.Ep Go.Proofs.YtkpjkdeomoecjaaDoor.Bx

set_option maxHeartbeats 1000000

set_option maxRecDepth 100000 in
theorem amonths_walk (c : CalZ) (y : Int) (w : World) (wf : CalWf c) (wy : (Lit.int .i64 y).wf = true) (tb : FTab w) :
    Calls Tryd.prog 8 #[.agg #[.string c.nm, .int .i64 c.k, .int .i64 c.d, .int .i64 c.m, .int .i64 c.s, .int .i64 c.sh, .int .i64 c.p0, .int .i64 c.p1, .int .i64 c.p2, .int .i64 c.cy, .int .i64 c.ex, .int .i64 c.fi, .int .i64 c.la, .int .i64 c.po], .int .i64 y] w fun e w' => e = .returned (.bool true) ∧ Below w.heap.size w w' := by
  have hm := wf.1
  clear wy
  by_cases hl : 100 < c.nm.size
  · have dl : decide ((100 : Int) < (c.nm.size : Int)) = true := decide_eq_true (by omega)
    clear hl
    go_enter Tryd.func8, Tryd.ntmps8
    go_wp2_with fail
    refine (alive_ok _ ((tb).alloc (.cells #[.string c.nm, .int .i64 c.k, .int .i64 c.d, .int .i64 c.m, .int .i64 c.s, .int .i64 c.sh, .int .i64 c.p0, .int .i64 c.p1, .int .i64 c.p2, .int .i64 c.cy, .int .i64 c.ex, .int .i64 c.fi, .int .i64 c.la, .int .i64 c.po] 24))).mono ?_
    rintro e w1 ⟨rfl, hb⟩
    have C := (CalIn.new w c 24).kept hb
    have T1 := ((tb).alloc (.cells #[.string c.nm, .int .i64 c.k, .int .i64 c.d, .int .i64 c.m, .int .i64 c.s, .int .i64 c.sh, .int .i64 c.p0, .int .i64 c.p1, .int .i64 c.p2, .int .i64 c.cy, .int .i64 c.ex, .int .i64 c.fi, .int .i64 c.la, .int .i64 c.po] 24)).kept hb
    have B1 := bthen (balloc (Below.refl _ w) (.cells #[.string c.nm, .int .i64 c.k, .int .i64 c.d, .int .i64 c.m, .int .i64 c.s, .int .i64 c.sh, .int .i64 c.p0, .int .i64 c.p1, .int .i64 c.p2, .int .i64 c.cy, .int .i64 c.ex, .int .i64 c.fi, .int .i64 c.la, .int .i64 c.po] 24)) hb
    try simp only [World.size_alloc] at C
    clear hb
    obtain ⟨z0, C_0, C_1, C_2, C_3, C_4, C_5, C_6, C_7, C_8, C_9, C_10, C_11, C_12, C_13⟩ := id C
    go_wp2
    go_ret
    exact ⟨by simp, B1⟩
  · have dl : decide ((100 : Int) < (c.nm.size : Int)) = false := decide_eq_false (by omega)
    clear hl
    by_cases k6 : c.k = 6
    case neg =>
      have dk : (c.k != 6) = true := bne_iff_ne.2 k6
      have dk2 : (c.k == 6) = false := beq_eq_false_iff_ne.2 k6
      clear k6 hm
      go_enter Tryd.func8, Tryd.ntmps8
      go_wp2_with fail
      refine (alive_ok _ ((tb).alloc (.cells #[.string c.nm, .int .i64 c.k, .int .i64 c.d, .int .i64 c.m, .int .i64 c.s, .int .i64 c.sh, .int .i64 c.p0, .int .i64 c.p1, .int .i64 c.p2, .int .i64 c.cy, .int .i64 c.ex, .int .i64 c.fi, .int .i64 c.la, .int .i64 c.po] 24))).mono ?_
      rintro e w1 ⟨rfl, hb⟩
      have C := (CalIn.new w c 24).kept hb
      have T1 := ((tb).alloc (.cells #[.string c.nm, .int .i64 c.k, .int .i64 c.d, .int .i64 c.m, .int .i64 c.s, .int .i64 c.sh, .int .i64 c.p0, .int .i64 c.p1, .int .i64 c.p2, .int .i64 c.cy, .int .i64 c.ex, .int .i64 c.fi, .int .i64 c.la, .int .i64 c.po] 24)).kept hb
      have B1 := bthen (balloc (Below.refl _ w) (.cells #[.string c.nm, .int .i64 c.k, .int .i64 c.d, .int .i64 c.m, .int .i64 c.s, .int .i64 c.sh, .int .i64 c.p0, .int .i64 c.p1, .int .i64 c.p2, .int .i64 c.cy, .int .i64 c.ex, .int .i64 c.fi, .int .i64 c.la, .int .i64 c.po] 24)) hb
      try simp only [World.size_alloc] at C
      clear hb
      obtain ⟨z0, C_0, C_1, C_2, C_3, C_4, C_5, C_6, C_7, C_8, C_9, C_10, C_11, C_12, C_13⟩ := id C
      go_wp2
      go_ret
      exact ⟨by simp, B1⟩
    have dk : (c.k != 6) = false := by rw [k6]; rfl
    have dk2 : (c.k == 6) = true := by rw [k6]; rfl
    by_cases ok : CalOk c
    · by_cases hy : 1601 ≤ y ∧ y ≤ 9997
      · obtain ⟨y0, y1⟩ := hy
        have kb := kind_bd ok.1
        have mo := mon_ok ok.1 (y := y) (by omega) (by omega)
        have mo1 := mon_ok ok.1 (y := y - 1) (by omega) (by omega)
        obtain ⟨a, ha⟩ : ∃ a, a = yend c (y - 1) := ⟨_, rfl⟩
        obtain ⟨b, hb'⟩ : ∃ b, b = yend c y := ⟨_, rfl⟩
        have s := yend_step ok.1 (y := y - 1) (by omega) (by omega)
        have bd := yend_bd ok.1 (y := y - 1) (by omega) (by omega)
        have bz := yend_bd ok.1 (y := y) (by omega) y1
        rw [show y - 1 + 1 = y by omega] at s
        have ea : a = mend (y - 1 + c.s) c.m := by rw [ha]; unfold yend; rw [if_neg (by omega), if_pos k6]
        have eb : b = mend (y + c.s) c.m := by rw [hb']; unfold yend; rw [if_neg (by omega), if_pos k6]
        have cs := fun w T => Start_any c y (a + 1) 0 w (.inl ⟨ok, y0, y1, by rw [ha], rfl⟩) hm T
        have cb := fun w T => End_any c y b 0 w (.inl ⟨ok, by omega, y1, hb', rfl⟩) hm T
        obtain ⟨n, hn⟩ : ∃ n, n = b - a := ⟨_, rfl⟩
        have cn := fun w T => Days_any c y n 0 w (.inl ⟨ok, y0, y1, by rw [hn, ha, hb'], rfl⟩) hm T
        have cW := fun w T => Weeks_any c y 0 1 w (.inr (.inr ⟨.inr k6, rfl, rfl⟩)) hm T
        rw [← ha, ← hb'] at s
        rw [← ha] at bd
        rw [← hb'] at bz
        obtain ⟨z, hz⟩ := after_end mo1 (by rw [← ea]; omega)
        rw [← ea] at hz
        obtain ⟨u, hu⟩ : ∃ u, u = c.m % 12 + 1 := ⟨_, rfl⟩
        rw [← hu] at hz
        have HU := Lib.hid hu
        clear hu
        have co := fun w T => Of_any (a + 1) z u 1 0 w hz T
        obtain ⟨l, hl⟩ : ∃ l, l = mlen (y + c.s) c.m := ⟨_, rfl⟩
        have cp := fun w T => Of_any b (y + c.s) c.m l 0 w (.inl ⟨bz.1, bz.2, by rw [hl]; exact end_ok mo, by rw [hl, eb]; rfl, rfl⟩) T
        have tm : c.m.tmod 12 = c.m % 12 := Int.tmod_eq_emod_of_nonneg (by omega)
        have s0 : n = 365 ∨ n = 366 := by omega
        have hw : IntKind.i64.wrap (y + c.s) = y + c.s := by rw [IntWalk.i64_in _ (by omega)]
        obtain ⟨a0, a1⟩ := bd
        obtain ⟨b0, b1⟩ := bz
        obtain ⟨m0, m1, q0, q1, _⟩ := kb
        clear ha hb' s ok hm ea eb mo mo1 hz hl k6 hn
        rcases s0 with rfl | rfl
        all_goals
          go_enter Tryd.func8, Tryd.ntmps8
          go_wp2_with fail
          refine (alive_ok _ ((tb).alloc (.cells #[.string c.nm, .int .i64 c.k, .int .i64 c.d, .int .i64 c.m, .int .i64 c.s, .int .i64 c.sh, .int .i64 c.p0, .int .i64 c.p1, .int .i64 c.p2, .int .i64 c.cy, .int .i64 c.ex, .int .i64 c.fi, .int .i64 c.la, .int .i64 c.po] 24))).mono ?_
          rintro e w1 ⟨rfl, hb⟩
          have C := (CalIn.new w c 24).kept hb
          have T1 := ((tb).alloc (.cells #[.string c.nm, .int .i64 c.k, .int .i64 c.d, .int .i64 c.m, .int .i64 c.s, .int .i64 c.sh, .int .i64 c.p0, .int .i64 c.p1, .int .i64 c.p2, .int .i64 c.cy, .int .i64 c.ex, .int .i64 c.fi, .int .i64 c.la, .int .i64 c.po] 24)).kept hb
          have B1 := bthen (balloc (Below.refl _ w) (.cells #[.string c.nm, .int .i64 c.k, .int .i64 c.d, .int .i64 c.m, .int .i64 c.s, .int .i64 c.sh, .int .i64 c.p0, .int .i64 c.p1, .int .i64 c.p2, .int .i64 c.cy, .int .i64 c.ex, .int .i64 c.fi, .int .i64 c.la, .int .i64 c.po] 24)) hb
          try simp only [World.size_alloc] at C
          clear hb
          obtain ⟨z0, C_0, C_1, C_2, C_3, C_4, C_5, C_6, C_7, C_8, C_9, C_10, C_11, C_12, C_13⟩ := id C
          go_wp2_with fail
          refine (cs _ (T1)).mono ?_
          rintro e w2 ⟨rfl, hb⟩
          replace C := (C).kept hb
          have T2 := (T1).kept hb
          replace B1 := bthen B1 hb
          clear hb z0 C_0 C_1 C_2 C_3 C_4 C_5 C_6 C_7 C_8 C_9 C_10 C_11 C_12 C_13 T1
          obtain ⟨z0, C_0, C_1, C_2, C_3, C_4, C_5, C_6, C_7, C_8, C_9, C_10, C_11, C_12, C_13⟩ := id C
          go_wp2_with fail
          refine (cb _ (T2)).mono ?_
          rintro e w3 ⟨rfl, hb⟩
          replace C := (C).kept hb
          have T3 := (T2).kept hb
          replace B1 := bthen B1 hb
          clear hb z0 C_0 C_1 C_2 C_3 C_4 C_5 C_6 C_7 C_8 C_9 C_10 C_11 C_12 C_13 T2
          obtain ⟨z0, C_0, C_1, C_2, C_3, C_4, C_5, C_6, C_7, C_8, C_9, C_10, C_11, C_12, C_13⟩ := id C
          go_wp2_with fail
          refine (co _ (T3).civ).mono ?_
          rintro e w4 ⟨rfl, hb⟩
          replace C := (C).kept hb
          have T4 := (T3).kept hb
          replace B1 := bthen B1 hb
          clear hb z0 C_0 C_1 C_2 C_3 C_4 C_5 C_6 C_7 C_8 C_9 C_10 C_11 C_12 C_13 T3
          obtain ⟨z0, C_0, C_1, C_2, C_3, C_4, C_5, C_6, C_7, C_8, C_9, C_10, C_11, C_12, C_13⟩ := id C
          go_wp2_with fail
          refine (cp _ ((T4).alloc (.cells #[.int .i64 z, .int .i64 u, .int .i64 1] 33)).civ).mono ?_
          rintro e w5 ⟨rfl, hb⟩
          replace C := ((C).alloc (.cells #[.int .i64 z, .int .i64 u, .int .i64 1] 33)).kept hb
          have Q := (Tri.new w4 (.int .i64 z) (.int .i64 u) (.int .i64 1) 33).kept hb
          have T5 := ((T4).alloc (.cells #[.int .i64 z, .int .i64 u, .int .i64 1] 33)).kept hb
          replace B1 := bthen (balloc B1 (.cells #[.int .i64 z, .int .i64 u, .int .i64 1] 33)) hb
          try simp only [World.size_alloc] at C Q
          clear hb z0 C_0 C_1 C_2 C_3 C_4 C_5 C_6 C_7 C_8 C_9 C_10 C_11 C_12 C_13 T4
          obtain ⟨z0, C_0, C_1, C_2, C_3, C_4, C_5, C_6, C_7, C_8, C_9, C_10, C_11, C_12, C_13⟩ := id C
          obtain ⟨z1, Q_0, Q_1, Q_2, _, _, _⟩ := id Q
          go_wp2_with fail
          refine (cn _ ((T5).alloc (.cells #[.int .i64 (y + c.s), .int .i64 c.m, .int .i64 l] 33))).mono ?_
          rintro e w6 ⟨rfl, hb⟩
          replace C := ((C).alloc (.cells #[.int .i64 (y + c.s), .int .i64 c.m, .int .i64 l] 33)).kept hb
          replace Q := ((Q).alloc (.cells #[.int .i64 (y + c.s), .int .i64 c.m, .int .i64 l] 33)).kept hb
          have R := (Tri.new w5 (.int .i64 (y + c.s)) (.int .i64 c.m) (.int .i64 l) 33).kept hb
          have T6 := ((T5).alloc (.cells #[.int .i64 (y + c.s), .int .i64 c.m, .int .i64 l] 33)).kept hb
          replace B1 := bthen (balloc B1 (.cells #[.int .i64 (y + c.s), .int .i64 c.m, .int .i64 l] 33)) hb
          try simp only [World.size_alloc] at C Q R
          clear hb z0 C_0 C_1 C_2 C_3 C_4 C_5 C_6 C_7 C_8 C_9 C_10 C_11 C_12 C_13 z1 Q_0 Q_1 Q_2 T5
          obtain ⟨z0, C_0, C_1, C_2, C_3, C_4, C_5, C_6, C_7, C_8, C_9, C_10, C_11, C_12, C_13⟩ := id C
          obtain ⟨z1, Q_0, Q_1, Q_2, _, _, _⟩ := id Q
          obtain ⟨z2, R_0, R_1, R_2, _, _, _⟩ := id R
          go_wp2_with fail
          refine (cW _ (T6)).mono ?_
          rintro e w7 ⟨rfl, hb⟩
          replace C := (C).kept hb
          replace Q := (Q).kept hb
          replace R := (R).kept hb
          have T7 := (T6).kept hb
          replace B1 := bthen B1 hb
          clear hb z0 C_0 C_1 C_2 C_3 C_4 C_5 C_6 C_7 C_8 C_9 C_10 C_11 C_12 C_13 z1 Q_0 Q_1 Q_2 z2 R_0 R_1 R_2 T6
          obtain ⟨z0, C_0, C_1, C_2, C_3, C_4, C_5, C_6, C_7, C_8, C_9, C_10, C_11, C_12, C_13⟩ := id C
          obtain ⟨z1, Q_0, Q_1, Q_2, _, _, _⟩ := id Q
          obtain ⟨z2, R_0, R_1, R_2, _, _, _⟩ := id R
          have hu := HU.out
          go_wp2
          go_ret
          exact ⟨by simp <;> omega, B1⟩
      · have cs := fun w T => Start_any c y 0 11 w (.inr (.inl ⟨ok, hy, rfl, rfl⟩)) hm T
        have ca : (∃ v, ∀ w, FTab w → Calls Tryd.prog 16 #[.agg #[.string c.nm, .int .i64 c.k, .int .i64 c.d, .int .i64 c.m, .int .i64 c.s, .int .i64 c.sh, .int .i64 c.p0, .int .i64 c.p1, .int .i64 c.p2, .int .i64 c.cy, .int .i64 c.ex, .int .i64 c.fi, .int .i64 c.la, .int .i64 c.po], .int .i64 y] w fun e w' => e = .returned (.tuple #[.int .i64 v, .int .i64 0]) ∧ Below w.heap.size w w') ∨ (∀ w, FTab w → Calls Tryd.prog 16 #[.agg #[.string c.nm, .int .i64 c.k, .int .i64 c.d, .int .i64 c.m, .int .i64 c.s, .int .i64 c.sh, .int .i64 c.p0, .int .i64 c.p1, .int .i64 c.p2, .int .i64 c.cy, .int .i64 c.ex, .int .i64 c.fi, .int .i64 c.la, .int .i64 c.po], .int .i64 y] w fun e w' => e = .returned (.tuple #[.int .i64 0, .int .i64 11]) ∧ Below w.heap.size w w') := by
          by_cases h : 1600 ≤ y ∧ y ≤ 9997
          · exact .inl ⟨_, fun w T => End_any c y _ 0 w (.inl ⟨ok, h.1, h.2, rfl, rfl⟩) hm T⟩
          · exact .inr (fun w T => End_any c y 0 11 w (.inr (.inl ⟨ok, h, rfl, rfl⟩)) hm T)
        clear ok hm hy k6
        rcases ca with ⟨v, ca⟩ | ca
        all_goals
          go_enter Tryd.func8, Tryd.ntmps8
          go_wp2_with fail
          refine (alive_ok _ ((tb).alloc (.cells #[.string c.nm, .int .i64 c.k, .int .i64 c.d, .int .i64 c.m, .int .i64 c.s, .int .i64 c.sh, .int .i64 c.p0, .int .i64 c.p1, .int .i64 c.p2, .int .i64 c.cy, .int .i64 c.ex, .int .i64 c.fi, .int .i64 c.la, .int .i64 c.po] 24))).mono ?_
          rintro e w1 ⟨rfl, hb⟩
          have C := (CalIn.new w c 24).kept hb
          have T1 := ((tb).alloc (.cells #[.string c.nm, .int .i64 c.k, .int .i64 c.d, .int .i64 c.m, .int .i64 c.s, .int .i64 c.sh, .int .i64 c.p0, .int .i64 c.p1, .int .i64 c.p2, .int .i64 c.cy, .int .i64 c.ex, .int .i64 c.fi, .int .i64 c.la, .int .i64 c.po] 24)).kept hb
          have B1 := bthen (balloc (Below.refl _ w) (.cells #[.string c.nm, .int .i64 c.k, .int .i64 c.d, .int .i64 c.m, .int .i64 c.s, .int .i64 c.sh, .int .i64 c.p0, .int .i64 c.p1, .int .i64 c.p2, .int .i64 c.cy, .int .i64 c.ex, .int .i64 c.fi, .int .i64 c.la, .int .i64 c.po] 24)) hb
          try simp only [World.size_alloc] at C
          clear hb
          obtain ⟨z0, C_0, C_1, C_2, C_3, C_4, C_5, C_6, C_7, C_8, C_9, C_10, C_11, C_12, C_13⟩ := id C
          go_wp2_with fail
          refine (cs _ (T1)).mono ?_
          rintro e w2 ⟨rfl, hb⟩
          replace C := (C).kept hb
          have T2 := (T1).kept hb
          replace B1 := bthen B1 hb
          clear hb z0 C_0 C_1 C_2 C_3 C_4 C_5 C_6 C_7 C_8 C_9 C_10 C_11 C_12 C_13 T1
          obtain ⟨z0, C_0, C_1, C_2, C_3, C_4, C_5, C_6, C_7, C_8, C_9, C_10, C_11, C_12, C_13⟩ := id C
          go_wp2_with fail
          refine (ca _ (T2)).mono ?_
          rintro e w3 ⟨rfl, hb⟩
          replace C := (C).kept hb
          have T3 := (T2).kept hb
          replace B1 := bthen B1 hb
          clear hb z0 C_0 C_1 C_2 C_3 C_4 C_5 C_6 C_7 C_8 C_9 C_10 C_11 C_12 C_13 T2
          obtain ⟨z0, C_0, C_1, C_2, C_3, C_4, C_5, C_6, C_7, C_8, C_9, C_10, C_11, C_12, C_13⟩ := id C
          go_wp2
          go_ret
          exact ⟨by simp, B1⟩
    · have cs := fun w T => Start_any c y 0 1 w (.inr (.inr ⟨ok, rfl, rfl⟩)) hm T
      have ca := fun w T => End_any c y 0 1 w (.inr (.inr ⟨ok, rfl, rfl⟩)) hm T
      clear ok hm k6
      go_enter Tryd.func8, Tryd.ntmps8
      go_wp2_with fail
      refine (alive_ok _ ((tb).alloc (.cells #[.string c.nm, .int .i64 c.k, .int .i64 c.d, .int .i64 c.m, .int .i64 c.s, .int .i64 c.sh, .int .i64 c.p0, .int .i64 c.p1, .int .i64 c.p2, .int .i64 c.cy, .int .i64 c.ex, .int .i64 c.fi, .int .i64 c.la, .int .i64 c.po] 24))).mono ?_
      rintro e w1 ⟨rfl, hb⟩
      have C := (CalIn.new w c 24).kept hb
      have T1 := ((tb).alloc (.cells #[.string c.nm, .int .i64 c.k, .int .i64 c.d, .int .i64 c.m, .int .i64 c.s, .int .i64 c.sh, .int .i64 c.p0, .int .i64 c.p1, .int .i64 c.p2, .int .i64 c.cy, .int .i64 c.ex, .int .i64 c.fi, .int .i64 c.la, .int .i64 c.po] 24)).kept hb
      have B1 := bthen (balloc (Below.refl _ w) (.cells #[.string c.nm, .int .i64 c.k, .int .i64 c.d, .int .i64 c.m, .int .i64 c.s, .int .i64 c.sh, .int .i64 c.p0, .int .i64 c.p1, .int .i64 c.p2, .int .i64 c.cy, .int .i64 c.ex, .int .i64 c.fi, .int .i64 c.la, .int .i64 c.po] 24)) hb
      try simp only [World.size_alloc] at C
      clear hb
      obtain ⟨z0, C_0, C_1, C_2, C_3, C_4, C_5, C_6, C_7, C_8, C_9, C_10, C_11, C_12, C_13⟩ := id C
      go_wp2_with fail
      refine (cs _ (T1)).mono ?_
      rintro e w2 ⟨rfl, hb⟩
      replace C := (C).kept hb
      have T2 := (T1).kept hb
      replace B1 := bthen B1 hb
      clear hb z0 C_0 C_1 C_2 C_3 C_4 C_5 C_6 C_7 C_8 C_9 C_10 C_11 C_12 C_13 T1
      obtain ⟨z0, C_0, C_1, C_2, C_3, C_4, C_5, C_6, C_7, C_8, C_9, C_10, C_11, C_12, C_13⟩ := id C
      go_wp2_with fail
      refine (ca _ (T2)).mono ?_
      rintro e w3 ⟨rfl, hb⟩
      replace C := (C).kept hb
      have T3 := (T2).kept hb
      replace B1 := bthen B1 hb
      clear hb z0 C_0 C_1 C_2 C_3 C_4 C_5 C_6 C_7 C_8 C_9 C_10 C_11 C_12 C_13 T2
      obtain ⟨z0, C_0, C_1, C_2, C_3, C_4, C_5, C_6, C_7, C_8, C_9, C_10, C_11, C_12, C_13⟩ := id C
      go_wp2
      go_ret
      exact ⟨by simp, B1⟩

end Go.Proofs.YtkpjkdeomoecjaaDoor.Al
