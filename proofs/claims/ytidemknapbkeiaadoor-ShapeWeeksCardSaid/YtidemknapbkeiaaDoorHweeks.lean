/- ShapeWeeks' walk. -/
import Derived.Test.YtidemknapbkeiaaDoorHends
namespace Go.Proofs.YtidemknapbkeiaaDoor.Hl
set_option linter.unusedSimpArgs false
set_option linter.unusedVariables false
open Go.RowKit Go.Proofs.YtidemknapbkeiaaDoor.Bn Go.Proofs.YtidemknapbkeiaaDoor.Bx Go.Proofs.YtidemknapbkeiaaDoor.Am Go.Proofs.YtidemknapbkeiaaDoor.Fp Go.Proofs.YtidemknapbkeiaaDoor.Ap Go.Proofs.YtidemknapbkeiaaDoor.Cm Go.Proofs.YtidemknapbkeiaaDoor.Em Go.Proofs.YtidemknapbkeiaaDoor.Ep Go.Proofs.YtidemknapbkeiaaDoor.Rk Go.Proofs.YtidemknapbkeiaaDoor.Hp
open Go.Proofs.YtidemknapbkeiaaDoor.Cp (Length_b Of_b)

set_option maxHeartbeats 8000000

/-- what a period's weeks are held against -/
theorem want_cases {c : CalZ} {y : Int} (h : KindOk c) (k6 : c.k ≠ 6) (y0 : 1601 ≤ y) (y1 : y ≤ 9997) {k : Nat} (hk : (k : Int) < per c) :
    ((c.sh == 4) = true ∧ (fwk c y k = 4 ∨ fwk c y k = 5)) ∨
    ((c.sh == 4) = false ∧ ∃ x a : Int, fwk c y k = x + a ∧ 0 ≤ x ∧ x ≤ 5 ∧
      (((c.sh == 1) = true ∧ ((((k : Int) % 3 = 0) ∧ x = c.p0) ∨ ((k : Int) % 3 = 1 ∧ x = c.p1) ∨ ((k : Int) % 3 = 2 ∧ x = c.p2))) ∨ ((c.sh == 1) = false ∧ (c.sh == 3) = true ∧ x = c.cy) ∨ ((c.sh == 1) = false ∧ (c.sh == 3) = false ∧ x = 4)) ∧
      (((k : Int) + 1 = c.ex ∧ nweeks c y = 53 ∧ a = 1) ∨ ((k : Int) + 1 = c.ex ∧ nweeks c y = 52 ∧ a = 0) ∨ ((k : Int) + 1 ≠ c.ex ∧ a = 0))) := by
  have st := pend_step h y0 y1 (p := (k : Int) + 1) (by omega) (by omega)
  rw [StepOk, show (k : Int) + 1 - 1 = k by omega] at st
  have nw := (nweeks_01 h k6 y0 (by omega)).1
  rcases st with ⟨s4, e, _⟩ | ⟨s5, _⟩ | ⟨n4, n5, _, e, x0, x1⟩
  · refine .inl ⟨by rw [s4]; rfl, ?_⟩
    unfold fwk wks; rw [show (k : Int) + 1 - 1 = k by omega]; omega
  · exfalso
    rcases shape_cases h with h | h | ⟨_, _, h⟩
    · omega
    · omega
    · rcases cut_cases h with h | h | h | h | h <;> omega
  · have cut : CutOk c := by
      rcases shape_cases h with h | h | ⟨_, _, h⟩
      · omega
      · omega
      · exact h
    have ew : fwk c y k = wkp c y ((k : Int) + 1) := by unfold fwk wks; rw [show (k : Int) + 1 - 1 = k by omega]; omega
    refine .inr ⟨beq_eq_false_iff_ne.2 n4, pat c ((k : Int) + 1), fwk c y k - pat c ((k : Int) + 1), by omega, by omega, x1, ?_, ?_⟩
    · unfold pat
      rw [show (k : Int) + 1 - 1 = k by omega]
      rcases cut_cases cut with h | h | h | h | h
      · refine .inl ⟨by rw [h.1]; rfl, ?_⟩
        rw [if_pos h.1]
        have m3 : (k : Int) % 3 = 0 ∨ (k : Int) % 3 = 1 ∨ (k : Int) % 3 = 2 := by omega
        rcases m3 with m | m | m
        · exact .inl ⟨m, by rw [if_pos m]⟩
        · exact .inr (.inl ⟨m, by rw [if_neg (by omega), if_pos m]⟩)
        · exact .inr (.inr ⟨m, by rw [if_neg (by omega), if_neg (by omega)]⟩)
      · exact .inr (.inr ⟨by rw [h.1]; rfl, by rw [h.1]; rfl, by rw [if_neg (by omega), if_pos h.1]⟩)
      all_goals exact .inr (.inl ⟨by rw [h.1]; rfl, by rw [h.1]; rfl, by rw [if_neg (by omega), if_neg (by omega)]⟩)
    · rw [ew]; unfold wkp
      by_cases q : (k : Int) + 1 = c.ex
      · rw [if_pos q]
        rcases nw with nw | nw
        · exact .inr (.inl ⟨q, nw, by omega⟩)
        · exact .inl ⟨q, nw, by omega⟩
      · rw [if_neg q]; exact .inr (.inr ⟨q, by omega⟩)

set_option maxRecDepth 100000 in
theorem weeks_walk (c : CalZ) (y : Int) (w : World) (wf : CalWf c) (wy : (Lit.int .i64 y).wf = true) (tb : FTab w) :
    Calls Tryd.prog 5 #[.agg #[.string c.nm, .int .i64 c.k, .int .i64 c.d, .int .i64 c.m, .int .i64 c.s, .int .i64 c.sh, .int .i64 c.p0, .int .i64 c.p1, .int .i64 c.p2, .int .i64 c.cy, .int .i64 c.ex, .int .i64 c.fi, .int .i64 c.la, .int .i64 c.po], .int .i64 y] w fun e w' => e = .returned (.bool true) ∧ Below w.heap.size w w' := by
  have T := tb
  have C := CalIn.new w c 24
  have B := balloc (Below.refl _ w) (.cells #[.string c.nm, .int .i64 c.k, .int .i64 c.d, .int .i64 c.m, .int .i64 c.s, .int .i64 c.sh, .int .i64 c.p0, .int .i64 c.p1, .int .i64 c.p2, .int .i64 c.cy, .int .i64 c.ex, .int .i64 c.fi, .int .i64 c.la, .int .i64 c.po] 24)
  replace T := T.alloc (.cells #[.string c.nm, .int .i64 c.k, .int .i64 c.d, .int .i64 c.m, .int .i64 c.s, .int .i64 c.sh, .int .i64 c.p0, .int .i64 c.p1, .int .i64 c.p2, .int .i64 c.cy, .int .i64 c.ex, .int .i64 c.fi, .int .i64 c.la, .int .i64 c.po] 24)
  have hm := wf.1
  by_cases hl : 100 < c.nm.size
  · have dl : decide ((100 : Int) < (c.nm.size : Int)) = true := decide_eq_true (by omega)
    clear hl
    go_enter Tryd.func5, Tryd.ntmps5
    go_upto_region 1 with fail
    generalize w.alloc (.cells #[.string c.nm, .int .i64 c.k, .int .i64 c.d, .int .i64 c.m, .int .i64 c.s, .int .i64 c.sh, .int .i64 c.p0, .int .i64 c.p1, .int .i64 c.p2, .int .i64 c.cy, .int .i64 c.ex, .int .i64 c.fi, .int .i64 c.la, .int .i64 c.po] 24) = W0 at *
    obtain ⟨_, c0, c1, c2, c3, c4, c5, c6, c7, c8, c9, c10, c11, c12, c13⟩ := id C
    go_wp2_with fail
    refine (hlive_ok _ T).mono ?_
    rintro e w1 ⟨rfl, hb⟩
    replace C := C.kept hb
    replace B := bthen B hb
    replace T := T.kept hb
    clear hb c0 c1 c2 c3 c4 c5 c6 c7 c8 c9 c10 c11 c12 c13
    obtain ⟨_, c0, c1, c2, c3, c4, c5, c6, c7, c8, c9, c10, c11, c12, c13⟩ := id C
    go_wp2
    go_ret
    exact ⟨by simp <;> omega, B⟩
  have dl : decide ((100 : Int) < (c.nm.size : Int)) = false := decide_eq_false (by omega)
  clear hl
  by_cases k6 : c.k = 6
  · have d6 : (c.k == 6) = true := by rw [k6]; rfl
    clear k6
    go_enter Tryd.func5, Tryd.ntmps5
    go_upto_region 1 with fail
    generalize w.alloc (.cells #[.string c.nm, .int .i64 c.k, .int .i64 c.d, .int .i64 c.m, .int .i64 c.s, .int .i64 c.sh, .int .i64 c.p0, .int .i64 c.p1, .int .i64 c.p2, .int .i64 c.cy, .int .i64 c.ex, .int .i64 c.fi, .int .i64 c.la, .int .i64 c.po] 24) = W0 at *
    obtain ⟨_, c0, c1, c2, c3, c4, c5, c6, c7, c8, c9, c10, c11, c12, c13⟩ := id C
    go_wp2_with fail
    refine (hlive_ok _ T).mono ?_
    rintro e w2 ⟨rfl, hb⟩
    replace C := C.kept hb
    replace B := bthen B hb
    replace T := T.kept hb
    clear hb c0 c1 c2 c3 c4 c5 c6 c7 c8 c9 c10 c11 c12 c13
    obtain ⟨_, c0, c1, c2, c3, c4, c5, c6, c7, c8, c9, c10, c11, c12, c13⟩ := id C
    go_wp2
    go_ret
    exact ⟨by simp <;> omega, B⟩
  have d6 : (c.k == 6) = false := beq_eq_false_iff_ne.2 k6
  rcases year_cases c y with ⟨ok, y0, y1⟩ | ⟨er, N⟩
  · have pb := per_bd ok.1
    obtain ⟨n, hn⟩ : ∃ n : Nat, (n : Int) = per c := ⟨(per c).toNat, by omega⟩
    have n1 : n ≤ 52 := by omega
    have n0 : 12 ≤ n := by omega
    obtain ⟨W, hW⟩ : ∃ W, W = nweeks c y := ⟨_, rfl⟩
    have nw := (nweeks_01 ok.1 k6 y0 (by omega)).1
    rw [← hW] at nw
    have cw := fun w T => Weeks_ok c y n w ok y0 y1 hn hm T
    have ca := fun w T => Weeks_any c y W 0 w (.inl ⟨ok, k6, y0, y1, hW, rfl⟩) hm T
    have cp := fun w T => Periods_any c (n : Int) 0 w (.inl ⟨ok, hn, rfl⟩) hm T
    have ALL : Hid (wsum c y n = W) := Lib.hid (by rw [hW]; exact wsum_all ok.1 k6 y0 y1 n hn)
    have FA : Hid (∀ k : Nat, k < n → ∃ d s : Int, d = fwk c y k ∧ s = wsum c y k ∧ s + d = wsum c y (k + 1) ∧ 0 ≤ s ∧ s ≤ 400 ∧ 1 ≤ d ∧ d ≤ 6 ∧
        (((c.sh == 4) = true ∧ (d = 4 ∨ d = 5)) ∨
         ((c.sh == 4) = false ∧ ∃ x a : Int, d = x + a ∧ 0 ≤ x ∧ x ≤ 5 ∧
          (((c.sh == 1) = true ∧ ((((k : Int) % 3 = 0) ∧ x = c.p0) ∨ ((k : Int) % 3 = 1 ∧ x = c.p1) ∨ ((k : Int) % 3 = 2 ∧ x = c.p2))) ∨ ((c.sh == 1) = false ∧ (c.sh == 3) = true ∧ x = c.cy) ∨ ((c.sh == 1) = false ∧ (c.sh == 3) = false ∧ x = 4)) ∧
          (((k : Int) + 1 = c.ex ∧ W = 53 ∧ a = 1) ∨ ((k : Int) + 1 = c.ex ∧ W = 52 ∧ a = 0) ∨ ((k : Int) + 1 ≠ c.ex ∧ a = 0))))) :=
      Lib.hid (fun k hk => by
        have wb := wks_bd ok.1 y0 y1 (p := (k : Int) + 1) (by omega) (by omega)
        have a := wsum_end ok.1 k6 y0 y1 k (by omega)
        have b := pend_mono ok.1 y0 y1 (a := 0) (b := (k : Int)) (by omega) (by omega) (by omega)
        have b2 := pend_mono ok.1 y0 y1 (a := (k : Int)) (b := per c) (by omega) (by omega) (by omega)
        have l := pend_last ok.1 y0 y1
        have e := nweeks_01 ok.1 k6 y0 (by omega)
        have z := pend_zero c y
        have wc := want_cases ok.1 k6 y0 y1 (k := k) (by omega)
        rw [← hW] at wc
        exact ⟨_, _, rfl, rfl, rfl, by omega, by omega, wb.1, wb.2.1, wc⟩)
    clear ok k6 hn pb hW hm
    go_enter Tryd.func5, Tryd.ntmps5
    go_upto_region 1 with fail
    generalize w.alloc (.cells #[.string c.nm, .int .i64 c.k, .int .i64 c.d, .int .i64 c.m, .int .i64 c.s, .int .i64 c.sh, .int .i64 c.p0, .int .i64 c.p1, .int .i64 c.p2, .int .i64 c.cy, .int .i64 c.ex, .int .i64 c.fi, .int .i64 c.la, .int .i64 c.po] 24) = W0 at *
    obtain ⟨_, c0, c1, c2, c3, c4, c5, c6, c7, c8, c9, c10, c11, c12, c13⟩ := id C
    go_wp2_with fail
    refine (hlive_ok _ T).mono ?_
    rintro e w3 ⟨rfl, hb⟩
    replace C := C.kept hb
    replace B := bthen B hb
    replace T := T.kept hb
    clear hb c0 c1 c2 c3 c4 c5 c6 c7 c8 c9 c10 c11 c12 c13
    obtain ⟨_, c0, c1, c2, c3, c4, c5, c6, c7, c8, c9, c10, c11, c12, c13⟩ := id C
    go_wp2_with fail
    refine (cw _ T).mono ?_
    rintro e w4 ⟨gR, capR, rfl, R, hgR, hb⟩
    replace C := C.kept hb
    replace B := bthen B hb
    replace T := T.kept hb
    clear hb hgR c0 c1 c2 c3 c4 c5 c6 c7 c8 c9 c10 c11 c12 c13
    obtain ⟨_, c0, c1, c2, c3, c4, c5, c6, c7, c8, c9, c10, c11, c12, c13⟩ := id C
    go_wp2_with fail
    refine (ca _ T).mono ?_
    rintro e w5 ⟨rfl, hb⟩
    replace C := C.kept hb
    replace B := bthen B hb
    replace T := T.kept hb
    replace R := R.kept hb
    clear hb c0 c1 c2 c3 c4 c5 c6 c7 c8 c9 c10 c11 c12 c13
    obtain ⟨_, c0, c1, c2, c3, c4, c5, c6, c7, c8, c9, c10, c11, c12, c13⟩ := id C
    go_wp2_with fail
    refine (cp _ T).mono ?_
    rintro e w6 ⟨rfl, hb⟩
    replace C := C.kept hb
    replace B := bthen B hb
    replace T := T.kept hb
    replace R := R.kept hb
    clear hb c0 c1 c2 c3 c4 c5 c6 c7 c8 c9 c10 c11 c12 c13
    obtain ⟨_, c0, c1, c2, c3, c4, c5, c6, c7, c8, c9, c10, c11, c12, c13⟩ := id C
    clear ca cw cp
    go_wp2
    go_loopw [11, 71] (fun Z X wr => ∃ k : Nat, k ≤ n ∧ X = .int .i64 (k : Int) ∧ (∃ s : Int, Z = .int .i64 s ∧ Hid (s = wsum c y k)) ∧ Below w6.heap.size w6 wr) (fun _ X _ => (54 - intOf X).toNat)
    case atStart => exact ⟨0, by omega, rfl, ⟨0, rfl, Lib.hid rfl⟩, Below.refl _ _⟩
    case round =>
      obtain ⟨k, hk, rfl, ⟨s, rfl, hs⟩, B2⟩ := hrel
      replace R := R.kept B2
      replace C := C.kept B2
      clear c0 c1 c2 c3 c4 c5 c6 c7 c8 c9 c10 c11 c12 c13
      by_cases hlt : k < n
      · obtain ⟨d, s', e1, e2, e3, s0, s1, d0, d1, O⟩ := FA.out k hlt
        obtain rfl : s = s' := hs.out.trans e2.symm
        have rc := R.c k hlt
        rw [← e1] at rc
        have pp : (0 : Int) ≤ (k : Int) := by omega
        have bp : (k : Int) < (n : Int) := by omega
        have E3 := Lib.hid e3
        clear e1 e2 e3 hs R
        obtain ⟨_, _, _, _, _, c5, c6, c7, c8, c9, c10, _, _, _⟩ := C
        rcases O with ⟨h4, O⟩ | ⟨h4, x, a, rfl, x0, x1, O, A⟩
        · rcases O with rfl | rfl
          all_goals
            go_wp2
            go_roundw
            case rel => exact ⟨k + 1, by omega, by go_num, ⟨_, rfl, E3⟩, B2⟩
            case measure => simp [intOf]; omega
        · have A' : (((k : Int) + 1 == c.ex) = true ∧ (W == 53) = true ∧ a = 1) ∨ (((k : Int) + 1 == c.ex) = true ∧ (W == 53) = false ∧ a = 0) ∨ (((k : Int) + 1 == c.ex) = false ∧ a = 0) := by
            rcases A with ⟨q, q2, q3⟩ | ⟨q, q2, q3⟩ | ⟨q, q3⟩
            · exact .inl ⟨by rw [q]; simp, by rw [q2]; rfl, q3⟩
            · exact .inr (.inl ⟨by rw [q]; simp, by rw [q2]; rfl, q3⟩)
            · exact .inr (.inr ⟨beq_eq_false_iff_ne.2 q, q3⟩)
          clear A
          rcases O with ⟨h1, ⟨hr, hx⟩ | ⟨hr, hx⟩ | ⟨hr, hx⟩⟩ | ⟨h1, h3, hx⟩ | ⟨h1, h3, hx⟩
          all_goals
            rw [hx] at x0 x1 rc E3
            clear hx
            rcases A' with ⟨q, q2, rfl⟩ | ⟨q, q2, rfl⟩ | ⟨q, rfl⟩
            all_goals
              go_wp2
              go_roundw
              case rel => exact ⟨k + 1, by omega, by go_num, ⟨_, by go_num, E3⟩, B2⟩
              case measure => simp [intOf]; omega
      · obtain rfl : k = n := by omega
        have es : s = W := hs.out.trans ALL.out
        subst es
        clear hs
        go_wp2
        go_ret
        exact ⟨by simp, bthen B B2⟩
  · have cw := fun w T => Weeks_no c y er w N hm T
    obtain ⟨e2, A, he⟩ := NoYear.weeks N
    obtain ⟨v3, e3, P⟩ := persa_ex c
    have ca := fun w T => Weeks_any c y 0 e2 w A hm T
    have cp := fun w T => Periods_any c v3 e3 w P hm T
    have O : (er = 11 ∧ (e2 = 11 ∨ e2 = 1)) ∨ (er = 1 ∧ e2 = 1) := by have := N.er; omega
    have O2 : er = 11 ∧ e2 = 11 ∨ er = 1 ∧ e2 = 1 := by
      rcases N with ⟨ok, hy, rfl⟩ | ⟨no, rfl⟩
      · rcases A with ⟨_, _, h1, h2, _⟩ | ⟨_, _, _, _, h⟩ | ⟨h, _⟩
        · exact absurd ⟨h1, h2⟩ hy
        · exact .inl ⟨rfl, h⟩
        · exact absurd (h.resolve_left (fun q => q ok)) k6
      · rcases A with ⟨h, _⟩ | ⟨h, _⟩ | ⟨_, _, h⟩
        · exact absurd h no
        · exact absurd h no
        · exact .inr ⟨rfl, h⟩
    clear N A O he k6 P
    rcases O2 with ⟨rfl, rfl⟩ | ⟨rfl, rfl⟩
    all_goals
      go_enter Tryd.func5, Tryd.ntmps5
      go_upto_region 1 with fail
      generalize w.alloc (.cells #[.string c.nm, .int .i64 c.k, .int .i64 c.d, .int .i64 c.m, .int .i64 c.s, .int .i64 c.sh, .int .i64 c.p0, .int .i64 c.p1, .int .i64 c.p2, .int .i64 c.cy, .int .i64 c.ex, .int .i64 c.fi, .int .i64 c.la, .int .i64 c.po] 24) = W0 at *
      obtain ⟨_, c0, c1, c2, c3, c4, c5, c6, c7, c8, c9, c10, c11, c12, c13⟩ := id C
      go_wp2_with fail
      refine (hlive_ok _ T).mono ?_
      rintro e w7 ⟨rfl, hb⟩
      replace C := C.kept hb
      replace B := bthen B hb
      replace T := T.kept hb
      clear hb c0 c1 c2 c3 c4 c5 c6 c7 c8 c9 c10 c11 c12 c13
      obtain ⟨_, c0, c1, c2, c3, c4, c5, c6, c7, c8, c9, c10, c11, c12, c13⟩ := id C
      go_wp2_with fail
      refine (cw _ T).mono ?_
      rintro e w8 ⟨rfl, hb⟩
      replace C := C.kept hb
      replace B := bthen B hb
      replace T := T.kept hb
      clear hb c0 c1 c2 c3 c4 c5 c6 c7 c8 c9 c10 c11 c12 c13
      obtain ⟨_, c0, c1, c2, c3, c4, c5, c6, c7, c8, c9, c10, c11, c12, c13⟩ := id C
      go_wp2_with fail
      refine (ca _ T).mono ?_
      rintro e w9 ⟨rfl, hb⟩
      replace C := C.kept hb
      replace B := bthen B hb
      replace T := T.kept hb
      clear hb c0 c1 c2 c3 c4 c5 c6 c7 c8 c9 c10 c11 c12 c13
      obtain ⟨_, c0, c1, c2, c3, c4, c5, c6, c7, c8, c9, c10, c11, c12, c13⟩ := id C
      go_wp2_with fail
      refine (cp _ T).mono ?_
      rintro e w10 ⟨rfl, hb⟩
      replace C := C.kept hb
      replace B := bthen B hb
      replace T := T.kept hb
      clear hb c0 c1 c2 c3 c4 c5 c6 c7 c8 c9 c10 c11 c12 c13
      obtain ⟨_, c0, c1, c2, c3, c4, c5, c6, c7, c8, c9, c10, c11, c12, c13⟩ := id C
      go_wp2
      go_ret
      exact ⟨by simp <;> omega, B⟩

end Go.Proofs.YtidemknapbkeiaaDoor.Hl
