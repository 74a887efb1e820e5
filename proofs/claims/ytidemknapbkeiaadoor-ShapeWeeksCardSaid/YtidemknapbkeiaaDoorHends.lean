/- ShapeEnds' walk. -/
import Derived.Test.YtidemknapbkeiaaDoorHlive
import Derived.Test.YtidemknapbkeiaaDoorJP
namespace Go.Proofs.YtidemknapbkeiaaDoor.Hl
set_option linter.unusedSimpArgs false
set_option linter.unusedVariables false
open Go.RowKit Go.Proofs.YtidemknapbkeiaaDoor.Bn Go.Proofs.YtidemknapbkeiaaDoor.Bx Go.Proofs.YtidemknapbkeiaaDoor.Am Go.Proofs.YtidemknapbkeiaaDoor.Fp Go.Proofs.YtidemknapbkeiaaDoor.Ap Go.Proofs.YtidemknapbkeiaaDoor.Cm Go.Proofs.YtidemknapbkeiaaDoor.Em Go.Proofs.YtidemknapbkeiaaDoor.Ep Go.Proofs.YtidemknapbkeiaaDoor.Rk Go.Proofs.YtidemknapbkeiaaDoor.Hp
open Go.Proofs.YtidemknapbkeiaaDoor.Cp (Length_b Of_b)

set_option maxHeartbeats 8000000

theorem NoYear.weeks {c : CalZ} {y er : Int} (h : NoYear c y er) : ∃ e2, WeeksA c y 0 e2 ∧ (e2 = er ∨ e2 = 1) := by
  rcases h with ⟨a, b, rfl⟩ | ⟨a, rfl⟩
  · by_cases k : c.k = 6
    · exact ⟨1, .inr (.inr ⟨.inr k, rfl, rfl⟩), .inr rfl⟩
    · exact ⟨11, .inr (.inl ⟨a, k, b, rfl, rfl⟩), .inl rfl⟩
  · exact ⟨1, .inr (.inr ⟨.inl a, rfl, rfl⟩), .inl rfl⟩
theorem NoYear.per {c : CalZ} {y er : Int} (h : NoYear c y er) : ∃ v e2, PersA c v e2 := persa_ex c

set_option maxRecDepth 100000 in
theorem ends_walk (c : CalZ) (y : Int) (w : World) (wf : CalWf c) (wy : (Lit.int .i64 y).wf = true) (tb : FTab w) :
    Calls Tryd.prog 6 #[.agg #[.string c.nm, .int .i64 c.k, .int .i64 c.d, .int .i64 c.m, .int .i64 c.s, .int .i64 c.sh, .int .i64 c.p0, .int .i64 c.p1, .int .i64 c.p2, .int .i64 c.cy, .int .i64 c.ex, .int .i64 c.fi, .int .i64 c.la, .int .i64 c.po], .int .i64 y] w fun e w' => e = .returned (.bool true) ∧ Below w.heap.size w w' := by
  have T := tb
  have C := CalIn.new w c 24
  have B := balloc (Below.refl _ w) (.cells #[.string c.nm, .int .i64 c.k, .int .i64 c.d, .int .i64 c.m, .int .i64 c.s, .int .i64 c.sh, .int .i64 c.p0, .int .i64 c.p1, .int .i64 c.p2, .int .i64 c.cy, .int .i64 c.ex, .int .i64 c.fi, .int .i64 c.la, .int .i64 c.po] 24)
  replace T := T.alloc (.cells #[.string c.nm, .int .i64 c.k, .int .i64 c.d, .int .i64 c.m, .int .i64 c.s, .int .i64 c.sh, .int .i64 c.p0, .int .i64 c.p1, .int .i64 c.p2, .int .i64 c.cy, .int .i64 c.ex, .int .i64 c.fi, .int .i64 c.la, .int .i64 c.po] 24)
  have hm := wf.1
  by_cases hl : 100 < c.nm.size
  · have dl : decide ((100 : Int) < (c.nm.size : Int)) = true := decide_eq_true (by omega)
    clear hl
    go_enter Tryd.func6, Tryd.ntmps6
    go_upto_region 1 with fail
    generalize w.alloc (.cells #[.string c.nm, .int .i64 c.k, .int .i64 c.d, .int .i64 c.m, .int .i64 c.s, .int .i64 c.sh, .int .i64 c.p0, .int .i64 c.p1, .int .i64 c.p2, .int .i64 c.cy, .int .i64 c.ex, .int .i64 c.fi, .int .i64 c.la, .int .i64 c.po] 24) = W0 at *
    obtain ⟨_, c0, c1, c2, c3, c4, c5, c6, c7, c8, c9, c10, c11, c12, c13⟩ := id C
    go_wp2_with fail
    refine (hlive_ok _ T).mono ?_
    rintro e w1 ⟨rfl, hb⟩
    replace C := C.kept hb
    replace B := bthen B hb
    replace T := T.kept hb
    clear hb c0 c1 c2 c3 c4 c5 c6 c7 c8 c9 c10 c11 c12 c13
    obtain ⟨_, c0, c1, c2, c3, c4, c5, c6, c7, c8, c9, c10, c11, c12, c13⟩ := id C
    go_wp2
    go_ret
    exact ⟨by simp <;> omega, B⟩
  have dl : decide ((100 : Int) < (c.nm.size : Int)) = false := decide_eq_false (by omega)
  clear hl
  rcases year_cases c y with ⟨ok, y0, y1⟩ | ⟨er, N⟩
  · have pb := per_bd ok.1
    obtain ⟨n, hn⟩ : ∃ n : Nat, (n : Int) = per c := ⟨(per c).toNat, by omega⟩
    obtain ⟨m, hm'⟩ : ∃ m : Nat, m + 1 = n := ⟨n - 1, by omega⟩
    have n1 : n ≤ 52 := by omega
    have n0 : 12 ≤ n := by omega
    have ce := fun w T => Ends_ok c y n w ok y0 y1 hn hm T
    have cw := fun w T => Weeks_ok c y n w ok y0 y1 hn hm T
    obtain ⟨a, ha⟩ : ∃ a, a = pend c y 0 + 1 := ⟨_, rfl⟩
    obtain ⟨b, hb'⟩ : ∃ b, b = pend c y (per c) := ⟨_, rfl⟩
    have bd := pend_bd ok.1 y0 y1 (p := 0) (by omega) (by omega)
    obtain ⟨a0, a1⟩ : 0 ≤ a ∧ a ≤ 3068037 := by omega
    have cs := fun w T => Start_any c y a 0 w (.inl ⟨ok, y0, y1, by rw [ha, pend_zero], rfl⟩) hm T
    have cl := fun w T => End_any c y b 0 w (.inl ⟨ok, by omega, y1, by rw [hb', pend_last ok.1 y0 y1], rfl⟩) hm T
    have LS : Hid (fend c y m = b) := Lib.hid (by unfold fend; rw [hb', ← hn]; congr 1; omega)
    have HA : Hid (a = pend c y (0 : Nat) + 1) := Lib.hid ha
    have FA : Hid (∀ k : Nat, k < n → ∃ f v d : Int, f = pend c y k + 1 ∧ v = fend c y k ∧ d = fwk c y k ∧ v + 1 = pend c y ((k + 1 : Nat) : Int) + 1 ∧ 0 ≤ f ∧ v ≤ 3068036 ∧ 7 ≤ v - f + 1 ∧ 1 ≤ d ∧ d ≤ 6 ∧ v - f + 1 ≤ 7 * d ∧ 7 * (d - 1) < v - f + 1 ∧ ((c.k == 6) = true ∨ ((c.k == 6) = false ∧ v - f + 1 = 7 * d))) :=
      Lib.hid (fun k hk => by
        have b0 := pend_bd ok.1 y0 y1 (p := (k : Int)) (by omega) (by omega)
        have b1 := pend_bd ok.1 y0 y1 (p := (k : Int) + 1) (by omega) (by omega)
        have st := step_bd ok.1 y0 y1 (p := (k : Int) + 1) (by omega) (by omega)
        have wb := wks_bd ok.1 y0 y1 (p := (k : Int) + 1) (by omega) (by omega)
        rw [show (k : Int) + 1 - 1 = k by omega] at st wb
        refine ⟨_, _, _, rfl, rfl, rfl, by unfold fend; congr 2, by omega, b1.2, by unfold fend; omega, wb.1, wb.2.1, by unfold fend fwk; omega, by unfold fend fwk; omega, ?_⟩
        by_cases k6 : c.k = 6
        · exact .inl (by rw [k6]; rfl)
        · exact .inr ⟨beq_eq_false_iff_ne.2 k6, by have := st.2.2 k6; unfold fend fwk; omega⟩)
    have hmm : (n : Int) - 1 = (m : Int) := by omega
    have mn : m < n := by omega
    have mn2 : (m : Int) < (n : Int) := by omega
    have m0 : (0 : Int) ≤ (m : Int) := by omega
    have dz : ((n : Int) == 0) = false := beq_eq_false_iff_ne.2 (by omega)
    clear ok hn hm' pb ha hb' bd hm
    go_enter Tryd.func6, Tryd.ntmps6
    go_upto_region 1 with fail
    generalize w.alloc (.cells #[.string c.nm, .int .i64 c.k, .int .i64 c.d, .int .i64 c.m, .int .i64 c.s, .int .i64 c.sh, .int .i64 c.p0, .int .i64 c.p1, .int .i64 c.p2, .int .i64 c.cy, .int .i64 c.ex, .int .i64 c.fi, .int .i64 c.la, .int .i64 c.po] 24) = W0 at *
    obtain ⟨_, c0, c1, c2, c3, c4, c5, c6, c7, c8, c9, c10, c11, c12, c13⟩ := id C
    go_wp2_with fail
    refine (hlive_ok _ T).mono ?_
    rintro e w2 ⟨rfl, hb⟩
    replace C := C.kept hb
    replace B := bthen B hb
    replace T := T.kept hb
    clear hb c0 c1 c2 c3 c4 c5 c6 c7 c8 c9 c10 c11 c12 c13
    obtain ⟨_, c0, c1, c2, c3, c4, c5, c6, c7, c8, c9, c10, c11, c12, c13⟩ := id C
    go_wp2_with fail
    refine (ce _ T).mono ?_
    rintro e w3 ⟨gR, capR, rfl, R, hgR, hb⟩
    replace C := C.kept hb
    replace B := bthen B hb
    replace T := T.kept hb
    clear hb hgR c0 c1 c2 c3 c4 c5 c6 c7 c8 c9 c10 c11 c12 c13
    obtain ⟨_, c0, c1, c2, c3, c4, c5, c6, c7, c8, c9, c10, c11, c12, c13⟩ := id C
    go_wp2_with fail
    refine (cw _ T).mono ?_
    rintro e w4 ⟨gQ, capQ, rfl, Q, hgQ, hb⟩
    replace C := C.kept hb
    replace B := bthen B hb
    replace T := T.kept hb
    replace R := R.kept hb
    clear hb hgQ c0 c1 c2 c3 c4 c5 c6 c7 c8 c9 c10 c11 c12 c13
    obtain ⟨_, c0, c1, c2, c3, c4, c5, c6, c7, c8, c9, c10, c11, c12, c13⟩ := id C
    go_wp2_with fail
    refine (cs _ T).mono ?_
    rintro e w5 ⟨rfl, hb⟩
    replace C := C.kept hb
    replace B := bthen B hb
    replace T := T.kept hb
    replace R := R.kept hb
    replace Q := Q.kept hb
    clear hb c0 c1 c2 c3 c4 c5 c6 c7 c8 c9 c10 c11 c12 c13
    obtain ⟨_, c0, c1, c2, c3, c4, c5, c6, c7, c8, c9, c10, c11, c12, c13⟩ := id C
    go_wp2_with fail
    refine (cl _ T).mono ?_
    rintro e w6 ⟨rfl, hb⟩
    replace C := C.kept hb
    replace B := bthen B hb
    replace T := T.kept hb
    replace R := R.kept hb
    replace Q := Q.kept hb
    clear hb c0 c1 c2 c3 c4 c5 c6 c7 c8 c9 c10 c11 c12 c13
    obtain ⟨_, c0, c1, c2, c3, c4, c5, c6, c7, c8, c9, c10, c11, c12, c13⟩ := id C
    clear ce cw cs cl
    go_wp2
    go_loopw [9, 77] (fun Z X wr => ∃ k : Nat, k ≤ n ∧ X = .int .i64 (k : Int) ∧ (∃ f : Int, Z = .int .i64 f ∧ Hid (f = pend c y k + 1)) ∧ Below w6.heap.size w6 wr) (fun _ X _ => (54 - intOf X).toNat)
    case atStart => exact ⟨0, by omega, rfl, ⟨a, rfl, HA⟩, Below.refl _ _⟩
    case round =>
      obtain ⟨k, hk, rfl, ⟨f, rfl, hf⟩, B2⟩ := hrel
      replace R := R.kept B2
      replace Q := Q.kept B2
      have k1 := (C.kept B2).c1
      by_cases hlt : k < n
      · obtain ⟨f', v, d, e1, e2, e3, e4, f0, v1, h7, d1, d6, g1, g2, O⟩ := FA.out k hlt
        obtain rfl : f = f' := hf.out.trans e1.symm
        have rc := R.c k hlt
        have qc := Q.c k hlt
        rw [← e2] at rc
        rw [← e3] at qc
        have E4 := Lib.hid e4
        have pp : (0 : Int) ≤ (k : Int) := by omega
        have bp : (k : Int) < (n : Int) := by omega
        clear e1 e2 e3 e4 hf c0 c1 c2 c3 c4 c5 c6 c7 c8 c9 c10 c11 c12 c13 R Q hmm mn2 m0
        have n2 : ¬ d < 1 := by omega
        rcases O with d6' | ⟨d6', g3⟩
        · have dn : (c.k != 6) = false := by simpa using d6'
          have n1 : ¬ v - f + 1 < 7 := by omega
          have n3 : ¬ 7 * d < v - f + 1 := by omega
          have n4 : ¬ v - f + 1 ≤ 7 * (d - 1) := by omega
          go_wp2
          go_roundw
          case rel => exact ⟨k + 1, by omega, by go_num, ⟨v + 1, rfl, E4⟩, B2⟩
          case measure => simp [intOf]; omega
        · have dn : (c.k != 6) = true := by simpa using d6'
          have n1 : ¬ 7 * d < 7 := by omega
          have n4 : ¬ 7 * d ≤ 7 * (d - 1) := by omega
          clear h7 g1 g2
          go_wp2
          go_roundw
          case rel => exact ⟨k + 1, by omega, by go_num, ⟨_, rfl, E4⟩, B2⟩
          case measure => simp [intOf]; omega
      · obtain rfl : k = n := by omega
        have rc := R.c m mn
        rw [LS.out] at rc
        clear c0 c1 c2 c3 c4 c5 c6 c7 c8 c9 c10 c11 c12 c13 hf
        go_wp2
        go_ret
        exact ⟨by simp, bthen B B2⟩
  · have ce := fun w T => Ends_no c y er w N hm T
    have cw := fun w T => Weeks_no c y er w N hm T
    rcases N.er with rfl | rfl
    all_goals
      clear N
      go_enter Tryd.func6, Tryd.ntmps6
      go_upto_region 1 with fail
      generalize w.alloc (.cells #[.string c.nm, .int .i64 c.k, .int .i64 c.d, .int .i64 c.m, .int .i64 c.s, .int .i64 c.sh, .int .i64 c.p0, .int .i64 c.p1, .int .i64 c.p2, .int .i64 c.cy, .int .i64 c.ex, .int .i64 c.fi, .int .i64 c.la, .int .i64 c.po] 24) = W0 at *
      obtain ⟨_, c0, c1, c2, c3, c4, c5, c6, c7, c8, c9, c10, c11, c12, c13⟩ := id C
      go_wp2_with fail
      refine (hlive_ok _ T).mono ?_
      rintro e w7 ⟨rfl, hb⟩
      replace C := C.kept hb
      replace B := bthen B hb
      replace T := T.kept hb
      clear hb c0 c1 c2 c3 c4 c5 c6 c7 c8 c9 c10 c11 c12 c13
      obtain ⟨_, c0, c1, c2, c3, c4, c5, c6, c7, c8, c9, c10, c11, c12, c13⟩ := id C
      go_wp2_with fail
      refine (ce _ T).mono ?_
      rintro e w8 ⟨rfl, hb⟩
      replace C := C.kept hb
      replace B := bthen B hb
      replace T := T.kept hb
      clear hb c0 c1 c2 c3 c4 c5 c6 c7 c8 c9 c10 c11 c12 c13
      obtain ⟨_, c0, c1, c2, c3, c4, c5, c6, c7, c8, c9, c10, c11, c12, c13⟩ := id C
      go_wp2_with fail
      refine (cw _ T).mono ?_
      rintro e w9 ⟨rfl, hb⟩
      replace C := C.kept hb
      replace B := bthen B hb
      replace T := T.kept hb
      clear hb c0 c1 c2 c3 c4 c5 c6 c7 c8 c9 c10 c11 c12 c13
      obtain ⟨_, c0, c1, c2, c3, c4, c5, c6, c7, c8, c9, c10, c11, c12, c13⟩ := id C
      go_wp2
      go_ret
      exact ⟨by simp <;> omega, B⟩

end Go.Proofs.YtidemknapbkeiaaDoor.Hl
