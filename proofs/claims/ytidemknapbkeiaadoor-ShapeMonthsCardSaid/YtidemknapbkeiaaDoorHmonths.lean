/- ShapeMonths' walk. -/
import Derived.Test.YtidemknapbkeiaaDoorHlive
import Derived.Test.YtidemknapbkeiaaDoorJP
namespace Go.Proofs.YtidemknapbkeiaaDoor.Hl
set_option linter.unusedSimpArgs false
set_option linter.unusedVariables false
open Go.RowKit Go.Proofs.YtidemknapbkeiaaDoor.Bn Go.Proofs.YtidemknapbkeiaaDoor.Bx Go.Proofs.YtidemknapbkeiaaDoor.Am Go.Proofs.YtidemknapbkeiaaDoor.Fp Go.Proofs.YtidemknapbkeiaaDoor.Ap Go.Proofs.YtidemknapbkeiaaDoor.Cm Go.Proofs.YtidemknapbkeiaaDoor.Em Go.Proofs.YtidemknapbkeiaaDoor.Ep Go.Proofs.YtidemknapbkeiaaDoor.Rk Go.Proofs.YtidemknapbkeiaaDoor.Hp
open Go.Proofs.YtidemknapbkeiaaDoor.Cp (Length_b Of_b)

set_option maxHeartbeats 8000000

set_option maxRecDepth 100000 in
theorem months_walk (c : CalZ) (y : Int) (w : World) (wf : CalWf c) (wy : (Lit.int .i64 y).wf = true) (tb : FTab w) :
    Calls Tryd.prog 8 #[.agg #[.string c.nm, .int .i64 c.k, .int .i64 c.d, .int .i64 c.m, .int .i64 c.s, .int .i64 c.sh, .int .i64 c.p0, .int .i64 c.p1, .int .i64 c.p2, .int .i64 c.cy, .int .i64 c.ex, .int .i64 c.fi, .int .i64 c.la, .int .i64 c.po], .int .i64 y] w fun e w' => e = .returned (.bool true) ∧ Below w.heap.size w w' := by
  have T := tb
  have C := CalIn.new w c 24
  have B := balloc (Below.refl _ w) (.cells #[.string c.nm, .int .i64 c.k, .int .i64 c.d, .int .i64 c.m, .int .i64 c.s, .int .i64 c.sh, .int .i64 c.p0, .int .i64 c.p1, .int .i64 c.p2, .int .i64 c.cy, .int .i64 c.ex, .int .i64 c.fi, .int .i64 c.la, .int .i64 c.po] 24)
  replace T := T.alloc (.cells #[.string c.nm, .int .i64 c.k, .int .i64 c.d, .int .i64 c.m, .int .i64 c.s, .int .i64 c.sh, .int .i64 c.p0, .int .i64 c.p1, .int .i64 c.p2, .int .i64 c.cy, .int .i64 c.ex, .int .i64 c.fi, .int .i64 c.la, .int .i64 c.po] 24)
  have hm := wf.1
  by_cases hl : 100 < c.nm.size
  · have dl : decide ((100 : Int) < (c.nm.size : Int)) = true := decide_eq_true (by omega)
    clear hl
    go_enter Tryd.func8, Tryd.ntmps8
    go_upto_region 1 with fail
    generalize w.alloc (.cells #[.string c.nm, .int .i64 c.k, .int .i64 c.d, .int .i64 c.m, .int .i64 c.s, .int .i64 c.sh, .int .i64 c.p0, .int .i64 c.p1, .int .i64 c.p2, .int .i64 c.cy, .int .i64 c.ex, .int .i64 c.fi, .int .i64 c.la, .int .i64 c.po] 24) = W0 at *
    obtain ⟨_, c0, c1, c2, c3, c4, c5, c6, c7, c8, c9, c10, c11, c12, c13⟩ := id C
    go_wp2_with fail
    refine (hlive_ok _ T).mono ?_
    rintro e w1 ⟨rfl, hb⟩
    replace C := C.kept hb
    replace B := bthen B hb
    replace T := T.kept hb
    clear hb c0 c1 c2 c3 c4 c5 c6 c7 c8 c9 c10 c11 c12 c13
    obtain ⟨_, c0, c1, c2, c3, c4, c5, c6, c7, c8, c9, c10, c11, c12, c13⟩ := id C
    go_wp2
    go_ret
    exact ⟨by simp <;> omega, B⟩
  have dl : decide ((100 : Int) < (c.nm.size : Int)) = false := decide_eq_false (by omega)
  clear hl
  by_cases k6 : c.k = 6
  · have d6 : (c.k == 6) = true := by rw [k6]; rfl
    rcases year_cases c y with ⟨ok, y0, y1⟩ | ⟨er, N⟩
    · have sc : c.sh = 5 ∧ per c = 12 := by
        rcases shape_cases ok.1 with h | h | ⟨_, h, _⟩
        · omega
        · exact ⟨h.2.1, h.2.2.2⟩
        · exact absurd k6 h
      obtain ⟨s5, h12⟩ := sc
      have ce := fun w T => Ends_ok c y 12 w ok y0 y1 (by omega) hm T
      have cw := fun w T => Weeks_ok c y 12 w ok y0 y1 (by omega) hm T
      have kb := kind_bd ok.1
      obtain ⟨m0, m1, _⟩ := kb
      have FA : Hid (∀ k : Nat, k < 12 → ∃ v d Y M L : Int, v = fend c y k ∧ d = fwk c y k ∧ (c.m + k) % 12 = M ∧ (L + 6) / 7 = d ∧ 0 ≤ M ∧ M ≤ 11 ∧ 28 ≤ L ∧ L ≤ 31 ∧
          (∀ w, FTab w → Calls Tryd.prog 32 #[.int .i64 v] w fun e w' => e = .returned (.tuple #[.agg #[.int .i64 Y, .int .i64 (M + 1), .int .i64 L], .int .i64 0]) ∧ Below w.heap.size w w') ∧
          (∀ w, FTab w → Calls Tryd.prog 33 #[.int .i64 Y, .int .i64 (M + 1)] w fun e w' => e = .returned (.tuple #[.int .i64 L, .int .i64 0]) ∧ Below w.heap.size w w')) :=
        Lib.hid (fun k hk => by
          have b1 := pend_bd ok.1 y0 y1 (p := (k : Int) + 1) (by omega) (by omega)
          have st := pend_step ok.1 y0 y1 (p := (k : Int) + 1) (by omega) (by omega)
          have kb := kind_bd ok.1
          rcases st with ⟨h, _⟩ | ⟨_, e, f⟩ | ⟨_, h, _⟩
          · omega
          · obtain ⟨Y, hY⟩ : ∃ Y, Y = mon c y ((k : Int) + 1) / 12 := ⟨_, rfl⟩
            obtain ⟨M, hM⟩ : ∃ M, M = mon c y ((k : Int) + 1) % 12 := ⟨_, rfl⟩
            rw [← hY, ← hM] at e f
            rw [show (k : Int) + 1 - 1 = k by omega] at e f
            have mo : MonthOk Y (M + 1) := by subst hY hM; unfold mon; exact ⟨by omega, by omega, by omega, by omega⟩
            have eM : (c.m + k) % 12 = M := by rw [hM]; unfold mon; omega
            have ml := mlen_bd Y (M + 1)
            refine ⟨fend c y k, fwk c y k, Y, M, mlen Y (M + 1), rfl, rfl, eM, ?_, by omega, by omega, ml.1, ml.2, fun w T => Of_b _ Y (M + 1) _ 0 w (.inl ⟨b1.1, b1.2, ⟨mo, by omega, by omega⟩, ?_, rfl⟩) T.civ, fun w T => Length_b Y (M + 1) _ 0 w (.inl ⟨mo, rfl, rfl⟩) T.civ⟩
            · unfold fwk wks; rw [show (k : Int) + 1 - 1 = k by omega]; omega
            · unfold fend; rw [e]; unfold num at f ⊢; omega
          · exact absurd s5 h)
      clear s5 ok h12 k6
      go_enter Tryd.func8, Tryd.ntmps8
      go_upto_region 1 with fail
      generalize w.alloc (.cells #[.string c.nm, .int .i64 c.k, .int .i64 c.d, .int .i64 c.m, .int .i64 c.s, .int .i64 c.sh, .int .i64 c.p0, .int .i64 c.p1, .int .i64 c.p2, .int .i64 c.cy, .int .i64 c.ex, .int .i64 c.fi, .int .i64 c.la, .int .i64 c.po] 24) = W0 at *
      obtain ⟨_, c0, c1, c2, c3, c4, c5, c6, c7, c8, c9, c10, c11, c12, c13⟩ := id C
      go_wp2_with fail
      refine (hlive_ok _ T).mono ?_
      rintro e w2 ⟨rfl, hb⟩
      replace C := C.kept hb
      replace B := bthen B hb
      replace T := T.kept hb
      clear hb c0 c1 c2 c3 c4 c5 c6 c7 c8 c9 c10 c11 c12 c13
      obtain ⟨_, c0, c1, c2, c3, c4, c5, c6, c7, c8, c9, c10, c11, c12, c13⟩ := id C
      go_wp2_with fail
      refine (ce _ T).mono ?_
      rintro e w3 ⟨gR, capR, rfl, R, hgR, hb⟩
      replace C := C.kept hb
      replace B := bthen B hb
      replace T := T.kept hb
      clear hb hgR c0 c1 c2 c3 c4 c5 c6 c7 c8 c9 c10 c11 c12 c13
      obtain ⟨_, c0, c1, c2, c3, c4, c5, c6, c7, c8, c9, c10, c11, c12, c13⟩ := id C
      go_wp2_with fail
      refine (cw _ T).mono ?_
      rintro e w4 ⟨gQ, capQ, rfl, Q, hgQ, hb⟩
      replace C := C.kept hb
      replace B := bthen B hb
      replace T := T.kept hb
      replace R := R.kept hb
      clear hb hgQ c0 c1 c2 c3 c4 c5 c6 c7 c8 c9 c10 c11 c12 c13
      obtain ⟨_, c0, c1, c2, c3, c4, c5, c6, c7, c8, c9, c10, c11, c12, c13⟩ := id C
      clear ce cw
      go_wp2
      go_loopw [62] (fun X wr => ∃ k : Nat, k ≤ 12 ∧ X = .int .i64 (k : Int) ∧ Below w4.heap.size w4 wr) (fun X _ => (13 - intOf X).toNat)
      case atStart => exact ⟨0, by omega, rfl, Below.refl _ _⟩
      case round =>
        obtain ⟨k, hk, rfl, B2⟩ := hrel
        replace R := R.kept B2
        replace Q := Q.kept B2
        replace C := C.kept B2
        replace T := T.kept B2
        clear c0 c1 c2 c3 c4 c5 c6 c7 c8 c9 c10 c11 c12 c13
        by_cases hlt : k < 12
        · obtain ⟨v, d, Y, M, L, e1, e2, e3, e4, u0, u1, l0, l1, co, cl⟩ := FA.out k hlt
          have rc := R.c k hlt
          rw [← e1] at rc
          have pp : (0 : Int) ≤ (k : Int) := by omega
          have bp : (k : Int) < 12 := by omega
          have E2 := Lib.hid e2
          clear e1 e2
          replace co := co _ T
          go_wp2_with fail
          refine co.mono ?_
          rintro e w21 ⟨rfl, hb⟩
          have X := (Go.Proofs.YtidemknapbkeiaaDoor.Bx.Tri.new w21 (.int .i64 Y) (.int .i64 (M + 1)) (.int .i64 L) 37)
          replace B2 := balloc (bthen B2 hb) (.cells #[.int .i64 Y, .int .i64 (M + 1), .int .i64 L] 37)
          replace Q := (Q.kept hb).kept (balloc (Below.refl _ _) (.cells #[.int .i64 Y, .int .i64 (M + 1), .int .i64 L] 37))
          replace C := (C.kept hb).alloc (.cells #[.int .i64 Y, .int .i64 (M + 1), .int .i64 L] 37)
          replace cl := cl _ ((T.kept hb).alloc (.cells #[.int .i64 Y, .int .i64 (M + 1), .int .i64 L] 37))
          obtain ⟨_, t0, t1, t2, _, _, _⟩ := id X
          clear hb rc co R
          go_wp2_with fail
          refine cl.mono ?_
          rintro e w22 ⟨rfl, hb⟩
          replace B2 := bthen B2 hb
          replace X := X.kept hb
          replace Q := Q.kept hb
          replace C := C.kept hb
          clear hb cl t0 t1 t2
          obtain ⟨_, t0, t1, t2, _, _, _⟩ := X
          have qc := Q.c k hlt
          rw [← E2.out] at qc
          have k3 := C.c3
          have d9 : 4 ≤ d ∧ d ≤ 5 := by omega
          obtain ⟨d4, d5⟩ := d9
          clear Q C
          go_wp2
          go_roundw
          case rel => exact ⟨k + 1, by omega, by go_num, B2⟩
          case measure => simp [intOf]; omega
        · obtain rfl : k = 12 := by omega
          go_wp2
          go_ret
          exact ⟨rfl, bthen B B2⟩
    · have ce := fun w T => Ends_no c y er w N hm T
      have cw := fun w T => Weeks_no c y er w N hm T
      clear k6
      rcases N.er with rfl | rfl
      all_goals
        clear N
        go_enter Tryd.func8, Tryd.ntmps8
        go_upto_region 1 with fail
        generalize w.alloc (.cells #[.string c.nm, .int .i64 c.k, .int .i64 c.d, .int .i64 c.m, .int .i64 c.s, .int .i64 c.sh, .int .i64 c.p0, .int .i64 c.p1, .int .i64 c.p2, .int .i64 c.cy, .int .i64 c.ex, .int .i64 c.fi, .int .i64 c.la, .int .i64 c.po] 24) = W0 at *
        obtain ⟨_, c0, c1, c2, c3, c4, c5, c6, c7, c8, c9, c10, c11, c12, c13⟩ := id C
        go_wp2_with fail
        refine (hlive_ok _ T).mono ?_
        rintro e w5 ⟨rfl, hb⟩
        replace C := C.kept hb
        replace B := bthen B hb
        replace T := T.kept hb
        clear hb c0 c1 c2 c3 c4 c5 c6 c7 c8 c9 c10 c11 c12 c13
        obtain ⟨_, c0, c1, c2, c3, c4, c5, c6, c7, c8, c9, c10, c11, c12, c13⟩ := id C
        go_wp2_with fail
        refine (ce _ T).mono ?_
        rintro e w6 ⟨rfl, hb⟩
        replace C := C.kept hb
        replace B := bthen B hb
        replace T := T.kept hb
        clear hb c0 c1 c2 c3 c4 c5 c6 c7 c8 c9 c10 c11 c12 c13
        obtain ⟨_, c0, c1, c2, c3, c4, c5, c6, c7, c8, c9, c10, c11, c12, c13⟩ := id C
        go_wp2_with fail
        refine (cw _ T).mono ?_
        rintro e w7 ⟨rfl, hb⟩
        replace C := C.kept hb
        replace B := bthen B hb
        replace T := T.kept hb
        clear hb c0 c1 c2 c3 c4 c5 c6 c7 c8 c9 c10 c11 c12 c13
        obtain ⟨_, c0, c1, c2, c3, c4, c5, c6, c7, c8, c9, c10, c11, c12, c13⟩ := id C
        go_wp2
        go_ret
        exact ⟨by simp <;> omega, B⟩
  · have d6 : (c.k == 6) = false := beq_eq_false_iff_ne.2 k6
    clear k6
    go_enter Tryd.func8, Tryd.ntmps8
    go_upto_region 1 with fail
    generalize w.alloc (.cells #[.string c.nm, .int .i64 c.k, .int .i64 c.d, .int .i64 c.m, .int .i64 c.s, .int .i64 c.sh, .int .i64 c.p0, .int .i64 c.p1, .int .i64 c.p2, .int .i64 c.cy, .int .i64 c.ex, .int .i64 c.fi, .int .i64 c.la, .int .i64 c.po] 24) = W0 at *
    obtain ⟨_, c0, c1, c2, c3, c4, c5, c6, c7, c8, c9, c10, c11, c12, c13⟩ := id C
    go_wp2_with fail
    refine (hlive_ok _ T).mono ?_
    rintro e w8 ⟨rfl, hb⟩
    replace C := C.kept hb
    replace B := bthen B hb
    replace T := T.kept hb
    clear hb c0 c1 c2 c3 c4 c5 c6 c7 c8 c9 c10 c11 c12 c13
    obtain ⟨_, c0, c1, c2, c3, c4, c5, c6, c7, c8, c9, c10, c11, c12, c13⟩ := id C
    go_wp2
    go_ret
    exact ⟨by simp <;> omega, B⟩

end Go.Proofs.YtidemknapbkeiaaDoor.Hl
