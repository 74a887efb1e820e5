/- UnitCounts's walk. -/
import Derived.Test.YtidemknapbkeiaaDoorIdown
namespace Go.Proofs.YtidemknapbkeiaaDoor.Il
set_option linter.unusedSimpArgs false
set_option linter.unusedVariables false
open Go.RowKit Go.Proofs.YtidemknapbkeiaaDoor.Bn Go.Proofs.YtidemknapbkeiaaDoor.Bx Go.Proofs.YtidemknapbkeiaaDoor.Cp Go.Proofs.YtidemknapbkeiaaDoor.Am Go.Proofs.YtidemknapbkeiaaDoor.Fp Go.Proofs.YtidemknapbkeiaaDoor.Ap Go.Proofs.YtidemknapbkeiaaDoor.Cm Go.Proofs.YtidemknapbkeiaaDoor.Em Go.Proofs.YtidemknapbkeiaaDoor.Ep Go.Proofs.YtidemknapbkeiaaDoor.Rk Go.Proofs.YtidemknapbkeiaaDoor.Hp Go.Proofs.YtidemknapbkeiaaDoor.Ip

set_option maxHeartbeats 16000000

theorem quar_in {c : CalZ} {y p : Int} (h : KindOk c) (y0 : 1601 ≤ y) (y1 : y ≤ 9997) (p0 : 1 ≤ p) (p1 : p ≤ per c) : InU c y 3 (uend c y 4 (p - 1) + 1) (quar (per c) p) := by
  have q0 : 1 ≤ quar (per c) p ∧ quar (per c) p ≤ 4 := by unfold quar; repeat' split
                                                          all_goals omega
  have a := quar_gt h p0 p1 (q := quar (per c) p) (by omega) (by omega)
  have b := quar_gt h p0 p1 (q := quar (per c) p - 1) (by omega) (by omega)
  have qa := quarter_at h (quar (per c) p) (by omega) (by omega)
  have qb := quarter_at h (quar (per c) p - 1) (by omega) (by omega)
  generalize quar (per c) p = q at *
  have m1 := pend_mono h y0 y1 (a := per c * (q - 1) / 4) (b := p - 1) qb.1 (by omega) (by omega)
  have m2 := pend_mono h y0 y1 (a := p) (b := per c * q / 4) (by omega) (by omega) qa.2.1
  have m3 := pend_mono h y0 y1 (a := p - 1) (b := p) (by omega) (by omega) p1
  have uc := ucount_is c y
  refine ⟨q0.1, by rw [uc.2.2.1]; exact q0.2, ?_, ?_⟩
  · rw [uend_3, uend_4]; omega
  · rw [uend_3, uend_4]; omega

set_option maxRecDepth 100000 in
theorem counts_walk (c : CalZ) (y p : Int) (w : World) (wf : CalWf c) (wy : (Lit.int .i64 y).wf = true) (wp : (Lit.int .i64 p).wf = true) (tb : FTab w) :
    Calls Tryd.prog 15 #[.agg #[.string c.nm, .int .i64 c.k, .int .i64 c.d, .int .i64 c.m, .int .i64 c.s, .int .i64 c.sh, .int .i64 c.p0, .int .i64 c.p1, .int .i64 c.p2, .int .i64 c.cy, .int .i64 c.ex, .int .i64 c.fi, .int .i64 c.la, .int .i64 c.po], .int .i64 y, .int .i64 p] w fun e w' => e = .returned (.bool true) ∧ Below w.heap.size w w' := by
  have T := tb
  have C := CalIn.new w c 24
  have B := balloc (Below.refl _ w) (.cells #[.string c.nm, .int .i64 c.k, .int .i64 c.d, .int .i64 c.m, .int .i64 c.s, .int .i64 c.sh, .int .i64 c.p0, .int .i64 c.p1, .int .i64 c.p2, .int .i64 c.cy, .int .i64 c.ex, .int .i64 c.fi, .int .i64 c.la, .int .i64 c.po] 24)
  replace T := T.alloc (.cells #[.string c.nm, .int .i64 c.k, .int .i64 c.d, .int .i64 c.m, .int .i64 c.s, .int .i64 c.sh, .int .i64 c.p0, .int .i64 c.p1, .int .i64 c.p2, .int .i64 c.cy, .int .i64 c.ex, .int .i64 c.fi, .int .i64 c.la, .int .i64 c.po] 24)
  have hm := wf.1
  by_cases hl : 100 < c.nm.size
  · have dl : decide ((100 : Int) < (c.nm.size : Int)) = true := decide_eq_true (by omega)
    clear hl
    go_enter Tryd.func15, Tryd.ntmps15
    go_upto_region 1 with fail
    generalize w.alloc (.cells #[.string c.nm, .int .i64 c.k, .int .i64 c.d, .int .i64 c.m, .int .i64 c.s, .int .i64 c.sh, .int .i64 c.p0, .int .i64 c.p1, .int .i64 c.p2, .int .i64 c.cy, .int .i64 c.ex, .int .i64 c.fi, .int .i64 c.la, .int .i64 c.po] 24) = W0 at *
    obtain ⟨_, c0, c1, c2, c3, c4, c5, c6, c7, c8, c9, c10, c11, c12, c13⟩ := id C
    go_wp2_with fail
    refine (ilive_ok _ T).mono ?_
    rintro e w1 ⟨rfl, hb⟩
    replace C := C.kept hb
    replace B := bthen B hb
    replace T := T.kept hb
    clear hb c0 c1 c2 c3 c4 c5 c6 c7 c8 c9 c10 c11 c12 c13
    obtain ⟨_, c0, c1, c2, c3, c4, c5, c6, c7, c8, c9, c10, c11, c12, c13⟩ := id C
    go_wp2
    go_ret
    exact ⟨by simp <;> omega, B⟩
  have dl : decide ((100 : Int) < (c.nm.size : Int)) = false := decide_eq_false (by omega)
  clear hl
  by_cases ok : CalOk c
  · by_cases s : Served c y
    · have st := served_told ok s
      have y0 : 1601 ≤ y := by omega
      have y1 : y ≤ 9997 := by omega
      have uc := ucount_is c y
      have pe := perN_is ok.1
      have nb := nwk_bd ok.1 y0 y1
      obtain ⟨m, hm'⟩ : ∃ m, m = nwk c y := ⟨_, rfl⟩
      obtain ⟨n, hn⟩ : ∃ n : Nat, n = perN c := ⟨_, rfl⟩
      have np : (n : Int) = per c := by rw [hn]; exact pe.1
      have cx1 := fun w T => Count_any c 1 y 1 0 w (.inl ⟨ok, ⟨by omega, by omega⟩, s, uc.1.symm, rfl⟩) hm T
      have cx2 := fun w T => Count_any c 2 y 2 0 w (.inl ⟨ok, ⟨by omega, by omega⟩, s, uc.2.1.symm, rfl⟩) hm T
      have cx3 := fun w T => Count_any c 3 y 4 0 w (.inl ⟨ok, ⟨by omega, by omega⟩, s, uc.2.2.1.symm, rfl⟩) hm T
      have cx4 := fun w T => Count_any c 4 y (n : Int) 0 w (.inl ⟨ok, ⟨by omega, by omega⟩, s, np.trans uc.2.2.2.1.symm, rfl⟩) hm T
      have cx5 := fun w T => Count_any c 5 y m 0 w (.inl ⟨ok, ⟨by omega, by omega⟩, s, hm'.trans uc.2.2.2.2.symm, rfl⟩) hm T
      have cx6 := fun w T => Periods_any c (n : Int) 0 w (.inl ⟨ok, np, rfl⟩) hm T
      have cx7 := fun w T => Weeks_ok c y n w ok y0 y1 np hm T
      have V : Hid (m = wsum c y n) := Lib.hid (by rw [hm', hn]; rfl)
      have FA : Hid (∀ k : Nat, k < n → ∃ d s : Int, d = fwk c y k ∧ s = wsum c y k ∧ s + d = wsum c y (k + 1) ∧ 0 ≤ s ∧ s ≤ 100 ∧ 1 ≤ d ∧ d ≤ 6) :=
        Lib.hid (fun k hk => by
          have wb := wks_bd ok.1 y0 y1 (p := (k : Int) + 1) (by omega) (by omega)
          have a := wsum_step ok.1 y0 y1 (a := 0) (b := k) (by omega) (by omega)
          have b := wsum_step ok.1 y0 y1 (a := k) (b := perN c) (by omega) (by omega)
          unfold nwk at nb
          rw [show wsum c y 0 = 0 from rfl] at a
          exact ⟨_, _, rfl, rfl, rfl, by omega, by omega, wb.1, wb.2.1⟩)
      have X : (decide (p < 1) = true) ∨ (decide (p < 1) = false ∧ decide ((n : Int) < p) = true) ∨ (decide (p < 1) = false ∧ decide ((n : Int) < p) = false ∧ ∃ r : Int, (∀ w, FTab w → Calls Tryd.prog 37 #[.agg #[.string c.nm, .int .i64 c.k, .int .i64 c.d, .int .i64 c.m, .int .i64 c.s, .int .i64 c.sh, .int .i64 c.p0, .int .i64 c.p1, .int .i64 c.p2, .int .i64 c.cy, .int .i64 c.ex, .int .i64 c.fi, .int .i64 c.la, .int .i64 c.po], .agg #[.int .i64 4, .int .i64 y, .int .i64 p], .int .i64 3] w fun e w' => e = .returned (.tuple #[.agg #[.int .i64 3, .int .i64 y, .int .i64 r], .int .i64 0]) ∧ Below w.heap.size w w') ∧
          (∀ w, FTab w → Calls Tryd.prog 25 #[.agg #[.string c.nm, .int .i64 c.k, .int .i64 c.d, .int .i64 c.m, .int .i64 c.s, .int .i64 c.sh, .int .i64 c.p0, .int .i64 c.p1, .int .i64 c.p2, .int .i64 c.cy, .int .i64 c.ex, .int .i64 c.fi, .int .i64 c.la, .int .i64 c.po], .int .i64 p] w fun e w' => e = .returned (.tuple #[.int .i64 r, .int .i64 0]) ∧ Below w.heap.size w w')) := by
        by_cases h1 : p < 1
        · exact .inl (decide_eq_true h1)
        · by_cases h2 : (n : Int) < p
          · exact .inr (.inl ⟨decide_eq_false h1, decide_eq_true h2⟩)
          · refine .inr (.inr ⟨decide_eq_false h1, decide_eq_false h2, quar (per c) p, fun w T => ?_, fun w T => ?_⟩)
            · exact Up_any c 4 y p 3 3 y (quar (per c) p) 0 w (.inl ⟨⟨ok, ⟨by omega, by omega⟩, s, by omega, by rw [uc.2.2.2.1]; omega⟩, by omega, by omega, quar_in ok.1 y0 y1 (by omega) (by omega), rfl, rfl, rfl⟩) hm T
            · exact Quarter_any c p (quar (per c) p) 0 w (.inl ⟨ok, by omega, by omega, rfl, rfl⟩) hm T
      have XH := Lib.hid X
      obtain ⟨m0, m1⟩ : 0 ≤ m ∧ m ≤ 100 := by omega
      obtain ⟨n0, n1⟩ : 1 ≤ n ∧ n ≤ 52 := by omega
      clear X ok s st y0 y1 uc pe nb hm' hn np hm
      go_enter Tryd.func15, Tryd.ntmps15
      go_upto_region 1 with fail
      generalize w.alloc (.cells #[.string c.nm, .int .i64 c.k, .int .i64 c.d, .int .i64 c.m, .int .i64 c.s, .int .i64 c.sh, .int .i64 c.p0, .int .i64 c.p1, .int .i64 c.p2, .int .i64 c.cy, .int .i64 c.ex, .int .i64 c.fi, .int .i64 c.la, .int .i64 c.po] 24) = W0 at *
      obtain ⟨_, c0, c1, c2, c3, c4, c5, c6, c7, c8, c9, c10, c11, c12, c13⟩ := id C
      go_wp2_with fail
      refine (ilive_ok _ T).mono ?_
      rintro e w2 ⟨rfl, hb⟩
      replace C := C.kept hb
      replace B := bthen B hb
      replace T := T.kept hb
      clear hb c0 c1 c2 c3 c4 c5 c6 c7 c8 c9 c10 c11 c12 c13
      obtain ⟨_, c0, c1, c2, c3, c4, c5, c6, c7, c8, c9, c10, c11, c12, c13⟩ := id C
      go_wp2_with fail
      refine (cx1 _ T).mono ?_
      rintro e w3 ⟨rfl, hb⟩
      replace C := C.kept hb
      replace B := bthen B hb
      replace T := T.kept hb
      clear hb c0 c1 c2 c3 c4 c5 c6 c7 c8 c9 c10 c11 c12 c13
      obtain ⟨_, c0, c1, c2, c3, c4, c5, c6, c7, c8, c9, c10, c11, c12, c13⟩ := id C
      go_wp2_with fail
      refine (cx2 _ T).mono ?_
      rintro e w4 ⟨rfl, hb⟩
      replace C := C.kept hb
      replace B := bthen B hb
      replace T := T.kept hb
      clear hb c0 c1 c2 c3 c4 c5 c6 c7 c8 c9 c10 c11 c12 c13
      obtain ⟨_, c0, c1, c2, c3, c4, c5, c6, c7, c8, c9, c10, c11, c12, c13⟩ := id C
      go_wp2_with fail
      refine (cx3 _ T).mono ?_
      rintro e w5 ⟨rfl, hb⟩
      replace C := C.kept hb
      replace B := bthen B hb
      replace T := T.kept hb
      clear hb c0 c1 c2 c3 c4 c5 c6 c7 c8 c9 c10 c11 c12 c13
      obtain ⟨_, c0, c1, c2, c3, c4, c5, c6, c7, c8, c9, c10, c11, c12, c13⟩ := id C
      go_wp2_with fail
      refine (cx4 _ T).mono ?_
      rintro e w6 ⟨rfl, hb⟩
      replace C := C.kept hb
      replace B := bthen B hb
      replace T := T.kept hb
      clear hb c0 c1 c2 c3 c4 c5 c6 c7 c8 c9 c10 c11 c12 c13
      obtain ⟨_, c0, c1, c2, c3, c4, c5, c6, c7, c8, c9, c10, c11, c12, c13⟩ := id C
      go_wp2_with fail
      refine (cx5 _ T).mono ?_
      rintro e w7 ⟨rfl, hb⟩
      replace C := C.kept hb
      replace B := bthen B hb
      replace T := T.kept hb
      clear hb c0 c1 c2 c3 c4 c5 c6 c7 c8 c9 c10 c11 c12 c13
      obtain ⟨_, c0, c1, c2, c3, c4, c5, c6, c7, c8, c9, c10, c11, c12, c13⟩ := id C
      go_wp2_with fail
      refine (cx6 _ T).mono ?_
      rintro e w8 ⟨rfl, hb⟩
      replace C := C.kept hb
      replace B := bthen B hb
      replace T := T.kept hb
      clear hb c0 c1 c2 c3 c4 c5 c6 c7 c8 c9 c10 c11 c12 c13
      obtain ⟨_, c0, c1, c2, c3, c4, c5, c6, c7, c8, c9, c10, c11, c12, c13⟩ := id C
      go_wp2_with fail
      refine (cx7 _ T).mono ?_
      rintro e w9 ⟨gR, capR, rfl, R, hgR, hb⟩
      replace C := C.kept hb
      replace B := bthen B hb
      replace T := T.kept hb
      clear hb hgR c0 c1 c2 c3 c4 c5 c6 c7 c8 c9 c10 c11 c12 c13
      obtain ⟨_, c0, c1, c2, c3, c4, c5, c6, c7, c8, c9, c10, c11, c12, c13⟩ := id C
      clear cx1 cx2 cx3 cx4 cx5 cx6 cx7
      generalize hWL : w9 = WL at *
      clear hWL
      go_wp2
      go_loopw [21, 111] (fun Z X wr => ∃ k : Nat, k ≤ n ∧ X = .int .i64 (k : Int) ∧ (∃ s : Int, Z = .int .i64 s ∧ Hid (s = wsum c y k)) ∧ Below WL.heap.size WL wr) (fun _ X _ => (64 - intOf X).toNat)
      case atStart => exact ⟨0, by omega, rfl, ⟨0, rfl, Lib.hid rfl⟩, Below.refl _ _⟩
      case round =>
        clear c0 c1 c2 c3 c4 c5 c6 c7 c8 c9 c10 c11 c12 c13 
        obtain ⟨k, hk, rfl, ⟨s, rfl, hs⟩, B2⟩ := hrel
        replace R := R.kept B2
        replace C := C.kept B2
        replace T := T.kept B2
        replace B := bthen B B2
        by_cases hlt : k < n
        · obtain ⟨d, s', e1, e2, e3, s0, s1, d0, d1⟩ := FA.out k hlt
          obtain rfl : s = s' := hs.out.trans e2.symm
          have rc := R.c k hlt
          rw [← e1] at rc
          have pp : (0 : Int) ≤ (k : Int) := by omega
          have bp : (k : Int) < (n : Int) := by omega
          have E3 := Lib.hid e3
          clear e1 e2 e3 hs R
          go_wp2
          go_roundw
          case rel => exact ⟨k + 1, by omega, by go_num, ⟨_, rfl, E3⟩, B2⟩
          case measure => simp [intOf]; omega
        · obtain rfl : k = n := by omega
          obtain rfl : s = m := hs.out.trans V.out.symm
          clear hs V FA R
          rcases XH.out with h1 | ⟨h1, h2⟩ | ⟨h1, h2, r, cu, cq⟩
          · go_wp2
            go_ret
            exact ⟨by simp, B⟩
          · go_wp2
            go_ret
            exact ⟨by simp, B⟩
          · obtain ⟨_, c0, c1, c2, c3, c4, c5, c6, c7, c8, c9, c10, c11, c12, c13⟩ := id C
            go_wp2_with fail
            refine (cu _ T).mono ?_
            rintro e w21 ⟨rfl, hb⟩
            have N := Go.Proofs.YtidemknapbkeiaaDoor.Bx.Tri.new w21 (.int .i64 3) (.int .i64 y) (.int .i64 r) 49
            replace C := (C.kept hb).alloc (.cells #[.int .i64 3, .int .i64 y, .int .i64 r] 49)
            replace T := (T.kept hb).alloc (.cells #[.int .i64 3, .int .i64 y, .int .i64 r] 49)
            replace B := balloc (bthen B hb) (.cells #[.int .i64 3, .int .i64 y, .int .i64 r] 49)
            clear hb cu
            clear c0 c1 c2 c3 c4 c5 c6 c7 c8 c9 c10 c11 c12 c13 
            obtain ⟨_, c0, c1, c2, c3, c4, c5, c6, c7, c8, c9, c10, c11, c12, c13⟩ := id C
            go_wp2_with fail
            refine (cq _ T).mono ?_
            rintro e w22 ⟨rfl, hb⟩
            replace N := N.kept hb
            replace B := bthen B hb
            clear hb cq
            clear c0 c1 c2 c3 c4 c5 c6 c7 c8 c9 c10 c11 c12 c13 
            obtain ⟨_, n00, n01, n02, fn0, fn1, fn2⟩ := id N
            go_wp2
            go_ret
            exact ⟨by simp, B⟩
    · have cx1 := fun w T => Count_any c 1 y 0 11 w (.inr (.inl ⟨ok, ⟨by omega, by omega⟩, s, rfl, rfl⟩)) hm T
      have ck := fun w T => Check_any c 0 w (.inl ⟨ok, rfl⟩) hm T
      clear ok s
      go_enter Tryd.func15, Tryd.ntmps15
      go_upto_region 1 with fail
      generalize w.alloc (.cells #[.string c.nm, .int .i64 c.k, .int .i64 c.d, .int .i64 c.m, .int .i64 c.s, .int .i64 c.sh, .int .i64 c.p0, .int .i64 c.p1, .int .i64 c.p2, .int .i64 c.cy, .int .i64 c.ex, .int .i64 c.fi, .int .i64 c.la, .int .i64 c.po] 24) = W0 at *
      obtain ⟨_, c0, c1, c2, c3, c4, c5, c6, c7, c8, c9, c10, c11, c12, c13⟩ := id C
      go_wp2_with fail
      refine (ilive_ok _ T).mono ?_
      rintro e w10 ⟨rfl, hb⟩
      replace C := C.kept hb
      replace B := bthen B hb
      replace T := T.kept hb
      clear hb c0 c1 c2 c3 c4 c5 c6 c7 c8 c9 c10 c11 c12 c13
      obtain ⟨_, c0, c1, c2, c3, c4, c5, c6, c7, c8, c9, c10, c11, c12, c13⟩ := id C
      go_wp2_with fail
      refine (cx1 _ T).mono ?_
      rintro e w11 ⟨rfl, hb⟩
      replace C := C.kept hb
      replace B := bthen B hb
      replace T := T.kept hb
      clear hb c0 c1 c2 c3 c4 c5 c6 c7 c8 c9 c10 c11 c12 c13
      obtain ⟨_, c0, c1, c2, c3, c4, c5, c6, c7, c8, c9, c10, c11, c12, c13⟩ := id C
      go_wp2_with fail
      refine (ck _ T).mono ?_
      rintro e w12 ⟨rfl, hb⟩
      replace C := C.kept hb
      replace B := bthen B hb
      replace T := T.kept hb
      clear hb c0 c1 c2 c3 c4 c5 c6 c7 c8 c9 c10 c11 c12 c13
      obtain ⟨_, c0, c1, c2, c3, c4, c5, c6, c7, c8, c9, c10, c11, c12, c13⟩ := id C
      go_wp2
      go_ret
      exact ⟨by simp <;> omega, B⟩
  · have cx1 := fun w T => Count_any c 1 y 0 1 w (.inr (.inr (.inr ⟨ok, rfl, rfl⟩))) hm T
    have ck := fun w T => Check_any c 1 w (.inr ⟨ok, rfl⟩) hm T
    clear ok
    go_enter Tryd.func15, Tryd.ntmps15
    go_upto_region 1 with fail
    generalize w.alloc (.cells #[.string c.nm, .int .i64 c.k, .int .i64 c.d, .int .i64 c.m, .int .i64 c.s, .int .i64 c.sh, .int .i64 c.p0, .int .i64 c.p1, .int .i64 c.p2, .int .i64 c.cy, .int .i64 c.ex, .int .i64 c.fi, .int .i64 c.la, .int .i64 c.po] 24) = W0 at *
    obtain ⟨_, c0, c1, c2, c3, c4, c5, c6, c7, c8, c9, c10, c11, c12, c13⟩ := id C
    go_wp2_with fail
    refine (ilive_ok _ T).mono ?_
    rintro e w13 ⟨rfl, hb⟩
    replace C := C.kept hb
    replace B := bthen B hb
    replace T := T.kept hb
    clear hb c0 c1 c2 c3 c4 c5 c6 c7 c8 c9 c10 c11 c12 c13
    obtain ⟨_, c0, c1, c2, c3, c4, c5, c6, c7, c8, c9, c10, c11, c12, c13⟩ := id C
    go_wp2_with fail
    refine (cx1 _ T).mono ?_
    rintro e w14 ⟨rfl, hb⟩
    replace C := C.kept hb
    replace B := bthen B hb
    replace T := T.kept hb
    clear hb c0 c1 c2 c3 c4 c5 c6 c7 c8 c9 c10 c11 c12 c13
    obtain ⟨_, c0, c1, c2, c3, c4, c5, c6, c7, c8, c9, c10, c11, c12, c13⟩ := id C
    go_wp2_with fail
    refine (ck _ T).mono ?_
    rintro e w15 ⟨rfl, hb⟩
    replace C := C.kept hb
    replace B := bthen B hb
    replace T := T.kept hb
    clear hb c0 c1 c2 c3 c4 c5 c6 c7 c8 c9 c10 c11 c12 c13
    obtain ⟨_, c0, c1, c2, c3, c4, c5, c6, c7, c8, c9, c10, c11, c12, c13⟩ := id C
    go_wp2
    go_ret
    exact ⟨by simp <;> omega, B⟩

end Go.Proofs.YtidemknapbkeiaaDoor.Il
