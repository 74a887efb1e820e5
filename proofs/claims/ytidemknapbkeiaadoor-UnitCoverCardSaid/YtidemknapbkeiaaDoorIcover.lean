/- UnitCover's walk. -/
import Derived.Test.YtidemknapbkeiaaDoorIlive
namespace Go.Proofs.YtidemknapbkeiaaDoor.Il
set_option linter.unusedSimpArgs false
set_option linter.unusedVariables false
open Go.RowKit Go.Proofs.YtidemknapbkeiaaDoor.Bn Go.Proofs.YtidemknapbkeiaaDoor.Bx Go.Proofs.YtidemknapbkeiaaDoor.Cp Go.Proofs.YtidemknapbkeiaaDoor.Am Go.Proofs.YtidemknapbkeiaaDoor.Fp Go.Proofs.YtidemknapbkeiaaDoor.Ap Go.Proofs.YtidemknapbkeiaaDoor.Cm Go.Proofs.YtidemknapbkeiaaDoor.Em Go.Proofs.YtidemknapbkeiaaDoor.Ep Go.Proofs.YtidemknapbkeiaaDoor.Rk Go.Proofs.YtidemknapbkeiaaDoor.Hp Go.Proofs.YtidemknapbkeiaaDoor.Ip

set_option maxHeartbeats 8000000

set_option maxRecDepth 100000 in
theorem cover_walk (c : CalZ) (L y : Int) (w : World) (wf : CalWf c) (wL : (Lit.int .i64 L).wf = true) (wy : (Lit.int .i64 y).wf = true) (tb : FTab w) :
    Calls Tryd.prog 11 #[.agg #[.string c.nm, .int .i64 c.k, .int .i64 c.d, .int .i64 c.m, .int .i64 c.s, .int .i64 c.sh, .int .i64 c.p0, .int .i64 c.p1, .int .i64 c.p2, .int .i64 c.cy, .int .i64 c.ex, .int .i64 c.fi, .int .i64 c.la, .int .i64 c.po], .int .i64 L, .int .i64 y] w fun e w' => e = .returned (.bool true) ∧ Below w.heap.size w w' := by
  have T := tb
  have C := CalIn.new w c 24
  have B := balloc (Below.refl _ w) (.cells #[.string c.nm, .int .i64 c.k, .int .i64 c.d, .int .i64 c.m, .int .i64 c.s, .int .i64 c.sh, .int .i64 c.p0, .int .i64 c.p1, .int .i64 c.p2, .int .i64 c.cy, .int .i64 c.ex, .int .i64 c.fi, .int .i64 c.la, .int .i64 c.po] 24)
  replace T := T.alloc (.cells #[.string c.nm, .int .i64 c.k, .int .i64 c.d, .int .i64 c.m, .int .i64 c.s, .int .i64 c.sh, .int .i64 c.p0, .int .i64 c.p1, .int .i64 c.p2, .int .i64 c.cy, .int .i64 c.ex, .int .i64 c.fi, .int .i64 c.la, .int .i64 c.po] 24)
  have hm := wf.1
  by_cases hl : 100 < c.nm.size
  · have dl : decide ((100 : Int) < (c.nm.size : Int)) = true := decide_eq_true (by omega)
    clear hl
    go_enter Tryd.func11, Tryd.ntmps11
    go_upto_region 1 with fail
    generalize w.alloc (.cells #[.string c.nm, .int .i64 c.k, .int .i64 c.d, .int .i64 c.m, .int .i64 c.s, .int .i64 c.sh, .int .i64 c.p0, .int .i64 c.p1, .int .i64 c.p2, .int .i64 c.cy, .int .i64 c.ex, .int .i64 c.fi, .int .i64 c.la, .int .i64 c.po] 24) = W0 at *
    obtain ⟨_, c0, c1, c2, c3, c4, c5, c6, c7, c8, c9, c10, c11, c12, c13⟩ := id C
    go_wp2_with fail
    refine (ilive_ok _ T).mono ?_
    rintro e w1 ⟨rfl, hb⟩
    replace C := C.kept hb
    replace B := bthen B hb
    replace T := T.kept hb
    clear hb c0 c1 c2 c3 c4 c5 c6 c7 c8 c9 c10 c11 c12 c13
    obtain ⟨_, c0, c1, c2, c3, c4, c5, c6, c7, c8, c9, c10, c11, c12, c13⟩ := id C
    go_wp2
    go_ret
    exact ⟨by simp <;> omega, B⟩
  have dl : decide ((100 : Int) < (c.nm.size : Int)) = false := decide_eq_false (by omega)
  clear hl
  obtain ⟨v, er, R⟩ := counta_ex c L y
  by_cases e0 : er = 0
  · have R' : CalOk c ∧ LevOk L ∧ Served c y ∧ v = ucount c y L := by
      rcases R with ⟨a, b, d, e, _⟩ | ⟨_, _, _, _, h⟩ | ⟨_, _, _, h⟩ | ⟨_, _, h⟩
      · exact ⟨a, b, d, e⟩
      all_goals omega
    obtain ⟨ok, l, s, hv⟩ := R'
    subst e0
    have st := served_told ok s
    have y0 : 1601 ≤ y := by omega
    have y1 : y ≤ 9997 := by omega
    have ub := ucount_bd (L := L) ok.1 y0 y1
    obtain ⟨n, hn⟩ : ∃ n : Nat, (n : Int) = v := ⟨v.toNat, by omega⟩
    have cc := fun w T => Count_any c L y (n : Int) 0 w (by rw [hn]; exact R) hm T
    obtain ⟨a, ha⟩ : ∃ a, a = pend c y 0 + 1 := ⟨_, rfl⟩
    obtain ⟨b, hb'⟩ : ∃ b, b = pend c y (per c) := ⟨_, rfl⟩
    have cs := fun w T => Start_any c y a 0 w (.inl ⟨ok, y0, y1, by rw [ha, pend_zero], rfl⟩) hm T
    have ce := fun w T => End_any c y b 0 w (.inl ⟨ok, by omega, y1, by rw [hb', pend_last ok.1 y0 y1], rfl⟩) hm T
    have n60 : n ≤ 60 := by omega
    have n1 : 1 ≤ n := by omega
    have pb := per_bd ok.1
    have b0 := pend_bd ok.1 y0 y1 (p := per c) (by omega) (by omega)
    obtain ⟨b0, b1⟩ : 0 ≤ b ∧ b ≤ 3068036 := by omega
    have A0 : Hid (a = uend c y L (0 : Nat) + 1) := Lib.hid (by rw [ha, show ((0 : Nat) : Int) = 0 from rfl, uend_zero ok.1 y0 y1 l])
    have BN : Hid (uend c y L n = b) := Lib.hid (by rw [hn, hv, uend_last ok.1 y0 y1 l, hb'])
    have FA : Hid (∀ k : Nat, k < n → ∃ f t : Int, f = uend c y L k + 1 ∧ t = uend c y L ((k + 1 : Nat) : Int) ∧ f ≤ t ∧ 0 ≤ f ∧ t ≤ 3068036 ∧ ∀ w, FTab w → Calls Tryd.prog 36 #[.agg #[.string c.nm, .int .i64 c.k, .int .i64 c.d, .int .i64 c.m, .int .i64 c.s, .int .i64 c.sh, .int .i64 c.p0, .int .i64 c.p1, .int .i64 c.p2, .int .i64 c.cy, .int .i64 c.ex, .int .i64 c.fi, .int .i64 c.la, .int .i64 c.po], .agg #[.int .i64 L, .int .i64 y, .int .i64 ((k : Int) + 1)]] w fun e w' => e = .returned (.tuple #[.agg #[.int .i64 f, .int .i64 t], .int .i64 0]) ∧ Below w.heap.size w w') :=
      Lib.hid (fun k hk => by
        have s0 := uend_bd (y := y) (i := (k : Int)) ok.1 y0 y1 l (by omega) (by omega)
        have s1 := uend_bd (y := y) (i := (k : Int) + 1) ok.1 y0 y1 l (by omega) (by omega)
        have st := uend_step (y := y) (i := (k : Int)) ok.1 y0 y1 l (by omega) (by omega)
        refine ⟨_, _, rfl, rfl, by rw [show ((k + 1 : Nat) : Int) = (k : Int) + 1 by omega]; omega, by omega, by rw [show ((k + 1 : Nat) : Int) = (k : Int) + 1 by omega]; omega, fun w T => ?_⟩
        exact Span_any c L y ((k : Int) + 1) _ _ 0 w (.inl ⟨⟨ok, l, s, by omega, by omega⟩, by rw [show (k : Int) + 1 - 1 = k by omega], by rw [show ((k + 1 : Nat) : Int) = (k : Int) + 1 by omega], rfl⟩) hm T)
    clear ok l s hv R st y0 y1 ub hn ha hb' pb hm
    go_enter Tryd.func11, Tryd.ntmps11
    go_upto_region 1 with fail
    generalize w.alloc (.cells #[.string c.nm, .int .i64 c.k, .int .i64 c.d, .int .i64 c.m, .int .i64 c.s, .int .i64 c.sh, .int .i64 c.p0, .int .i64 c.p1, .int .i64 c.p2, .int .i64 c.cy, .int .i64 c.ex, .int .i64 c.fi, .int .i64 c.la, .int .i64 c.po] 24) = W0 at *
    obtain ⟨_, c0, c1, c2, c3, c4, c5, c6, c7, c8, c9, c10, c11, c12, c13⟩ := id C
    go_wp2_with fail
    refine (ilive_ok _ T).mono ?_
    rintro e w2 ⟨rfl, hb⟩
    replace C := C.kept hb
    replace B := bthen B hb
    replace T := T.kept hb
    clear hb c0 c1 c2 c3 c4 c5 c6 c7 c8 c9 c10 c11 c12 c13
    obtain ⟨_, c0, c1, c2, c3, c4, c5, c6, c7, c8, c9, c10, c11, c12, c13⟩ := id C
    go_wp2_with fail
    refine (cc _ T).mono ?_
    rintro e w3 ⟨rfl, hb⟩
    replace C := C.kept hb
    replace B := bthen B hb
    replace T := T.kept hb
    clear hb c0 c1 c2 c3 c4 c5 c6 c7 c8 c9 c10 c11 c12 c13
    obtain ⟨_, c0, c1, c2, c3, c4, c5, c6, c7, c8, c9, c10, c11, c12, c13⟩ := id C
    go_wp2_with fail
    refine (cs _ T).mono ?_
    rintro e w4 ⟨rfl, hb⟩
    replace C := C.kept hb
    replace B := bthen B hb
    replace T := T.kept hb
    clear hb c0 c1 c2 c3 c4 c5 c6 c7 c8 c9 c10 c11 c12 c13
    obtain ⟨_, c0, c1, c2, c3, c4, c5, c6, c7, c8, c9, c10, c11, c12, c13⟩ := id C
    go_wp2_with fail
    refine (ce _ T).mono ?_
    rintro e w5 ⟨rfl, hb⟩
    replace C := C.kept hb
    replace B := bthen B hb
    replace T := T.kept hb
    clear hb c0 c1 c2 c3 c4 c5 c6 c7 c8 c9 c10 c11 c12 c13
    obtain ⟨_, c0, c1, c2, c3, c4, c5, c6, c7, c8, c9, c10, c11, c12, c13⟩ := id C
    clear cc cs ce
    go_wp2
    go_loopw [9, 13] (fun Z X wr => ∃ k : Nat, k ≤ n ∧ X = .int .i64 ((k : Int) + 1) ∧ (∃ f : Int, Z = .int .i64 f ∧ Hid (f = uend c y L k + 1)) ∧ Below w5.heap.size w5 wr) (fun _ X _ => (64 - intOf X).toNat)
    case atStart => exact ⟨0, by omega, rfl, ⟨a, rfl, A0⟩, Below.refl _ _⟩
    case round =>
      clear c0 c1 c2 c3 c4 c5 c6 c7 c8 c9 c10 c11 c12 c13 
      obtain ⟨k, hk, rfl, ⟨f, rfl, hf⟩, B2⟩ := hrel
      replace C := C.kept B2
      replace T := T.kept B2
      replace B := bthen B B2
      by_cases hlt : k < n
      · obtain ⟨f', t, e1, e2, ft, f0, t1, cx⟩ := FA.out k hlt
        obtain rfl : f = f' := hf.out.trans e1.symm
        have E2 : Hid (t + 1 = uend c y L ((k + 1 : Nat) : Int) + 1) := Lib.hid (by rw [e2])
        have nft : decide (t < f) = false := decide_eq_false (by omega)
        clear e1 e2 hf
        obtain ⟨_, c0, c1, c2, c3, c4, c5, c6, c7, c8, c9, c10, c11, c12, c13⟩ := id C
        go_wp2_with fail
        refine (cx _ T).mono ?_
        rintro e w8 ⟨rfl, hb⟩
        have B3 := balloc (bthen B2 hb) (.cells #[.int .i64 f, .int .i64 t] 45)
        clear hb cx
        clear c0 c1 c2 c3 c4 c5 c6 c7 c8 c9 c10 c11 c12 c13 
        go_wp2
        go_roundw
        case rel => exact ⟨k + 1, by omega, by go_num, ⟨_, rfl, E2⟩, B3⟩
        case measure => simp [intOf]; omega
      · obtain rfl : k = n := by omega
        obtain rfl : f = b + 1 := by rw [hf.out, BN.out]
        clear hf
        go_wp2
        go_ret
        exact ⟨by simp, B⟩
  · have O := counta_er R
    have O2 : v = 0 ∧ (er = 1 ∨ er = 11) := by omega
    have cc := fun w T => Count_any c L y v er w R hm T
    clear R O
    obtain ⟨rfl, rfl | rfl⟩ := O2
    all_goals
      go_enter Tryd.func11, Tryd.ntmps11
      go_upto_region 1 with fail
      generalize w.alloc (.cells #[.string c.nm, .int .i64 c.k, .int .i64 c.d, .int .i64 c.m, .int .i64 c.s, .int .i64 c.sh, .int .i64 c.p0, .int .i64 c.p1, .int .i64 c.p2, .int .i64 c.cy, .int .i64 c.ex, .int .i64 c.fi, .int .i64 c.la, .int .i64 c.po] 24) = W0 at *
      obtain ⟨_, c0, c1, c2, c3, c4, c5, c6, c7, c8, c9, c10, c11, c12, c13⟩ := id C
      go_wp2_with fail
      refine (ilive_ok _ T).mono ?_
      rintro e w6 ⟨rfl, hb⟩
      replace C := C.kept hb
      replace B := bthen B hb
      replace T := T.kept hb
      clear hb c0 c1 c2 c3 c4 c5 c6 c7 c8 c9 c10 c11 c12 c13
      obtain ⟨_, c0, c1, c2, c3, c4, c5, c6, c7, c8, c9, c10, c11, c12, c13⟩ := id C
      go_wp2_with fail
      refine (cc _ T).mono ?_
      rintro e w7 ⟨rfl, hb⟩
      replace C := C.kept hb
      replace B := bthen B hb
      replace T := T.kept hb
      clear hb c0 c1 c2 c3 c4 c5 c6 c7 c8 c9 c10 c11 c12 c13
      obtain ⟨_, c0, c1, c2, c3, c4, c5, c6, c7, c8, c9, c10, c11, c12, c13⟩ := id C
      go_wp2
      go_ret
      exact ⟨by simp <;> omega, B⟩

end Go.Proofs.YtidemknapbkeiaaDoor.Il
