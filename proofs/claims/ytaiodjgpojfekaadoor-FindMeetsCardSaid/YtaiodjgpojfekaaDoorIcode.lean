/- A fiscal year in memory, and what byMonths, year, weeks, count and periodsTo of package unit come to. -/
import Derived.Test.YtaiodjgpojfekaaDoorHcode6
import Derived.Test.YtaiodjgpojfekaaDoorJP
import Derived.Test.YtaiodjgpojfekaaDoorIsearch
import Derived.Test.YtaiodjgpojfekaaDoorJK
namespace Go.Proofs.YtaiodjgpojfekaaDoor.Ip
set_option linter.unusedSimpArgs false
set_option linter.unusedVariables false
open Go.RowKit Go.Proofs.YtaiodjgpojfekaaDoor.Bn Go.Proofs.YtaiodjgpojfekaaDoor.Bx Go.Proofs.YtaiodjgpojfekaaDoor.Cp Go.Proofs.YtaiodjgpojfekaaDoor.Am Go.Proofs.YtaiodjgpojfekaaDoor.Fp Go.Proofs.YtaiodjgpojfekaaDoor.Ap Go.Proofs.YtaiodjgpojfekaaDoor.Cm Go.Proofs.YtaiodjgpojfekaaDoor.Em Go.Proofs.YtaiodjgpojfekaaDoor.Ep Go.Proofs.YtaiodjgpojfekaaDoor.Rk Go.Proofs.YtaiodjgpojfekaaDoor.Hp

set_option maxHeartbeats 2000000

/-- block b holds the year y of the calendar c -/
structure FisIn (W : World) (b : Nat) (c : CalZ) (y : Int) : Prop where
  cal : CalIn W b c
  c14 : W.cell? ⟨b, 14, none⟩ = some (.int .i64 y)
theorem FisIn.kept {W w1 : World} {b : Nat} {c : CalZ} {y : Int} (p : FisIn W b c y) (hb : Below W.heap.size W w1) : FisIn w1 b c y := ⟨p.cal.kept hb, (hb.cell (p := ⟨b, 14, none⟩) p.cal.lt).trans p.c14⟩
theorem FisIn.alloc {W : World} {b : Nat} {c : CalZ} {y : Int} (p : FisIn W b c y) (o : Obj) : FisIn (W.alloc o) b c y := p.kept ((Below.refl _ _).alloc (Nat.le_refl _) o)
theorem FisIn.new (W : World) (c : CalZ) (y : Int) (t : TypeId) : FisIn (W.alloc (.cells #[.string c.nm, .int .i64 c.k, .int .i64 c.d, .int .i64 c.m, .int .i64 c.s, .int .i64 c.sh, .int .i64 c.p0, .int .i64 c.p1, .int .i64 c.p2, .int .i64 c.cy, .int .i64 c.ex, .int .i64 c.fi, .int .i64 c.la, .int .i64 c.po, .int .i64 y] t)) W.heap.size c y :=
  ⟨⟨by simp, by simp [go_sem], by simp [go_sem], by simp [go_sem], by simp [go_sem], by simp [go_sem], by simp [go_sem], by simp [go_sem], by simp [go_sem], by simp [go_sem], by simp [go_sem], by simp [go_sem], by simp [go_sem], by simp [go_sem], by simp [go_sem]⟩, by simp [go_sem]⟩

theorem sh5 {c : CalZ} (h : KindOk c) : (c.k = 6 → c.sh = 5 ∧ per c = 12) ∧ (c.k ≠ 6 → c.sh ≠ 5) := by
  rcases shape_cases h with h | h | ⟨_, _, h⟩
  · omega
  · omega
  · refine ⟨fun _ => by omega, fun _ => ?_⟩
    rcases cut_cases h with h | h | h | h | h <;> omega

set_option maxRecDepth 100000 in
theorem byMonths_any (c : CalZ) (y : Int) (r : Bool) (w : World) (hr : r = (c.sh == 5)) (T : FTab w) :
    Calls Tryd.prog 97 #[.agg #[.string c.nm, .int .i64 c.k, .int .i64 c.d, .int .i64 c.m, .int .i64 c.s, .int .i64 c.sh, .int .i64 c.p0, .int .i64 c.p1, .int .i64 c.p2, .int .i64 c.cy, .int .i64 c.ex, .int .i64 c.fi, .int .i64 c.la, .int .i64 c.po, .int .i64 y]] w fun e w' => e = .returned (.bool r) ∧ Below w.heap.size w w' := by
  have C := FisIn.new w c y 68
  have B := balloc (Below.refl _ w) (.cells #[.string c.nm, .int .i64 c.k, .int .i64 c.d, .int .i64 c.m, .int .i64 c.s, .int .i64 c.sh, .int .i64 c.p0, .int .i64 c.p1, .int .i64 c.p2, .int .i64 c.cy, .int .i64 c.ex, .int .i64 c.fi, .int .i64 c.la, .int .i64 c.po, .int .i64 y] 68)
  replace T := T.alloc (.cells #[.string c.nm, .int .i64 c.k, .int .i64 c.d, .int .i64 c.m, .int .i64 c.s, .int .i64 c.sh, .int .i64 c.p0, .int .i64 c.p1, .int .i64 c.p2, .int .i64 c.cy, .int .i64 c.ex, .int .i64 c.fi, .int .i64 c.la, .int .i64 c.po, .int .i64 y] 68)
  subst hr
  go_enter Tryd.func97, Tryd.ntmps97
  go_upto_region 1 with fail
  generalize w.alloc (.cells #[.string c.nm, .int .i64 c.k, .int .i64 c.d, .int .i64 c.m, .int .i64 c.s, .int .i64 c.sh, .int .i64 c.p0, .int .i64 c.p1, .int .i64 c.p2, .int .i64 c.cy, .int .i64 c.ex, .int .i64 c.fi, .int .i64 c.la, .int .i64 c.po, .int .i64 y] 68) = W0 at *
  obtain ⟨⟨_, c0, c1, c2, c3, c4, c5, c6, c7, c8, c9, c10, c11, c12, c13⟩, c14⟩ := id C
  go_wp2
  go_ret
  exact ⟨rfl, B⟩

set_option maxRecDepth 100000 in
theorem fyear_any (c : CalZ) (y n a b : Int) (w : World) (ok : CalOk c) (y0 : 1601 ≤ y) (y1 : y ≤ 9997) (ha : a = pend c y 0 + 1) (hb' : b = pend c y (per c)) (hm : c.nm.size ≤ maxLen) (T : FTab w) :
    Calls Tryd.prog 92 #[.agg #[.string c.nm, .int .i64 c.k, .int .i64 c.d, .int .i64 c.m, .int .i64 c.s, .int .i64 c.sh, .int .i64 c.p0, .int .i64 c.p1, .int .i64 c.p2, .int .i64 c.cy, .int .i64 c.ex, .int .i64 c.fi, .int .i64 c.la, .int .i64 c.po, .int .i64 y], .int .i64 n] w fun e w' => e = .returned (.agg #[.int .i64 a, .int .i64 b]) ∧ Below w.heap.size w w' := by
  have C := FisIn.new w c y 68
  have B := balloc (Below.refl _ w) (.cells #[.string c.nm, .int .i64 c.k, .int .i64 c.d, .int .i64 c.m, .int .i64 c.s, .int .i64 c.sh, .int .i64 c.p0, .int .i64 c.p1, .int .i64 c.p2, .int .i64 c.cy, .int .i64 c.ex, .int .i64 c.fi, .int .i64 c.la, .int .i64 c.po, .int .i64 y] 68)
  replace T := T.alloc (.cells #[.string c.nm, .int .i64 c.k, .int .i64 c.d, .int .i64 c.m, .int .i64 c.s, .int .i64 c.sh, .int .i64 c.p0, .int .i64 c.p1, .int .i64 c.p2, .int .i64 c.cy, .int .i64 c.ex, .int .i64 c.fi, .int .i64 c.la, .int .i64 c.po, .int .i64 y] 68)
  have cs := fun w T => Start_any c y a 0 w (.inl ⟨ok, y0, y1, by rw [ha, pend_zero], rfl⟩) hm T
  have ce := fun w T => End_any c y b 0 w (.inl ⟨ok, by omega, y1, by rw [hb', pend_last ok.1 y0 y1], rfl⟩) hm T
  clear ok ha hb'
  have K := Go.Proofs.YtaiodjgpojfekaaDoor.Pr.Two.new (w.alloc (.cells #[.string c.nm, .int .i64 c.k, .int .i64 c.d, .int .i64 c.m, .int .i64 c.s, .int .i64 c.sh, .int .i64 c.p0, .int .i64 c.p1, .int .i64 c.p2, .int .i64 c.cy, .int .i64 c.ex, .int .i64 c.fi, .int .i64 c.la, .int .i64 c.po, .int .i64 y] 68)) (.int .i64 0) (.int .i64 0) 40
  replace C := C.alloc (.cells #[.int .i64 0, .int .i64 0] 40)
  replace B := balloc B (.cells #[.int .i64 0, .int .i64 0] 40)
  replace T := T.alloc (.cells #[.int .i64 0, .int .i64 0] 40)
  have zz : ((w.alloc (.cells #[.string c.nm, .int .i64 c.k, .int .i64 c.d, .int .i64 c.m, .int .i64 c.s, .int .i64 c.sh, .int .i64 c.p0, .int .i64 c.p1, .int .i64 c.p2, .int .i64 c.cy, .int .i64 c.ex, .int .i64 c.fi, .int .i64 c.la, .int .i64 c.po, .int .i64 y] 68)).alloc (.cells #[.int .i64 0, .int .i64 0] 40)).heap.size = w.heap.size + 2 := by simp
  rw [World.size_alloc] at K
  go_enter Tryd.func92, Tryd.ntmps92
  go_upto_region 1 with fail
  generalize (w.alloc (.cells #[.string c.nm, .int .i64 c.k, .int .i64 c.d, .int .i64 c.m, .int .i64 c.s, .int .i64 c.sh, .int .i64 c.p0, .int .i64 c.p1, .int .i64 c.p2, .int .i64 c.cy, .int .i64 c.ex, .int .i64 c.fi, .int .i64 c.la, .int .i64 c.po, .int .i64 y] 68)).alloc (.cells #[.int .i64 0, .int .i64 0] 40) = W0 at *
  obtain ⟨⟨_, c0, c1, c2, c3, c4, c5, c6, c7, c8, c9, c10, c11, c12, c13⟩, c14⟩ := id C
  obtain ⟨_, r0, r1, g0, g1⟩ := id K
  go_wp2_with fail
  refine (cs _ T).mono ?_
  rintro e w1 ⟨rfl, hb⟩
  replace C := C.kept hb
  replace B := bthen B hb
  replace T := T.kept hb
  replace K := K.kept hb
  clear hb r0 r1 g0 g1 c0 c1 c2 c3 c4 c5 c6 c7 c8 c9 c10 c11 c12 c13 c14
  obtain ⟨⟨_, c0, c1, c2, c3, c4, c5, c6, c7, c8, c9, c10, c11, c12, c13⟩, c14⟩ := id C
  obtain ⟨_, r0, r1, g0, g1⟩ := id K
  go_wp2_with fail
  refine (ce _ T).mono ?_
  rintro e w2 ⟨rfl, hb⟩
  replace C := C.kept hb
  replace B := bthen B hb
  replace T := T.kept hb
  replace K := K.kept hb
  clear hb r0 r1 g0 g1 c0 c1 c2 c3 c4 c5 c6 c7 c8 c9 c10 c11 c12 c13 c14
  obtain ⟨⟨_, c0, c1, c2, c3, c4, c5, c6, c7, c8, c9, c10, c11, c12, c13⟩, c14⟩ := id C
  obtain ⟨_, r0, r1, g0, g1⟩ := id K
  go_wp2
  refine bodyPost_ret (v := .agg #[.int .i64 a, .int .i64 b]) (by simp [results, Tryd.results92, go_sem, *]) rfl ⟨rfl, ?_⟩
  exact bset (bset B (by omega) _ _) (by omega) _ _

set_option maxRecDepth 100000 in
theorem fweeks_any (c : CalZ) (y v : Int) (w : World) (ok : CalOk c) (y0 : 1601 ≤ y) (y1 : y ≤ 9997) (hv : v = nwk c y) (hm : c.nm.size ≤ maxLen) (T : FTab w) :
    Calls Tryd.prog 67 #[.agg #[.string c.nm, .int .i64 c.k, .int .i64 c.d, .int .i64 c.m, .int .i64 c.s, .int .i64 c.sh, .int .i64 c.p0, .int .i64 c.p1, .int .i64 c.p2, .int .i64 c.cy, .int .i64 c.ex, .int .i64 c.fi, .int .i64 c.la, .int .i64 c.po, .int .i64 y]] w fun e w' => e = .returned (.int .i64 v) ∧ Below w.heap.size w w' := by
  have C := FisIn.new w c y 68
  have B := balloc (Below.refl _ w) (.cells #[.string c.nm, .int .i64 c.k, .int .i64 c.d, .int .i64 c.m, .int .i64 c.s, .int .i64 c.sh, .int .i64 c.p0, .int .i64 c.p1, .int .i64 c.p2, .int .i64 c.cy, .int .i64 c.ex, .int .i64 c.fi, .int .i64 c.la, .int .i64 c.po, .int .i64 y] 68)
  replace T := T.alloc (.cells #[.string c.nm, .int .i64 c.k, .int .i64 c.d, .int .i64 c.m, .int .i64 c.s, .int .i64 c.sh, .int .i64 c.p0, .int .i64 c.p1, .int .i64 c.p2, .int .i64 c.cy, .int .i64 c.ex, .int .i64 c.fi, .int .i64 c.la, .int .i64 c.po, .int .i64 y] 68)
  by_cases k6 : c.k = 6
  · obtain ⟨s5, h12⟩ := (sh5 ok.1).1 k6
    have cb := fun w T => byMonths_any c y true w (by rw [s5]; rfl) T
    have cw := fun w T => Weeks_ok c y 12 w ok y0 y1 (by omega) hm T
    have e12 : perN c = 12 := by unfold perN; rw [h12]; rfl
    have V : Hid (v = wsum c y 12) := Lib.hid (by rw [hv]; unfold nwk; rw [e12])
    have FA : Hid (∀ k : Nat, k < 12 → ∃ d s : Int, d = fwk c y k ∧ s = wsum c y k ∧ s + d = wsum c y (k + 1) ∧ 0 ≤ s ∧ s ≤ 100 ∧ 1 ≤ d ∧ d ≤ 6) :=
      Lib.hid (fun k hk => by
        have wb := wks_bd ok.1 y0 y1 (p := (k : Int) + 1) (by omega) (by omega)
        have a := wsum_step ok.1 y0 y1 (a := 0) (b := k) (by omega) (by omega)
        have b := wsum_step ok.1 y0 y1 (a := k) (b := perN c) (by omega) (by omega)
        have n := nwk_bd ok.1 y0 y1
        unfold nwk at n
        rw [show wsum c y 0 = 0 from rfl] at a
        exact ⟨_, _, rfl, rfl, rfl, by omega, by omega, wb.1, wb.2.1⟩)
    clear ok k6 s5 h12 e12 hv
    go_enter Tryd.func67, Tryd.ntmps67
    go_upto_region 1 with fail
    generalize w.alloc (.cells #[.string c.nm, .int .i64 c.k, .int .i64 c.d, .int .i64 c.m, .int .i64 c.s, .int .i64 c.sh, .int .i64 c.p0, .int .i64 c.p1, .int .i64 c.p2, .int .i64 c.cy, .int .i64 c.ex, .int .i64 c.fi, .int .i64 c.la, .int .i64 c.po, .int .i64 y] 68) = W0 at *
    obtain ⟨⟨_, c0, c1, c2, c3, c4, c5, c6, c7, c8, c9, c10, c11, c12, c13⟩, c14⟩ := id C
    go_wp2_with fail
    refine (cb _ T).mono ?_
    rintro e w1 ⟨rfl, hb⟩
    replace C := C.kept hb
    replace B := bthen B hb
    replace T := T.kept hb
    clear hb c0 c1 c2 c3 c4 c5 c6 c7 c8 c9 c10 c11 c12 c13 c14
    obtain ⟨⟨_, c0, c1, c2, c3, c4, c5, c6, c7, c8, c9, c10, c11, c12, c13⟩, c14⟩ := id C
    go_wp2_with fail
    refine (cw _ T).mono ?_
    rintro e w2 ⟨gR, capR, rfl, R, hgR, hb⟩
    replace C := C.kept hb
    replace B := bthen B hb
    replace T := T.kept hb
    clear hb hgR c0 c1 c2 c3 c4 c5 c6 c7 c8 c9 c10 c11 c12 c13 c14
    obtain ⟨⟨_, c0, c1, c2, c3, c4, c5, c6, c7, c8, c9, c10, c11, c12, c13⟩, c14⟩ := id C
    clear cb cw c0 c1 c2 c3 c4 c5 c6 c7 c8 c9 c10 c11 c12 c13 c14
    go_wp2
    go_loopw [5, 32] (fun Z X wr => ∃ k : Nat, k ≤ 12 ∧ X = .int .i64 (k : Int) ∧ (∃ s : Int, Z = .int .i64 s ∧ Hid (s = wsum c y k)) ∧ Below w2.heap.size w2 wr) (fun _ X _ => (13 - intOf X).toNat)
    case atStart => exact ⟨0, by omega, rfl, ⟨0, rfl, Lib.hid rfl⟩, Below.refl _ _⟩
    case round =>
      obtain ⟨k, hk, rfl, ⟨s, rfl, hs⟩, B2⟩ := hrel
      replace R := R.kept B2
      by_cases hlt : k < 12
      · obtain ⟨d, s', e1, e2, e3, s0, s1, d0, d1⟩ := FA.out k hlt
        obtain rfl : s = s' := hs.out.trans e2.symm
        have rc := R.c k hlt
        rw [← e1] at rc
        have pp : (0 : Int) ≤ (k : Int) := by omega
        have bp : (k : Int) < 12 := by omega
        have E3 := Lib.hid e3
        clear e1 e2 e3 hs R
        go_wp2
        go_roundw
        case rel => exact ⟨k + 1, by omega, by go_num, ⟨_, rfl, E3⟩, B2⟩
        case measure => simp [intOf]; omega
      · obtain rfl : k = 12 := by omega
        have es : s = v := hs.out.trans V.out.symm
        subst es
        clear hs
        go_wp2
        go_ret
        exact ⟨rfl, bthen B B2⟩
  · have n5 := (sh5 ok.1).2 k6
    have cb := fun w T => byMonths_any c y false w (beq_eq_false_iff_ne.2 n5).symm T
    have cw := fun w T => Weeks_any c y v 0 w (.inl ⟨ok, k6, y0, y1, by rw [hv, nwk_weeks ok.1 k6 y0 y1]; rfl, rfl⟩) hm T
    clear ok k6 n5 hv
    go_enter Tryd.func67, Tryd.ntmps67
    go_upto_region 1 with fail
    generalize w.alloc (.cells #[.string c.nm, .int .i64 c.k, .int .i64 c.d, .int .i64 c.m, .int .i64 c.s, .int .i64 c.sh, .int .i64 c.p0, .int .i64 c.p1, .int .i64 c.p2, .int .i64 c.cy, .int .i64 c.ex, .int .i64 c.fi, .int .i64 c.la, .int .i64 c.po, .int .i64 y] 68) = W0 at *
    obtain ⟨⟨_, c0, c1, c2, c3, c4, c5, c6, c7, c8, c9, c10, c11, c12, c13⟩, c14⟩ := id C
    go_wp2_with fail
    refine (cb _ T).mono ?_
    rintro e w3 ⟨rfl, hb⟩
    replace C := C.kept hb
    replace B := bthen B hb
    replace T := T.kept hb
    clear hb c0 c1 c2 c3 c4 c5 c6 c7 c8 c9 c10 c11 c12 c13 c14
    obtain ⟨⟨_, c0, c1, c2, c3, c4, c5, c6, c7, c8, c9, c10, c11, c12, c13⟩, c14⟩ := id C
    go_wp2_with fail
    refine (cw _ T).mono ?_
    rintro e w4 ⟨rfl, hb⟩
    replace C := C.kept hb
    replace B := bthen B hb
    replace T := T.kept hb
    clear hb c0 c1 c2 c3 c4 c5 c6 c7 c8 c9 c10 c11 c12 c13 c14
    obtain ⟨⟨_, c0, c1, c2, c3, c4, c5, c6, c7, c8, c9, c10, c11, c12, c13⟩, c14⟩ := id C
    go_wp2
    go_ret
    exact ⟨rfl, B⟩

set_option maxRecDepth 100000 in
theorem fcount_any (c : CalZ) (y L v : Int) (w : World) (ok : CalOk c) (y0 : 1601 ≤ y) (y1 : y ≤ 9997) (hL : LevOk L) (hv : v = ucount c y L) (hm : c.nm.size ≤ maxLen) (T : FTab w) :
    Calls Tryd.prog 35 #[.agg #[.string c.nm, .int .i64 c.k, .int .i64 c.d, .int .i64 c.m, .int .i64 c.s, .int .i64 c.sh, .int .i64 c.p0, .int .i64 c.p1, .int .i64 c.p2, .int .i64 c.cy, .int .i64 c.ex, .int .i64 c.fi, .int .i64 c.la, .int .i64 c.po, .int .i64 y], .int .i64 L] w fun e w' => e = .returned (.int .i64 v) ∧ Below w.heap.size w w' := by
  have C := FisIn.new w c y 68
  have B := balloc (Below.refl _ w) (.cells #[.string c.nm, .int .i64 c.k, .int .i64 c.d, .int .i64 c.m, .int .i64 c.s, .int .i64 c.sh, .int .i64 c.p0, .int .i64 c.p1, .int .i64 c.p2, .int .i64 c.cy, .int .i64 c.ex, .int .i64 c.fi, .int .i64 c.la, .int .i64 c.po, .int .i64 y] 68)
  replace T := T.alloc (.cells #[.string c.nm, .int .i64 c.k, .int .i64 c.d, .int .i64 c.m, .int .i64 c.s, .int .i64 c.sh, .int .i64 c.p0, .int .i64 c.p1, .int .i64 c.p2, .int .i64 c.cy, .int .i64 c.ex, .int .i64 c.fi, .int .i64 c.la, .int .i64 c.po, .int .i64 y] 68)
  have O : L = 1 ∨ L = 2 ∨ L = 3 ∨ L = 4 ∨ L = 5 := by unfold LevOk at hL; omega
  rcases O with rfl | rfl | rfl | rfl | rfl
  · obtain rfl : v = 1 := by rw [hv]; simp [ucount]
    clear hv ok hL
    go_enter Tryd.func35, Tryd.ntmps35
    go_upto_region 1 with fail
    generalize w.alloc (.cells #[.string c.nm, .int .i64 c.k, .int .i64 c.d, .int .i64 c.m, .int .i64 c.s, .int .i64 c.sh, .int .i64 c.p0, .int .i64 c.p1, .int .i64 c.p2, .int .i64 c.cy, .int .i64 c.ex, .int .i64 c.fi, .int .i64 c.la, .int .i64 c.po, .int .i64 y] 68) = W0 at *
    obtain ⟨⟨_, c0, c1, c2, c3, c4, c5, c6, c7, c8, c9, c10, c11, c12, c13⟩, c14⟩ := id C
    go_wp2
    go_ret
    exact ⟨rfl, B⟩
  · obtain rfl : v = 2 := by rw [hv]; simp [ucount]
    clear hv ok hL
    go_enter Tryd.func35, Tryd.ntmps35
    go_upto_region 1 with fail
    generalize w.alloc (.cells #[.string c.nm, .int .i64 c.k, .int .i64 c.d, .int .i64 c.m, .int .i64 c.s, .int .i64 c.sh, .int .i64 c.p0, .int .i64 c.p1, .int .i64 c.p2, .int .i64 c.cy, .int .i64 c.ex, .int .i64 c.fi, .int .i64 c.la, .int .i64 c.po, .int .i64 y] 68) = W0 at *
    obtain ⟨⟨_, c0, c1, c2, c3, c4, c5, c6, c7, c8, c9, c10, c11, c12, c13⟩, c14⟩ := id C
    go_wp2
    go_ret
    exact ⟨rfl, B⟩
  · obtain rfl : v = 4 := by rw [hv]; simp [ucount]
    clear hv ok hL
    go_enter Tryd.func35, Tryd.ntmps35
    go_upto_region 1 with fail
    generalize w.alloc (.cells #[.string c.nm, .int .i64 c.k, .int .i64 c.d, .int .i64 c.m, .int .i64 c.s, .int .i64 c.sh, .int .i64 c.p0, .int .i64 c.p1, .int .i64 c.p2, .int .i64 c.cy, .int .i64 c.ex, .int .i64 c.fi, .int .i64 c.la, .int .i64 c.po, .int .i64 y] 68) = W0 at *
    obtain ⟨⟨_, c0, c1, c2, c3, c4, c5, c6, c7, c8, c9, c10, c11, c12, c13⟩, c14⟩ := id C
    go_wp2
    go_ret
    exact ⟨rfl, B⟩
  · have cp := fun w T => Periods_any c v 0 w (.inl ⟨ok, by rw [hv]; simp [ucount], rfl⟩) hm T
    clear ok hv
    go_enter Tryd.func35, Tryd.ntmps35
    go_upto_region 1 with fail
    generalize w.alloc (.cells #[.string c.nm, .int .i64 c.k, .int .i64 c.d, .int .i64 c.m, .int .i64 c.s, .int .i64 c.sh, .int .i64 c.p0, .int .i64 c.p1, .int .i64 c.p2, .int .i64 c.cy, .int .i64 c.ex, .int .i64 c.fi, .int .i64 c.la, .int .i64 c.po, .int .i64 y] 68) = W0 at *
    obtain ⟨⟨_, c0, c1, c2, c3, c4, c5, c6, c7, c8, c9, c10, c11, c12, c13⟩, c14⟩ := id C
    go_wp2_with fail
    refine (cp _ T).mono ?_
    rintro e w1 ⟨rfl, hb⟩
    replace C := C.kept hb
    replace B := bthen B hb
    replace T := T.kept hb
    clear hb c0 c1 c2 c3 c4 c5 c6 c7 c8 c9 c10 c11 c12 c13 c14
    obtain ⟨⟨_, c0, c1, c2, c3, c4, c5, c6, c7, c8, c9, c10, c11, c12, c13⟩, c14⟩ := id C
    go_wp2
    go_ret
    exact ⟨rfl, B⟩
  · have cw := fun w T => fweeks_any c y v w ok y0 y1 (by rw [hv]; simp [ucount]) hm T
    clear ok hv
    go_enter Tryd.func35, Tryd.ntmps35
    go_upto_region 1 with fail
    generalize w.alloc (.cells #[.string c.nm, .int .i64 c.k, .int .i64 c.d, .int .i64 c.m, .int .i64 c.s, .int .i64 c.sh, .int .i64 c.p0, .int .i64 c.p1, .int .i64 c.p2, .int .i64 c.cy, .int .i64 c.ex, .int .i64 c.fi, .int .i64 c.la, .int .i64 c.po, .int .i64 y] 68) = W0 at *
    obtain ⟨⟨_, c0, c1, c2, c3, c4, c5, c6, c7, c8, c9, c10, c11, c12, c13⟩, c14⟩ := id C
    go_wp2_with fail
    refine (cw _ T).mono ?_
    rintro e w2 ⟨rfl, hb⟩
    replace C := C.kept hb
    replace B := bthen B hb
    replace T := T.kept hb
    clear hb c0 c1 c2 c3 c4 c5 c6 c7 c8 c9 c10 c11 c12 c13 c14
    obtain ⟨⟨_, c0, c1, c2, c3, c4, c5, c6, c7, c8, c9, c10, c11, c12, c13⟩, c14⟩ := id C
    go_wp2
    go_ret
    exact ⟨rfl, B⟩

theorem quar_gt {c : CalZ} (h : KindOk c) {p q : Int} (p0 : 1 ≤ p) (p1 : p ≤ per c) (q0 : 0 ≤ q) (q1 : q ≤ 4) : q < quar (per c) p ↔ per c * q / 4 < p := by
  have qq : q = 0 ∨ q = 1 ∨ q = 2 ∨ q = 3 ∨ q = 4 := by omega
  unfold quar
  rcases per_is h with e | e | e | e <;> rw [e] at p1 ⊢ <;> rcases qq with rfl | rfl | rfl | rfl | rfl <;> (repeat' split) <;> omega

set_option maxRecDepth 100000 in
theorem periodsTo1_any (c : CalZ) (y q : Int) (i b1 b2 : Nat) (v : Int) (w : World) (ok : CalOk c) (hi : (i : Int) < per c) (hv : v = quar (per c) ((i : Int) + 1)) (C : FisIn w b1 c y) (hq : w.cell? ⟨b2, 0, none⟩ = some (.int .i64 q)) (lq : b2 < w.heap.size) (hm : c.nm.size ≤ maxLen) (T : FTab w) :
    Calls Tryd.prog 122 #[.int .i64 (i : Int), .pointer (some ⟨b1, 0, none⟩), .pointer (some ⟨b2, 0, none⟩)] w fun e w' => e = .returned (.bool (decide (q < v))) ∧ Below w.heap.size w w' := by
  have pb := per_bd ok.1
  have cq := fun w T => Quarter_any c ((i : Int) + 1) v 0 w (.inl ⟨ok, by omega, by omega, hv, rfl⟩) hm T
  have i0 : (0 : Int) ≤ (i : Int) := by omega
  have i1 : (i : Int) ≤ 52 := by omega
  clear ok hi hv pb
  obtain ⟨⟨_, c0, c1, c2, c3, c4, c5, c6, c7, c8, c9, c10, c11, c12, c13⟩, c14⟩ := id C
  go_enter Tryd.func122, Tryd.ntmps122
  go_wp2_with fail
  refine (cq _ T).mono ?_
  rintro e w1 ⟨rfl, hb⟩
  replace hq := (hb.cell (p := ⟨b2, 0, none⟩) lq).trans hq
  clear c0 c1 c2 c3 c4 c5 c6 c7 c8 c9 c10 c11 c12 c13 c14
  go_wp2
  go_ret
  exact ⟨by simp, hb⟩

set_option maxRecDepth 100000 in
theorem periodsTo_any (c : CalZ) (y q v : Int) (w : World) (ok : CalOk c) (y0 : 1601 ≤ y) (y1 : y ≤ 9997) (q0 : 0 ≤ q) (q1 : q ≤ 4) (hv : v = per c * q / 4) (hm : c.nm.size ≤ maxLen) (T : FTab w) :
    Calls Tryd.prog 113 #[.agg #[.string c.nm, .int .i64 c.k, .int .i64 c.d, .int .i64 c.m, .int .i64 c.s, .int .i64 c.sh, .int .i64 c.p0, .int .i64 c.p1, .int .i64 c.p2, .int .i64 c.cy, .int .i64 c.ex, .int .i64 c.fi, .int .i64 c.la, .int .i64 c.po, .int .i64 y], .int .i64 q] w fun e w' => e = .returned (.int .i64 v) ∧ Below w.heap.size w w' := by
  have C := FisIn.new w c y 68
  have B := balloc (Below.refl _ w) (.cells #[.string c.nm, .int .i64 c.k, .int .i64 c.d, .int .i64 c.m, .int .i64 c.s, .int .i64 c.sh, .int .i64 c.p0, .int .i64 c.p1, .int .i64 c.p2, .int .i64 c.cy, .int .i64 c.ex, .int .i64 c.fi, .int .i64 c.la, .int .i64 c.po, .int .i64 y] 68)
  replace T := T.alloc (.cells #[.string c.nm, .int .i64 c.k, .int .i64 c.d, .int .i64 c.m, .int .i64 c.s, .int .i64 c.sh, .int .i64 c.p0, .int .i64 c.p1, .int .i64 c.p2, .int .i64 c.cy, .int .i64 c.ex, .int .i64 c.fi, .int .i64 c.la, .int .i64 c.po, .int .i64 y] 68)
  have pb := per_bd ok.1
  have qa := quarter_at ok.1 q q0 q1
  obtain ⟨n, hn⟩ : ∃ n : Nat, (n : Int) = per c := ⟨(per c).toNat, by omega⟩
  obtain ⟨r, hr⟩ : ∃ r : Nat, (r : Int) = v := ⟨v.toNat, by omega⟩
  have cc := fun w T => fcount_any c y 4 (n : Int) w ok y0 y1 ⟨by omega, by omega⟩ (by rw [hn]; simp [ucount]) hm T
  have K := (FisIn.new w c y 68)
  have CS : Hid (∀ W, Below (w.heap.size + 2) ((w.alloc (.cells #[.string c.nm, .int .i64 c.k, .int .i64 c.d, .int .i64 c.m, .int .i64 c.s, .int .i64 c.sh, .int .i64 c.p0, .int .i64 c.p1, .int .i64 c.p2, .int .i64 c.cy, .int .i64 c.ex, .int .i64 c.fi, .int .i64 c.la, .int .i64 c.po, .int .i64 y] 68)).alloc (.cells #[.int .i64 q] 3)) W → Calls Tryd.prog 37 #[.int .i64 (n : Int), .func (.func 122) #[] #[.pointer (some ⟨w.heap.size, 0, none⟩), .pointer (some ⟨w.heap.size + 1, 0, none⟩)]] W fun e w' => e = .returned (.int .i64 v) ∧ Below W.heap.size W w') :=
    Lib.hid (fun W hW => by
      rw [← hr]
      refine search_any n r _ _ W (by omega) (by omega) (fun _ _ => by rfl) (fun W2 i hb hi => ?_)
      have hz : ((w.alloc (.cells #[.string c.nm, .int .i64 c.k, .int .i64 c.d, .int .i64 c.m, .int .i64 c.s, .int .i64 c.sh, .int .i64 c.p0, .int .i64 c.p1, .int .i64 c.p2, .int .i64 c.cy, .int .i64 c.ex, .int .i64 c.fi, .int .i64 c.la, .int .i64 c.po, .int .i64 y] 68)).alloc (.cells #[.int .i64 q] 3)).heap.size = w.heap.size + 2 := by simp
      have B3 : Below ((w.alloc (.cells #[.string c.nm, .int .i64 c.k, .int .i64 c.d, .int .i64 c.m, .int .i64 c.s, .int .i64 c.sh, .int .i64 c.p0, .int .i64 c.p1, .int .i64 c.p2, .int .i64 c.cy, .int .i64 c.ex, .int .i64 c.fi, .int .i64 c.la, .int .i64 c.po, .int .i64 y] 68)).alloc (.cells #[.int .i64 q] 3)).heap.size ((w.alloc (.cells #[.string c.nm, .int .i64 c.k, .int .i64 c.d, .int .i64 c.m, .int .i64 c.s, .int .i64 c.sh, .int .i64 c.p0, .int .i64 c.p1, .int .i64 c.p2, .int .i64 c.cy, .int .i64 c.ex, .int .i64 c.fi, .int .i64 c.la, .int .i64 c.po, .int .i64 y] 68)).alloc (.cells #[.int .i64 q] 3)) W2 := by rw [hz]; exact hW.trans (hb.mono (by have := hW.size; rw [hz] at this; exact this))
      have e := quar_gt ok.1 (p := (i : Int) + 1) (q := q) (by omega) (by omega) q0 q1
      rw [← hv, ← hr] at e
      rw [show decide (r ≤ i) = decide (q < quar (per c) ((i : Int) + 1)) from decide_eq_decide.2 (by rw [e]; omega)]
      have lt2 : w.heap.size + 1 < W2.heap.size := by have := B3.size; rw [hz] at this; omega
      exact periodsTo1_any c y q i w.heap.size (w.heap.size + 1) _ W2 ok (by omega) rfl ((K.alloc _).kept B3) ((B3.cell (p := ⟨w.heap.size + 1, 0, none⟩) (by rw [hz]; show w.heap.size + 1 < _; omega)).trans (by simp [go_sem])) lt2 hm ((T.alloc _).kept B3))
  replace C := C.alloc (.cells #[.int .i64 q] 3)
  replace B := balloc B (.cells #[.int .i64 q] 3)
  replace T := T.alloc (.cells #[.int .i64 q] 3)
  have hz : ((w.alloc (.cells #[.string c.nm, .int .i64 c.k, .int .i64 c.d, .int .i64 c.m, .int .i64 c.s, .int .i64 c.sh, .int .i64 c.p0, .int .i64 c.p1, .int .i64 c.p2, .int .i64 c.cy, .int .i64 c.ex, .int .i64 c.fi, .int .i64 c.la, .int .i64 c.po, .int .i64 y] 68)).alloc (.cells #[.int .i64 q] 3)).heap.size = w.heap.size + 2 := by simp
  have v0 : 0 ≤ v ∧ v ≤ 52 := by omega
  clear ok pb qa hn hv hr K
  go_enter Tryd.func113, Tryd.ntmps113
  go_upto_region 1 with fail
  generalize (w.alloc (.cells #[.string c.nm, .int .i64 c.k, .int .i64 c.d, .int .i64 c.m, .int .i64 c.s, .int .i64 c.sh, .int .i64 c.p0, .int .i64 c.p1, .int .i64 c.p2, .int .i64 c.cy, .int .i64 c.ex, .int .i64 c.fi, .int .i64 c.la, .int .i64 c.po, .int .i64 y] 68)).alloc (.cells #[.int .i64 q] 3) = W0 at *
  obtain ⟨⟨_, c0, c1, c2, c3, c4, c5, c6, c7, c8, c9, c10, c11, c12, c13⟩, c14⟩ := id C
  go_wp2_with fail
  refine (cc _ T).mono ?_
  rintro e w1 ⟨rfl, hb⟩
  have cs := CS.out w1 (by rw [← hz]; exact hb)
  replace B := bthen B hb
  clear cc CS c0 c1 c2 c3 c4 c5 c6 c7 c8 c9 c10 c11 c12 c13 c14
  go_wp2_with fail
  refine cs.mono ?_
  rintro e w2 ⟨rfl, hb2⟩
  replace B := bthen B hb2
  go_wp2
  go_ret
  exact ⟨rfl, B⟩

end Go.Proofs.YtaiodjgpojfekaaDoor.Ip
