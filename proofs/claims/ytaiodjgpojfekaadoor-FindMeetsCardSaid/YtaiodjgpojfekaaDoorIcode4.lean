/- What monthOf and week of package unit come to. -/
import Derived.Test.YtaiodjgpojfekaaDoorIcode3
namespace Go.Proofs.YtaiodjgpojfekaaDoor.Ip
set_option linter.unusedSimpArgs false
set_option linter.unusedVariables false
open Go.RowKit Go.Proofs.YtaiodjgpojfekaaDoor.Bn Go.Proofs.YtaiodjgpojfekaaDoor.Bx Go.Proofs.YtaiodjgpojfekaaDoor.Cp Go.Proofs.YtaiodjgpojfekaaDoor.Am Go.Proofs.YtaiodjgpojfekaaDoor.Fp Go.Proofs.YtaiodjgpojfekaaDoor.Ap Go.Proofs.YtaiodjgpojfekaaDoor.Cm Go.Proofs.YtaiodjgpojfekaaDoor.Em Go.Proofs.YtaiodjgpojfekaaDoor.Ep Go.Proofs.YtaiodjgpojfekaaDoor.Rk Go.Proofs.YtaiodjgpojfekaaDoor.Hp

set_option maxHeartbeats 2000000

set_option maxRecDepth 100000 in
theorem fmonthOf_any (c : CalZ) (y i j a b : Int) (P : Nat) (w : World) (ok : CalOk c) (y0 : 1601 ≤ y) (y1 : y ≤ 9997) (k6 : c.k = 6) (hP : P + 1 ≤ perN c) (i0 : wsum c y P < i) (i1 : i ≤ wsum c y (P + 1)) (hj : j = i - wsum c y P)
    (ha : a = pend c y (P : Int) + 1) (hb' : b = pend c y ((P : Int) + 1)) (hm : c.nm.size ≤ maxLen) (T : FTab w) :
    Calls Tryd.prog 114 #[.agg #[.string c.nm, .int .i64 c.k, .int .i64 c.d, .int .i64 c.m, .int .i64 c.s, .int .i64 c.sh, .int .i64 c.p0, .int .i64 c.p1, .int .i64 c.p2, .int .i64 c.cy, .int .i64 c.ex, .int .i64 c.fi, .int .i64 c.la, .int .i64 c.po, .int .i64 y], .int .i64 i] w fun e w' => e = .returned (.tuple #[.agg #[.int .i64 a, .int .i64 b], .int .i64 j]) ∧ Below w.heap.size w w' := by
  have C := FisIn.new w c y 68
  have B := balloc (Below.refl _ w) (.cells #[.string c.nm, .int .i64 c.k, .int .i64 c.d, .int .i64 c.m, .int .i64 c.s, .int .i64 c.sh, .int .i64 c.p0, .int .i64 c.p1, .int .i64 c.p2, .int .i64 c.cy, .int .i64 c.ex, .int .i64 c.fi, .int .i64 c.la, .int .i64 c.po, .int .i64 y] 68)
  replace T := T.alloc (.cells #[.string c.nm, .int .i64 c.k, .int .i64 c.d, .int .i64 c.m, .int .i64 c.s, .int .i64 c.sh, .int .i64 c.p0, .int .i64 c.p1, .int .i64 c.p2, .int .i64 c.cy, .int .i64 c.ex, .int .i64 c.fi, .int .i64 c.la, .int .i64 c.po, .int .i64 y] 68)
  obtain ⟨s5, h12⟩ := (sh5 ok.1).1 k6
  have e12 : perN c = 12 := by unfold perN; rw [h12]; rfl
  have P12 : P < 12 := by omega
  have cw := fun w T => Weeks_ok c y 12 w ok y0 y1 (by omega) hm T
  have cp := fun w T => fperiod_any c y ((P : Int) + 1) a b w ok y0 y1 (by omega) (by omega) (by rw [ha, show (P : Int) + 1 - 1 = P by omega]) hb' hm T
  have nb := nwk_bd ok.1 y0 y1
  have i60 : i ≤ 60 := by
    have := wsum_step ok.1 y0 y1 (a := P + 1) (b := perN c) (by omega) (by omega)
    unfold nwk at nb; omega
  have HJ : Hid (j = i - wsum c y P) := Lib.hid hj
  have FA : Hid (∀ k : Nat, k ≤ P → ∃ d s : Int, d = fwk c y k ∧ s = wsum c y k ∧ s + d = wsum c y (k + 1) ∧ 0 ≤ s ∧ s < i ∧ 1 ≤ d ∧ d ≤ 6 ∧ (k < P → d < i - s) ∧ (k = P → i - s ≤ d)) :=
    Lib.hid (fun k hk => by
      have wb := wks_bd ok.1 y0 y1 (p := (k : Int) + 1) (by omega) (by omega)
      have b0 := wsum_step ok.1 y0 y1 (a := 0) (b := k) (by omega) (by omega)
      have b1 := wsum_step ok.1 y0 y1 (a := k) (b := P) (by omega) (by omega)
      rw [show wsum c y 0 = 0 from rfl] at b0
      have ws : wsum c y (k + 1) = wsum c y k + wks c y ((k : Int) + 1) := rfl
      refine ⟨fwk c y k, wsum c y k, rfl, rfl, rfl, by omega, by omega, wb.1, wb.2.1, fun q => ?_, fun q => ?_⟩
      · have b2 := wsum_step ok.1 y0 y1 (a := k + 1) (b := P) (by omega) (by omega)
        show wks c y ((k : Int) + 1) < _
        omega
      · subst q
        show _ ≤ wks c y ((k : Int) + 1)
        omega)
  clear ok k6 s5 h12 e12 hP i1 hj ha hb' nb
  have K := Go.Proofs.YtaiodjgpojfekaaDoor.Pr.Two.new (w.alloc (.cells #[.string c.nm, .int .i64 c.k, .int .i64 c.d, .int .i64 c.m, .int .i64 c.s, .int .i64 c.sh, .int .i64 c.p0, .int .i64 c.p1, .int .i64 c.p2, .int .i64 c.cy, .int .i64 c.ex, .int .i64 c.fi, .int .i64 c.la, .int .i64 c.po, .int .i64 y] 68)) (.int .i64 0) (.int .i64 0) 40
  replace C := C.alloc (.cells #[.int .i64 0, .int .i64 0] 40)
  replace B := balloc B (.cells #[.int .i64 0, .int .i64 0] 40)
  replace T := T.alloc (.cells #[.int .i64 0, .int .i64 0] 40)
  have zz : ((w.alloc (.cells #[.string c.nm, .int .i64 c.k, .int .i64 c.d, .int .i64 c.m, .int .i64 c.s, .int .i64 c.sh, .int .i64 c.p0, .int .i64 c.p1, .int .i64 c.p2, .int .i64 c.cy, .int .i64 c.ex, .int .i64 c.fi, .int .i64 c.la, .int .i64 c.po, .int .i64 y] 68)).alloc (.cells #[.int .i64 0, .int .i64 0] 40)).heap.size = w.heap.size + 2 := by simp
  rw [World.size_alloc] at K
  go_enter Tryd.func114, Tryd.ntmps114
  go_upto_region 1 with fail
  generalize (w.alloc (.cells #[.string c.nm, .int .i64 c.k, .int .i64 c.d, .int .i64 c.m, .int .i64 c.s, .int .i64 c.sh, .int .i64 c.p0, .int .i64 c.p1, .int .i64 c.p2, .int .i64 c.cy, .int .i64 c.ex, .int .i64 c.fi, .int .i64 c.la, .int .i64 c.po, .int .i64 y] 68)).alloc (.cells #[.int .i64 0, .int .i64 0] 40) = W0 at *
  obtain ⟨⟨_, c0, c1, c2, c3, c4, c5, c6, c7, c8, c9, c10, c11, c12, c13⟩, c14⟩ := id C
  obtain ⟨_, r0, r1, g0, g1⟩ := id K
  go_wp2_with fail
  refine (cw _ T).mono ?_
  rintro e w1 ⟨gR, capR, rfl, R, hgR, hb⟩
  replace C := C.kept hb
  replace B := bthen B hb
  replace T := T.kept hb
  replace K := K.kept hb
  clear hb hgR r0 r1 g0 g1 c0 c1 c2 c3 c4 c5 c6 c7 c8 c9 c10 c11 c12 c13 c14
  obtain ⟨⟨_, c0, c1, c2, c3, c4, c5, c6, c7, c8, c9, c10, c11, c12, c13⟩, c14⟩ := id C
  obtain ⟨_, r0, r1, g0, g1⟩ := id K
  clear cw
  go_wp2
  go_loop [1, 8] (fun X Y => ∃ k : Nat, k ≤ P ∧ Y = .int .i64 ((k : Int) + 1) ∧ ∃ m : Int, X = .int .i64 m ∧ Hid (m = i - wsum c y k)) (fun _ Y => (54 - intOf Y).toNat)
  case atStart => exact ⟨0, by omega, rfl, i, rfl, Lib.hid (by simp [wsum])⟩
  case round =>
    obtain ⟨k, hk, rfl, m, rfl, hm'⟩ := hrel
    obtain ⟨d, s, e1, e2, e3, s0, s1, d0, d1, g1, g2⟩ := FA.out k hk
    have em : m = i - s := by rw [hm'.out, e2]
    have rc := R.c k (by omega)
    rw [← e1] at rc
    have pp : (0 : Int) ≤ (k : Int) := by omega
    have bp : (k : Int) < 12 := by omega
    have E3 : Hid (m - d = i - wsum c y (k + 1)) := Lib.hid (by rw [← e3]; omega)
    by_cases hlt : k < P
    · have g3 := g1 hlt
      rw [← em] at g3
      have m0 : 0 ≤ m ∧ m ≤ 60 := by omega
      obtain ⟨m0, m1⟩ := m0
      clear e1 e2 e3 g1 g2 em hm'
      go_wp2
      go_round
      case rel => exact ⟨k + 1, by omega, by go_num, _, rfl, E3⟩
      case measure => simp [intOf]; omega
    · obtain rfl : k = P := by omega
      have g3 := g2 rfl
      rw [← em] at g3
      have ej : m = j := by rw [hm'.out, HJ.out]
      have dg : decide (d < m) = false := decide_eq_false (by omega)
      clear e1 e2 e3 g1 g2 em hm' E3
      subst ej
      go_wp2_with fail
      refine (cp _ T).mono ?_
      rintro e w9 ⟨rfl, hb⟩
      replace K := K.kept hb
      replace B := bthen B hb
      clear hb cp r0 r1 g0 g1 c0 c1 c2 c3 c4 c5 c6 c7 c8 c9 c10 c11 c12 c13 c14
      obtain ⟨_, r0, r1, g0, g1⟩ := id K
      go_wp2
      refine bodyPost_ret (v := .tuple #[.agg #[.int .i64 a, .int .i64 b], .int .i64 m]) (by simp [results, Tryd.results114, go_sem, *]) rfl ⟨rfl, ?_⟩
      exact bset (bset B (by omega) _ _) (by omega) _ _

set_option maxRecDepth 100000 in
theorem fweek_any (c : CalZ) (y i a b : Int) (w : World) (ok : CalOk c) (y0 : 1601 ≤ y) (y1 : y ≤ 9997) (i0 : 1 ≤ i) (i1 : i ≤ nwk c y) (ha : a = wend c y (i - 1) + 1) (hb' : b = wend c y i) (hm : c.nm.size ≤ maxLen) (T : FTab w) :
    Calls Tryd.prog 96 #[.agg #[.string c.nm, .int .i64 c.k, .int .i64 c.d, .int .i64 c.m, .int .i64 c.s, .int .i64 c.sh, .int .i64 c.p0, .int .i64 c.p1, .int .i64 c.p2, .int .i64 c.cy, .int .i64 c.ex, .int .i64 c.fi, .int .i64 c.la, .int .i64 c.po, .int .i64 y], .int .i64 i] w fun e w' => e = .returned (.agg #[.int .i64 a, .int .i64 b]) ∧ Below w.heap.size w w' := by
  have C := FisIn.new w c y 68
  have B := balloc (Below.refl _ w) (.cells #[.string c.nm, .int .i64 c.k, .int .i64 c.d, .int .i64 c.m, .int .i64 c.s, .int .i64 c.sh, .int .i64 c.p0, .int .i64 c.p1, .int .i64 c.p2, .int .i64 c.cy, .int .i64 c.ex, .int .i64 c.fi, .int .i64 c.la, .int .i64 c.po, .int .i64 y] 68)
  replace T := T.alloc (.cells #[.string c.nm, .int .i64 c.k, .int .i64 c.d, .int .i64 c.m, .int .i64 c.s, .int .i64 c.sh, .int .i64 c.p0, .int .i64 c.p1, .int .i64 c.p2, .int .i64 c.cy, .int .i64 c.ex, .int .i64 c.fi, .int .i64 c.la, .int .i64 c.po, .int .i64 y] 68)
  have nb := nwk_bd ok.1 y0 y1
  have pb := per_bd ok.1
  obtain ⟨x, hx⟩ : ∃ x, x = pend c y 0 + 1 := ⟨_, rfl⟩
  obtain ⟨z, hz⟩ : ∃ z, z = pend c y (per c) := ⟨_, rfl⟩
  have cy := fun w T => fyear_any c y 1 x z w ok y0 y1 hx hz hm T
  have bd0 := pend_bd ok.1 y0 y1 (p := 0) (by omega) (by omega)
  have bd1 := pend_bd ok.1 y0 y1 (p := per c) (by omega) (by omega)
  obtain ⟨x0, x1⟩ : 0 ≤ x ∧ x ≤ 3068037 := by omega
  obtain ⟨z0, z1⟩ : 0 ≤ z ∧ z ≤ 3068037 := by omega
  have i60 : i ≤ 60 := by omega
  by_cases k6 : c.k = 6
  · obtain ⟨P, hP, w0, w1', e1, e2, e3, _⟩ := wend_step ok.1 y0 y1 i0 i1
    obtain ⟨s5, h12⟩ := (sh5 ok.1).1 k6
    obtain ⟨j, hj⟩ : ∃ j, j = i - wsum c y P := ⟨_, rfl⟩
    obtain ⟨p, hp⟩ : ∃ p, p = pend c y (P : Int) + 1 := ⟨_, rfl⟩
    obtain ⟨q, hq⟩ : ∃ q, q = pend c y ((P : Int) + 1) := ⟨_, rfl⟩
    have pe := perN_is ok.1
    have bdp := pend_bd ok.1 y0 y1 (p := (P : Int)) (by omega) (by omega)
    have bdq := pend_bd ok.1 y0 y1 (p := (P : Int) + 1) (by omega) (by omega)
    have wb := wks_bd ok.1 y0 y1 (p := (P : Int) + 1) (by omega) (by omega)
    have ws : wsum c y (P + 1) = wsum c y P + wks c y ((P : Int) + 1) := rfl
    have cb := fun w T => byMonths_any c y true w (by rw [s5]; rfl) T
    have co := fun w T => fmonthOf_any c y i j p q P w ok y0 y1 k6 hP w0 w1' hj hp hq hm T
    obtain rfl : a = p + (j - 1) * 7 := by rw [ha, e1, hp, hj]; omega
    have O : (p + (j - 1) * 7 + 7 - 1 ≤ q ∧ b = p + (j - 1) * 7 + 7 - 1) ∨ (q < p + (j - 1) * 7 + 7 - 1 ∧ b = q) := by
      have : b = min (p + (j - 1) * 7 + 7 - 1) q := by rw [hb', e2, ← hq, e1, hp, hj]; omega
      omega
    obtain ⟨p0, p1⟩ : 0 ≤ p ∧ p ≤ 3068037 := by omega
    obtain ⟨q0, q1⟩ : 0 ≤ q ∧ q ≤ 3068037 := by omega
    obtain ⟨j0, j1⟩ : 1 ≤ j ∧ j ≤ 6 := by omega
    clear ok k6 s5 h12 ha hb' hx hz hj hp hq e1 e2 e3 nb pb bd0 bd1 bdp bdq wb ws w0 w1' i1 pe
    rcases O with ⟨hle, rfl⟩ | ⟨hle, rfl⟩
    all_goals
      have K := Go.Proofs.YtaiodjgpojfekaaDoor.Pr.Two.new (w.alloc (.cells #[.string c.nm, .int .i64 c.k, .int .i64 c.d, .int .i64 c.m, .int .i64 c.s, .int .i64 c.sh, .int .i64 c.p0, .int .i64 c.p1, .int .i64 c.p2, .int .i64 c.cy, .int .i64 c.ex, .int .i64 c.fi, .int .i64 c.la, .int .i64 c.po, .int .i64 y] 68)) (.int .i64 0) (.int .i64 0) 40
      replace C := C.alloc (.cells #[.int .i64 0, .int .i64 0] 40)
      replace B := balloc B (.cells #[.int .i64 0, .int .i64 0] 40)
      replace T := T.alloc (.cells #[.int .i64 0, .int .i64 0] 40)
      have zz : ((w.alloc (.cells #[.string c.nm, .int .i64 c.k, .int .i64 c.d, .int .i64 c.m, .int .i64 c.s, .int .i64 c.sh, .int .i64 c.p0, .int .i64 c.p1, .int .i64 c.p2, .int .i64 c.cy, .int .i64 c.ex, .int .i64 c.fi, .int .i64 c.la, .int .i64 c.po, .int .i64 y] 68)).alloc (.cells #[.int .i64 0, .int .i64 0] 40)).heap.size = w.heap.size + 2 := by simp
      rw [World.size_alloc] at K
      go_enter Tryd.func96, Tryd.ntmps96
      go_upto_region 1 with fail
      generalize (w.alloc (.cells #[.string c.nm, .int .i64 c.k, .int .i64 c.d, .int .i64 c.m, .int .i64 c.s, .int .i64 c.sh, .int .i64 c.p0, .int .i64 c.p1, .int .i64 c.p2, .int .i64 c.cy, .int .i64 c.ex, .int .i64 c.fi, .int .i64 c.la, .int .i64 c.po, .int .i64 y] 68)).alloc (.cells #[.int .i64 0, .int .i64 0] 40) = W0 at *
      obtain ⟨⟨_, c0, c1, c2, c3, c4, c5, c6, c7, c8, c9, c10, c11, c12, c13⟩, c14⟩ := id C
      obtain ⟨_, r0, r1, g0, g1⟩ := id K
      go_wp2_with fail
      refine (cy _ T).mono ?_
      rintro e w1 ⟨rfl, hb⟩
      replace C := C.kept hb
      replace B := bthen B hb
      replace T := T.kept hb
      replace K := K.kept hb
      clear hb r0 r1 g0 g1 c0 c1 c2 c3 c4 c5 c6 c7 c8 c9 c10 c11 c12 c13 c14
      obtain ⟨⟨_, c0, c1, c2, c3, c4, c5, c6, c7, c8, c9, c10, c11, c12, c13⟩, c14⟩ := id C
      obtain ⟨_, r0, r1, g0, g1⟩ := id K
      have A := Go.Proofs.YtaiodjgpojfekaaDoor.Pr.Two.new w1 (.int .i64 x) (.int .i64 z) 40
      replace C := C.alloc (.cells #[.int .i64 x, .int .i64 z] 40)
      replace K := K.alloc (.cells #[.int .i64 x, .int .i64 z] 40)
      replace B := balloc B (.cells #[.int .i64 x, .int .i64 z] 40)
      replace T := T.alloc (.cells #[.int .i64 x, .int .i64 z] 40)
      clear c0 c1 c2 c3 c4 c5 c6 c7 c8 c9 c10 c11 c12 c13 c14 
      obtain ⟨⟨_, c0, c1, c2, c3, c4, c5, c6, c7, c8, c9, c10, c11, c12, c13⟩, c14⟩ := id C
      go_wp2_with fail
      refine (cb _ T).mono ?_
      rintro e w5 ⟨rfl, hb⟩
      replace C := C.kept hb
      replace K := K.kept hb
      replace A := A.kept hb
      replace B := bthen B hb
      replace T := T.kept hb
      clear hb r0 r1 g0 g1
      clear c0 c1 c2 c3 c4 c5 c6 c7 c8 c9 c10 c11 c12 c13 c14 
      obtain ⟨⟨_, c0, c1, c2, c3, c4, c5, c6, c7, c8, c9, c10, c11, c12, c13⟩, c14⟩ := id C
      obtain ⟨_, t0, t1, f0, f1⟩ := id A
      go_wp2_with fail
      refine (co _ T).mono ?_
      rintro e w6 ⟨rfl, hb⟩
      replace K := K.kept hb
      replace A := A.kept hb
      replace B := bthen B hb
      clear hb t0 t1 f0 f1 cy cb co T
      clear c0 c1 c2 c3 c4 c5 c6 c7 c8 c9 c10 c11 c12 c13 c14 
      obtain ⟨_, r0, r1, g0, g1⟩ := id K
      obtain ⟨_, t0, t1, f0, f1⟩ := id A
      go_wp2
      have l1 : w.heap.size ≤ w1.heap.size := by omega
      have n1 : ¬ w.heap.size + 1 = w1.heap.size := by omega
      have n2 : ¬ w1.heap.size = w.heap.size + 1 := by omega
      refine bodyPost_ret (v := .agg #[.int .i64 (p + (j - 1) * 7), .int .i64 _]) (by simp [results, Tryd.results96, go_sem, *]) rfl ⟨rfl, ?_⟩
      exact bset (bset (bset (bset B l1 _ _) l1 _ _) (by omega) _ _) (by omega) _ _
  · have n5 := (sh5 ok.1).2 k6
    have cb := fun w T => byMonths_any c y false w (beq_eq_false_iff_ne.2 n5).symm T
    have we := wend_weeks ok.1 k6 y0 y1 (i := i) (by omega) i1
    have we1 := wend_weeks ok.1 k6 y0 y1 (i := i - 1) (by omega) (by omega)
    have we2 := wend_weeks ok.1 k6 y0 y1 (i := nwk c y) (by omega) (by omega)
    rw [wend_last ok.1 y0 y1] at we2
    obtain rfl : a = x + (i - 1) * 7 := by omega
    obtain rfl : b = x + (i - 1) * 7 + 7 - 1 := by omega
    have le : x + (i - 1) * 7 + 7 - 1 ≤ z := by omega
    clear ok k6 n5 ha hb' hx hz nb pb bd0 bd1 i1 we we1 we2
    have K := Go.Proofs.YtaiodjgpojfekaaDoor.Pr.Two.new (w.alloc (.cells #[.string c.nm, .int .i64 c.k, .int .i64 c.d, .int .i64 c.m, .int .i64 c.s, .int .i64 c.sh, .int .i64 c.p0, .int .i64 c.p1, .int .i64 c.p2, .int .i64 c.cy, .int .i64 c.ex, .int .i64 c.fi, .int .i64 c.la, .int .i64 c.po, .int .i64 y] 68)) (.int .i64 0) (.int .i64 0) 40
    replace C := C.alloc (.cells #[.int .i64 0, .int .i64 0] 40)
    replace B := balloc B (.cells #[.int .i64 0, .int .i64 0] 40)
    replace T := T.alloc (.cells #[.int .i64 0, .int .i64 0] 40)
    have zz : ((w.alloc (.cells #[.string c.nm, .int .i64 c.k, .int .i64 c.d, .int .i64 c.m, .int .i64 c.s, .int .i64 c.sh, .int .i64 c.p0, .int .i64 c.p1, .int .i64 c.p2, .int .i64 c.cy, .int .i64 c.ex, .int .i64 c.fi, .int .i64 c.la, .int .i64 c.po, .int .i64 y] 68)).alloc (.cells #[.int .i64 0, .int .i64 0] 40)).heap.size = w.heap.size + 2 := by simp
    rw [World.size_alloc] at K
    go_enter Tryd.func96, Tryd.ntmps96
    go_upto_region 1 with fail
    generalize (w.alloc (.cells #[.string c.nm, .int .i64 c.k, .int .i64 c.d, .int .i64 c.m, .int .i64 c.s, .int .i64 c.sh, .int .i64 c.p0, .int .i64 c.p1, .int .i64 c.p2, .int .i64 c.cy, .int .i64 c.ex, .int .i64 c.fi, .int .i64 c.la, .int .i64 c.po, .int .i64 y] 68)).alloc (.cells #[.int .i64 0, .int .i64 0] 40) = W0 at *
    obtain ⟨⟨_, c0, c1, c2, c3, c4, c5, c6, c7, c8, c9, c10, c11, c12, c13⟩, c14⟩ := id C
    obtain ⟨_, r0, r1, g0, g1⟩ := id K
    go_wp2_with fail
    refine (cy _ T).mono ?_
    rintro e w2 ⟨rfl, hb⟩
    replace C := C.kept hb
    replace B := bthen B hb
    replace T := T.kept hb
    replace K := K.kept hb
    clear hb r0 r1 g0 g1 c0 c1 c2 c3 c4 c5 c6 c7 c8 c9 c10 c11 c12 c13 c14
    obtain ⟨⟨_, c0, c1, c2, c3, c4, c5, c6, c7, c8, c9, c10, c11, c12, c13⟩, c14⟩ := id C
    obtain ⟨_, r0, r1, g0, g1⟩ := id K
    have A := Go.Proofs.YtaiodjgpojfekaaDoor.Pr.Two.new w2 (.int .i64 x) (.int .i64 z) 40
    replace C := C.alloc (.cells #[.int .i64 x, .int .i64 z] 40)
    replace K := K.alloc (.cells #[.int .i64 x, .int .i64 z] 40)
    replace B := balloc B (.cells #[.int .i64 x, .int .i64 z] 40)
    replace T := T.alloc (.cells #[.int .i64 x, .int .i64 z] 40)
    clear c0 c1 c2 c3 c4 c5 c6 c7 c8 c9 c10 c11 c12 c13 c14 
    obtain ⟨⟨_, c0, c1, c2, c3, c4, c5, c6, c7, c8, c9, c10, c11, c12, c13⟩, c14⟩ := id C
    go_wp2_with fail
    refine (cb _ T).mono ?_
    rintro e w5 ⟨rfl, hb⟩
    replace K := K.kept hb
    replace A := A.kept hb
    replace B := bthen B hb
    clear hb r0 r1 g0 g1 cb cy T
    clear c0 c1 c2 c3 c4 c5 c6 c7 c8 c9 c10 c11 c12 c13 c14 
    obtain ⟨_, r0, r1, g0, g1⟩ := id K
    obtain ⟨_, t0, t1, f0, f1⟩ := id A
    go_wp2
    refine bodyPost_ret (v := .agg #[.int .i64 (x + (i - 1) * 7), .int .i64 (x + (i - 1) * 7 + 7 - 1)]) (by simp [results, Tryd.results96, go_sem, *]) rfl ⟨rfl, ?_⟩
    exact bset (bset B (by omega) _ _) (by omega) _ _

end Go.Proofs.YtaiodjgpojfekaaDoor.Ip
