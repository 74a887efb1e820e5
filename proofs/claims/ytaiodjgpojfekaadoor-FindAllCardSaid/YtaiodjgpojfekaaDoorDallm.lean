/- FindAll's walk. -/
import Derived.Test.YtaiodjgpojfekaaDoorDlive
import Derived.Test.YtaiodjgpojfekaaDoorDnext
import Derived.Test.YtaiodjgpojfekaaDoorDshort
import Derived.Test.YtaiodjgpojfekaaDoorDall
import Derived.Test.YtaiodjgpojfekaaDoorDalle
import Derived.Test.YtaiodjgpojfekaaDoorFcal
import Derived.Test.YtaiodjgpojfekaaDoorJD
import Derived.Deep.RegionHeld3
import Derived.Deep.DeepCutAuto

namespace Go.Proofs.YtaiodjgpojfekaaDoor.Dl
set_option linter.unusedSimpArgs false
set_option linter.unusedVariables false
open Go.RowKit Go.Proofs.YtaiodjgpojfekaaDoor.Bn Go.Proofs.YtaiodjgpojfekaaDoor.Bx Go.Proofs.YtaiodjgpojfekaaDoor.Cp Go.Proofs.YtaiodjgpojfekaaDoor.Am Go.Proofs.YtaiodjgpojfekaaDoor.Fp Go.Proofs.YtaiodjgpojfekaaDoor.Ap Go.Proofs.YtaiodjgpojfekaaDoor.Cm Go.Proofs.YtaiodjgpojfekaaDoor.Em Go.Proofs.YtaiodjgpojfekaaDoor.Ep Go.Proofs.YtaiodjgpojfekaaDoor.Rk Go.Proofs.YtaiodjgpojfekaaDoor.Hp Go.Proofs.YtaiodjgpojfekaaDoor.Ip Go.Proofs.YtaiodjgpojfekaaDoor.Jp Go.Proofs.YtaiodjgpojfekaaDoor.Dp

set_option maxHeartbeats 8000000

set_option maxRecDepth 100000 in
theorem all_main (c : CalZ) (L f t : Int) (N : Nat) (w : World) (tb : FTab w) (hm : c.nm.size ≤ maxLen) (way : UWay c L f 1 t (ucount c t L) N) :
    Calls Tryd.prog 3 #[.agg #[.string c.nm, .int .i64 c.k, .int .i64 c.d, .int .i64 c.m, .int .i64 c.s, .int .i64 c.sh, .int .i64 c.p0, .int .i64 c.p1, .int .i64 c.p2, .int .i64 c.cy, .int .i64 c.ex, .int .i64 c.fi, .int .i64 c.la, .int .i64 c.po], .int .i64 L, .int .i64 f, .int .i64 t] w fun e w' => e = .returned (.bool true) ∧ Below w.heap.size w w' := by
  have T := tb
  have C := CalIn.new w c 24
  have B := balloc (Below.refl _ w) (.cells #[.string c.nm, .int .i64 c.k, .int .i64 c.d, .int .i64 c.m, .int .i64 c.s, .int .i64 c.sh, .int .i64 c.p0, .int .i64 c.p1, .int .i64 c.p2, .int .i64 c.cy, .int .i64 c.ex, .int .i64 c.fi, .int .i64 c.la, .int .i64 c.po] 24)
  replace T := T.alloc (.cells #[.string c.nm, .int .i64 c.k, .int .i64 c.d, .int .i64 c.m, .int .i64 c.s, .int .i64 c.sh, .int .i64 c.p0, .int .i64 c.p1, .int .i64 c.p2, .int .i64 c.cy, .int .i64 c.ex, .int .i64 c.fi, .int .i64 c.la, .int .i64 c.po] 24)
  have qa := fun w T => All_ok c L f t N w way hm T
  obtain ⟨m, hmm⟩ : ∃ m, m = ucount c t L := ⟨_, rfl⟩
  have qc := fun w T => Count_any c L t m 0 w (.inl ⟨way.u.1, way.u.2.1, way.v.2.2.1, hmm, rfl⟩) hm T
  have s1 := served_told way.u.1 way.u.2.2.1
  have s2 := served_told way.u.1 way.v.2.2.1
  have mb := ucount_bd (L := L) (y := t) way.u.1.1 (by omega) (by omega)
  rw [← hmm] at mb
  have qn : Hid (∀ k : Nat, k < N → ∃ y i : Int, itu c L (f, 1) (k + 1) = (y, i) ∧ ∀ w, FTab w → Calls Tryd.prog 10 #[.agg #[.string c.nm, .int .i64 c.k, .int .i64 c.d, .int .i64 c.m, .int .i64 c.s, .int .i64 c.sh, .int .i64 c.p0, .int .i64 c.p1, .int .i64 c.p2, .int .i64 c.cy, .int .i64 c.ex, .int .i64 c.fi, .int .i64 c.la, .int .i64 c.po], .agg #[.int .i64 L, .int .i64 (itu c L (f, 1) k).1, .int .i64 (itu c L (f, 1) k).2]] w fun e w' => e = .returned (.tuple #[.agg #[.int .i64 L, .int .i64 y, .int .i64 i], .int .i64 0]) ∧ Below w.heap.size w w') :=
    Lib.hid (fun k hk => ⟨_, _, rfl, fun w T => Next_any c L _ _ L _ _ 0 w (way.nx k hk).1 hm T⟩)
  have at0 : Hid (itu c L (f, 1) N = (t, m)) := Lib.hid (by rw [hmm]; exact way.at_)
  have N500 : IntKind.i64.wrap (t - f) ≤ 6 → N + 1 ≤ 500 := fun h => by
    rw [IntWalk.i64_in _ (by omega)] at h
    have := way.len
    omega
  have ft := way.le
  have g1 : c.fi ≤ f := way.u.2.2.1.1
  have g2 : t ≤ c.la := way.v.2.2.1.2
  clear way hmm s1 s2
  go_enter Tryd.func3, Tryd.ntmps3
  go_upto_region 1 with fail
  generalize w.alloc (.cells #[.string c.nm, .int .i64 c.k, .int .i64 c.d, .int .i64 c.m, .int .i64 c.s, .int .i64 c.sh, .int .i64 c.p0, .int .i64 c.p1, .int .i64 c.p2, .int .i64 c.cy, .int .i64 c.ex, .int .i64 c.fi, .int .i64 c.la, .int .i64 c.po] 24) = W0 at *
  obtain ⟨_, c0, c1, c2, c3, c4, c5, c6, c7, c8, c9, c10, c11, c12, c13⟩ := id C
  go_wp2_with fail
  refine (dlive_ok _ T).mono ?_
  rintro e w1 ⟨rfl, hb⟩
  replace C := C.kept hb
  replace B := bthen B hb
  replace T := T.kept hb
  clear hb c0 c1 c2 c3 c4 c5 c6 c7 c8 c9 c10 c11 c12 c13
  obtain ⟨_, c0, c1, c2, c3, c4, c5, c6, c7, c8, c9, c10, c11, c12, c13⟩ := id C
  go_wp2_with fail
  refine (short_any c f t _).mono ?_
  rintro e w2 ⟨r, rfl, hb, hr⟩
  replace C := C.kept hb
  replace B := bthen B hb
  replace T := T.kept hb
  clear hb c0 c1 c2 c3 c4 c5 c6 c7 c8 c9 c10 c11 c12 c13
  obtain ⟨_, c0, c1, c2, c3, c4, c5, c6, c7, c8, c9, c10, c11, c12, c13⟩ := id C
  cases r
  · go_wp2
    go_ret
    exact ⟨by simp, B⟩
  have n500 := N500 ((hr rfl).2 ft g1 g2)
  clear hr N500 ft g1 g2
  go_wp2_with fail
  refine (qa _ T).mono ?_
  rintro e w3 ⟨g, cap, rfl, R, hg, hb, hcap⟩
  replace C := C.kept hb
  replace B := bthen B hb
  replace T := T.kept hb
  clear hb c0 c1 c2 c3 c4 c5 c6 c7 c8 c9 c10 c11 c12 c13
  obtain ⟨_, c0, c1, c2, c3, c4, c5, c6, c7, c8, c9, c10, c11, c12, c13⟩ := id C
  rw [ulist_len] at hcap ⊢
  have r0 := R.c 0 _ (ulist_at c L (f, 1) (N + 1) 0 (by omega))
  simp only [itu] at r0
  have r0' := r0
  obtain ⟨r00, r01, r02⟩ := r0
  have d1 : ((N : Int) + 1 == 0) = false := beq_eq_false_iff_ne.2 (by omega)
  have d2 : decide ((500 : Int) < (N : Int) + 1) = false := decide_eq_false (by omega)
  by_cases n0 : N = 0
  · have dk : decide ((0 : Int) < (N : Int)) = false := decide_eq_false (by omega)
    have dk2 : decide (0 < N) = false := decide_eq_false (by omega)
    have dk3 : ¬ 0 < N := by omega
    have RR := R
    clear r00 r01 r02
    have n0' := Lib.hid n0
    clear n0
    by_cases c1 : cap = 1
    all_goals
      obtain ⟨r00, r01, r02⟩ := r0'
      go_wp2
      refine wp_loop_rounds 1 ?_
      rw [rounds_succ]
      have rN := RR.c N _ (ulist_at c L (f, 1) (N + 1) N (by omega))
      rw [at0.out] at rN
      obtain ⟨rN0, rN1, rN2⟩ := rN
      have kk2 : (N : Int) < (N : Int) + 1 := by omega
      have kk3 : IntKind.i64.wrap ((N : Int) + 1 - 1) = (N : Int) := by rw [show (N : Int) + 1 - 1 = N by omega]; exact IntWalk.i64_in _ (by omega)
      clear at0 qn
      go_upto_region 19 with fail
      have Z := Tri.new w3 (.int .i64 L) (.int .i64 t) (.int .i64 m) 33
      replace C := C.alloc (.cells #[.int .i64 L, .int .i64 t, .int .i64 m] 33)
      replace T := T.alloc (.cells #[.int .i64 L, .int .i64 t, .int .i64 m] 33)
      replace B := balloc B (.cells #[.int .i64 L, .int .i64 t, .int .i64 m] 33)
      clear rN0 rN1 rN2
      clear c0 c1 c2 c3 c4 c5 c6 c7 c8 c9 c10 c11 c12 c13 
      obtain ⟨_, c0, c1, c2, c3, c4, c5, c6, c7, c8, c9, c10, c11, c12, c13⟩ := id C
      obtain ⟨_, z0, z1, z2, fz0, fz1, fz2⟩ := id Z
      go_wp2_with fail
      refine (qc _ T).mono ?_
      rintro e w7 ⟨rfl, hb⟩
      replace Z := Z.kept hb
      replace B := bthen B hb
      clear z0 z1 z2 fz0 fz1 fz2 hb
      clear c0 c1 c2 c3 c4 c5 c6 c7 c8 c9 c10 c11 c12 c13 
      obtain ⟨_, z0, z1, z2, fz0, fz1, fz2⟩ := id Z
      go_wp2
      go_ret
      exact ⟨by simp, B⟩
  have c1 : ¬ cap = 1 := by omega
  go_wp2
  go_loopw [96] (fun X wr => ∃ k : Nat, k ≤ N ∧ X = .int .i64 (k : Int) ∧ Below w3.heap.size w3 wr) (fun X _ => (500 - intOf X).toNat)
  case atStart => exact ⟨0, by omega, rfl, Below.refl _ _⟩
  case round =>
    obtain ⟨k, kN, rfl, B2⟩ := hrel
    replace C := C.kept B2
    replace T := T.kept B2
    have R2 := R.kept B2
    replace B := bthen B B2
    clear r00 r01 r02
    clear c0 c1 c2 c3 c4 c5 c6 c7 c8 c9 c10 c11 c12 c13 
    by_cases hlt : k < N
    · obtain ⟨y, i, hyi, nk⟩ := qn.out k hlt
      obtain ⟨y', hy'⟩ : ∃ y', (itu c L (f, 1) k).1 = y' := ⟨_, rfl⟩
      obtain ⟨i', hi'⟩ : ∃ i', (itu c L (f, 1) k).2 = i' := ⟨_, rfl⟩
      rw [hy', hi'] at nk
      have rk := R2.c k _ (ulist_at c L (f, 1) (N + 1) k (by omega))
      rw [hy', hi'] at rk
      have rs := R2.c (k + 1) _ (ulist_at c L (f, 1) (N + 1) (k + 1) (by omega))
      rw [hyi] at rs
      rw [show (k + 1) * 3 = 3 + k * 3 by omega] at rs
      obtain ⟨rk0, rk1, rk2⟩ := rk
      obtain ⟨rs0, rs1, rs2⟩ := rs
      obtain ⟨_, c0, c1, c2, c3, c4, c5, c6, c7, c8, c9, c10, c11, c12, c13⟩ := id C
      have kk : (k : Int) < N := by omega
      have kk2 : (k : Int) < (N : Int) + 1 := by omega
      go_upto_region 14 with fail
      have V := Tri.new wr (.int .i64 L) (.int .i64 y) (.int .i64 i) 33
      have R8 := R2.alloc (.cells #[.int .i64 L, .int .i64 y, .int .i64 i] 33)
      replace C := C.alloc (.cells #[.int .i64 L, .int .i64 y, .int .i64 i] 33)
      replace T := T.alloc (.cells #[.int .i64 L, .int .i64 y, .int .i64 i] 33)
      have B8 := balloc B2 (.cells #[.int .i64 L, .int .i64 y, .int .i64 i] 33)
      clear rk0 rk1 rk2 rs0 rs1 rs2
      clear c0 c1 c2 c3 c4 c5 c6 c7 c8 c9 c10 c11 c12 c13 
      generalize wr.alloc (.cells #[.int .i64 L, .int .i64 y, .int .i64 i] 33) = W8 at *
      have rk := R8.c k _ (ulist_at c L (f, 1) (N + 1) k (by omega))
      rw [hy', hi'] at rk
      obtain ⟨rk0, rk1, rk2⟩ := rk
      obtain ⟨_, c0, c1, c2, c3, c4, c5, c6, c7, c8, c9, c10, c11, c12, c13⟩ := id C
      have rk' : ∀ W, Below W8.heap.size W8 W → W.cell? ⟨g, k * 3, none⟩ = some (.int .i64 L) ∧ W.cell? ⟨g, k * 3 + 1, none⟩ = some (.int .i64 y') ∧ W.cell? ⟨g, k * 3 + 2, none⟩ = some (.int .i64 i') := fun W h => by
        have := (R8.kept h).c k _ (ulist_at c L (f, 1) (N + 1) k (by omega))
        rwa [hy', hi'] at this
      have H : Hid (∀ W, Below W8.heap.size W8 W → (Below W8.heap.size W8 W ∧ W.cell? ⟨w.heap.size, 0, none⟩ = some (.string c.nm) ∧ W.cell? ⟨w.heap.size, 1, none⟩ = some (.int .i64 c.k) ∧ W.cell? ⟨w.heap.size, 2, none⟩ = some (.int .i64 c.d) ∧ W.cell? ⟨w.heap.size, 3, none⟩ = some (.int .i64 c.m) ∧ W.cell? ⟨w.heap.size, 4, none⟩ = some (.int .i64 c.s) ∧ W.cell? ⟨w.heap.size, 5, none⟩ = some (.int .i64 c.sh) ∧ W.cell? ⟨w.heap.size, 6, none⟩ = some (.int .i64 c.p0) ∧ W.cell? ⟨w.heap.size, 7, none⟩ = some (.int .i64 c.p1) ∧ W.cell? ⟨w.heap.size, 8, none⟩ = some (.int .i64 c.p2) ∧ W.cell? ⟨w.heap.size, 9, none⟩ = some (.int .i64 c.cy) ∧ W.cell? ⟨w.heap.size, 10, none⟩ = some (.int .i64 c.ex) ∧ W.cell? ⟨w.heap.size, 11, none⟩ = some (.int .i64 c.fi) ∧ W.cell? ⟨w.heap.size, 12, none⟩ = some (.int .i64 c.la) ∧ W.cell? ⟨w.heap.size, 13, none⟩ = some (.int .i64 c.po) ∧ W.cell? ⟨g, k * 3, none⟩ = some (.int .i64 L) ∧ W.cell? ⟨g, k * 3 + 1, none⟩ = some (.int .i64 y') ∧ W.cell? ⟨g, k * 3 + 2, none⟩ = some (.int .i64 i'))) := Lib.hid (fun W h => ⟨h, (C.kept h).c0, (C.kept h).c1, (C.kept h).c2, (C.kept h).c3, (C.kept h).c4, (C.kept h).c5, (C.kept h).c6, (C.kept h).c7, (C.kept h).c8, (C.kept h).c9, (C.kept h).c10, (C.kept h).c11, (C.kept h).c12, (C.kept h).c13, rk' W h⟩)
      clear rk'
      go_cut [14, 15] (fun s14 s15 wx => UMid W8 L y i 0 s14 s15 wx)
      case first =>
        go_region_held3 (fun W => Below W8.heap.size W8 W ∧ W.cell? ⟨w.heap.size, 0, none⟩ = some (.string c.nm) ∧ W.cell? ⟨w.heap.size, 1, none⟩ = some (.int .i64 c.k) ∧ W.cell? ⟨w.heap.size, 2, none⟩ = some (.int .i64 c.d) ∧ W.cell? ⟨w.heap.size, 3, none⟩ = some (.int .i64 c.m) ∧ W.cell? ⟨w.heap.size, 4, none⟩ = some (.int .i64 c.s) ∧ W.cell? ⟨w.heap.size, 5, none⟩ = some (.int .i64 c.sh) ∧ W.cell? ⟨w.heap.size, 6, none⟩ = some (.int .i64 c.p0) ∧ W.cell? ⟨w.heap.size, 7, none⟩ = some (.int .i64 c.p1) ∧ W.cell? ⟨w.heap.size, 8, none⟩ = some (.int .i64 c.p2) ∧ W.cell? ⟨w.heap.size, 9, none⟩ = some (.int .i64 c.cy) ∧ W.cell? ⟨w.heap.size, 10, none⟩ = some (.int .i64 c.ex) ∧ W.cell? ⟨w.heap.size, 11, none⟩ = some (.int .i64 c.fi) ∧ W.cell? ⟨w.heap.size, 12, none⟩ = some (.int .i64 c.la) ∧ W.cell? ⟨w.heap.size, 13, none⟩ = some (.int .i64 c.po) ∧ W.cell? ⟨g, k * 3, none⟩ = some (.int .i64 L) ∧ W.cell? ⟨g, k * 3 + 1, none⟩ = some (.int .i64 y') ∧ W.cell? ⟨g, k * 3 + 2, none⟩ = some (.int .i64 i'))
          ((refine H.out _ ?_; repeat (first | (with_reducible assumption) | (with_reducible exact Below.refl _ _) | (with_reducible refine bdrewN ?_ _) | (with_reducible refine Below.drew ?_) | (with_reducible refine balloc ?_ _) | ((with_reducible refine bset ?_ ?_ _ _); rotate_left; first | omega | (simp <;> omega)))))
          (first | (go_at_call 10; (with_reducible refine (nk _ (T.kept (by repeat (first | (with_reducible assumption) | (with_reducible exact Below.refl _ _) | (with_reducible refine bdrewN ?_ _) | (with_reducible refine Below.drew ?_) | (with_reducible refine balloc ?_ _))))).mono ?_); rintro e w9 ⟨rfl, hb⟩; have hB := bthen (w := W8) (by repeat (first | (with_reducible assumption) | (with_reducible exact Below.refl _ _) | (with_reducible refine bdrewN ?_ _) | (with_reducible refine Below.drew ?_) | (with_reducible refine balloc ?_ _))) hb; have hz : W8.heap.size ≤ w9.heap.size := hB.size; (first | (have K := Tri.kept (by with_reducible assumption) hb) | (have K := Tri.kept (by with_reducible exact Tri.new _ _ _ _ _) hb) | (have K := Tri.kept (by with_reducible exact (Tri.new _ _ _ _ _).drewN _) hb) | (have K := Tri.kept (by with_reducible exact (Tri.new _ _ _ _ _).drew) hb) | skip); (try simp only [World.size_alloc, World.heap_drewN, World.size_drew] at K); (try obtain ⟨kz, kc0, kc1, kc2, kf0, kf1, kf2⟩ := id K)))
        all_goals go_wp2_with fail
        all_goals go_meet
        all_goals
          first
            | ((with_reducible refine umid_set K hB ?_); first | omega | (simp <;> omega))
            | (with_reducible exact umid_new hB)
      case rest =>
        obtain ⟨b14, rfl, rfl, V14, _, hB⟩ := hcut
        have V9 := V.kept hB
        have B9 := bthen B8 hB
        obtain ⟨_, v0, v1, v2, fv0, fv1, fv2⟩ := id V9
        obtain ⟨_, x0, x1, x2, fx0, fx1, fx2⟩ := id V14
        go_wp2
        go_roundw
        case rel => exact ⟨k + 1, by omega, by go_num, B9⟩
        case measure => simp [intOf]; omega
    · have kN' : k = N := by omega
      subst kN'
      have dk : decide ((k : Int) < (k : Int)) = false := decide_eq_false (by omega)
      have RR := R2
      have rN := RR.c k _ (ulist_at c L (f, 1) (k + 1) k (by omega))
      rw [at0.out] at rN
      obtain ⟨rN0, rN1, rN2⟩ := rN
      have kk2 : (k : Int) < (k : Int) + 1 := by omega
      have kk3 : IntKind.i64.wrap ((k : Int) + 1 - 1) = (k : Int) := by rw [show (k : Int) + 1 - 1 = k by omega]; exact IntWalk.i64_in _ (by omega)
      clear at0 qn
      obtain ⟨_, c0, c1, c2, c3, c4, c5, c6, c7, c8, c9, c10, c11, c12, c13⟩ := id C
      go_upto_region 19 with fail
      have Z := Tri.new wr (.int .i64 L) (.int .i64 t) (.int .i64 m) 33
      replace C := C.alloc (.cells #[.int .i64 L, .int .i64 t, .int .i64 m] 33)
      replace T := T.alloc (.cells #[.int .i64 L, .int .i64 t, .int .i64 m] 33)
      replace B := balloc B (.cells #[.int .i64 L, .int .i64 t, .int .i64 m] 33)
      clear rN0 rN1 rN2
      clear c0 c1 c2 c3 c4 c5 c6 c7 c8 c9 c10 c11 c12 c13 
      obtain ⟨_, c0, c1, c2, c3, c4, c5, c6, c7, c8, c9, c10, c11, c12, c13⟩ := id C
      obtain ⟨_, z0, z1, z2, fz0, fz1, fz2⟩ := id Z
      go_wp2_with fail
      refine (qc _ T).mono ?_
      rintro e w7 ⟨rfl, hb⟩
      replace Z := Z.kept hb
      replace B := bthen B hb
      clear z0 z1 z2 fz0 fz1 fz2 hb
      clear c0 c1 c2 c3 c4 c5 c6 c7 c8 c9 c10 c11 c12 c13 
      obtain ⟨_, z0, z1, z2, fz0, fz1, fz2⟩ := id Z
      go_wp2
      go_ret
      exact ⟨by simp, B⟩

theorem findall_walk (c : CalZ) (L f t : Int) (w : World) (wf : CalWf c) (wL : (Lit.int .i64 L).wf = true) (w1 : (Lit.int .i64 f).wf = true) (w2 : (Lit.int .i64 t).wf = true) (tb : FTab w) :
    Calls Tryd.prog 3 #[.agg #[.string c.nm, .int .i64 c.k, .int .i64 c.d, .int .i64 c.m, .int .i64 c.s, .int .i64 c.sh, .int .i64 c.p0, .int .i64 c.p1, .int .i64 c.p2, .int .i64 c.cy, .int .i64 c.ex, .int .i64 c.fi, .int .i64 c.la, .int .i64 c.po], .int .i64 L, .int .i64 f, .int .i64 t] w fun e w' => e = .returned (.bool true) ∧ Below w.heap.size w w' := by
  by_cases h : CalOk c ∧ LevOk L
  · by_cases q : f < c.fi ∨ c.la < t ∨ t < f
    · exact all_out c L f t w tb wf.1 h.1 h.2 q
    · have sf : Served c f := ⟨by omega, by omega⟩
      have st : Served c t := ⟨by omega, by omega⟩
      have t1 := served_told h.1 sf
      have t2 := served_told h.1 st
      have u1 := ucount_bd (L := L) (y := f) h.1.1 (by omega) (by omega)
      have u2 := ucount_bd (L := L) (y := t) h.1.1 (by omega) (by omega)
      obtain ⟨N, way⟩ := way_ex (c := c) (L := L) (y0 := f) (i0 := 1) (y := t) (n := ucount c t L) ⟨h.1, h.2, st, u2.1, Int.le_refl _⟩ ⟨h.1, h.2, sf, Int.le_refl _, u1.1⟩ (by
        unfold Till
        simp only
        omega)
      exact all_main c L f t N w tb wf.1 way
  · exact all_no c L f t w tb wf.1 h

end Go.Proofs.YtaiodjgpojfekaaDoor.Dl
