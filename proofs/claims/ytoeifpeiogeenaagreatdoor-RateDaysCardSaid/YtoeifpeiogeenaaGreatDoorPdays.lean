/- RateDays' walk. -/
import Derived.Test.YtoeifpeiogeenaaGreatDoorPlive
namespace Go.Proofs.YtoeifpeiogeenaaGreatDoor.Pl
set_option linter.unusedSimpArgs false
set_option linter.unusedVariables false
open Go.RowKit Go.Proofs.YtoeifpeiogeenaaGreatDoor.Bn Go.Proofs.YtoeifpeiogeenaaGreatDoor.Bx Go.Proofs.YtoeifpeiogeenaaGreatDoor.Cp Go.Proofs.YtoeifpeiogeenaaGreatDoor.Am Go.Proofs.YtoeifpeiogeenaaGreatDoor.Fp Go.Proofs.YtoeifpeiogeenaaGreatDoor.Ap Go.Proofs.YtoeifpeiogeenaaGreatDoor.Cm Go.Proofs.YtoeifpeiogeenaaGreatDoor.Em Go.Proofs.YtoeifpeiogeenaaGreatDoor.Ep Go.Proofs.YtoeifpeiogeenaaGreatDoor.Rk Go.Proofs.YtoeifpeiogeenaaGreatDoor.Hp Go.Proofs.YtoeifpeiogeenaaGreatDoor.Ip Go.Proofs.YtoeifpeiogeenaaGreatDoor.Jp Go.Proofs.YtoeifpeiogeenaaGreatDoor.Dp Go.Proofs.YtoeifpeiogeenaaGreatDoor.Pp
open Go.Proofs.YtoeifpeiogeenaaGreatDoor.Sm (IsSplit sm)

set_option maxHeartbeats 8000000

set_option maxRecDepth 100000 in
theorem rdays_er (c : CalZ) (L a b er : Int) (w : World) (tb : FTab w) (hm : c.nm.size ≤ maxLen) (R : MeetsA c L a b er) (ne : er ≠ 0) :
    Calls Tryz.prog 11 #[.agg #[.string c.nm, .int .i64 c.k, .int .i64 c.d, .int .i64 c.m, .int .i64 c.s, .int .i64 c.sh, .int .i64 c.p0, .int .i64 c.p1, .int .i64 c.p2, .int .i64 c.cy, .int .i64 c.ex, .int .i64 c.fi, .int .i64 c.la, .int .i64 c.po], .int .i64 L, .agg #[.int .i64 a, .int .i64 b]] w fun e w' => e = .returned (.bool true) ∧ Below w.heap.size w w' := by
  have C := CalIn.new w c 24
  have S := Go.Proofs.YtoeifpeiogeenaaGreatDoor.Pr.Two.new (w.alloc (.cells #[.string c.nm, .int .i64 c.k, .int .i64 c.d, .int .i64 c.m, .int .i64 c.s, .int .i64 c.sh, .int .i64 c.p0, .int .i64 c.p1, .int .i64 c.p2, .int .i64 c.cy, .int .i64 c.ex, .int .i64 c.fi, .int .i64 c.la, .int .i64 c.po] 24)) (.int .i64 a) (.int .i64 b) 43
  rw [World.size_alloc] at S
  replace C := C.alloc (.cells #[.int .i64 a, .int .i64 b] 43)
  have B := balloc (balloc (Below.refl _ w) (.cells #[.string c.nm, .int .i64 c.k, .int .i64 c.d, .int .i64 c.m, .int .i64 c.s, .int .i64 c.sh, .int .i64 c.p0, .int .i64 c.p1, .int .i64 c.p2, .int .i64 c.cy, .int .i64 c.ex, .int .i64 c.fi, .int .i64 c.la, .int .i64 c.po] 24)) (.cells #[.int .i64 a, .int .i64 b] 43)
  have T := (tb.alloc (.cells #[.string c.nm, .int .i64 c.k, .int .i64 c.d, .int .i64 c.m, .int .i64 c.s, .int .i64 c.sh, .int .i64 c.p0, .int .i64 c.p1, .int .i64 c.p2, .int .i64 c.cy, .int .i64 c.ex, .int .i64 c.fi, .int .i64 c.la, .int .i64 c.po] 24)).alloc (.cells #[.int .i64 a, .int .i64 b] 43)
  have qm := fun w T => Meets_er c L a b er w R hm T
  have qd := fun w T => Days_er c L a b er w R ne hm T
  have n1 : (er != 0) = true := bne_iff_ne.2 ne
  have n2 : (er != er) = false := by simp
  clear R ne
  go_enter Tryz.func11, Tryz.ntmps11
  go_upto_region 1 with fail
  generalize (w.alloc (.cells #[.string c.nm, .int .i64 c.k, .int .i64 c.d, .int .i64 c.m, .int .i64 c.s, .int .i64 c.sh, .int .i64 c.p0, .int .i64 c.p1, .int .i64 c.p2, .int .i64 c.cy, .int .i64 c.ex, .int .i64 c.fi, .int .i64 c.la, .int .i64 c.po] 24)).alloc (.cells #[.int .i64 a, .int .i64 b] 43) = W0 at *
  obtain ⟨_, c0, c1, c2, c3, c4, c5, c6, c7, c8, c9, c10, c11, c12, c13⟩ := id C
  obtain ⟨_, s0, s1, fs0, fs1⟩ := id S
  go_wp2_with fail
  refine (rlive_ok _ T).mono ?_
  rintro e w1 ⟨rfl, hb⟩
  replace C := C.kept hb
  replace B := bthen B hb
  replace T := T.kept hb
  replace S := S.kept hb
  clear hb c0 c1 c2 c3 c4 c5 c6 c7 c8 c9 c10 c11 c12 c13 s0 s1 fs0 fs1
  obtain ⟨_, c0, c1, c2, c3, c4, c5, c6, c7, c8, c9, c10, c11, c12, c13⟩ := id C
  obtain ⟨_, s0, s1, fs0, fs1⟩ := id S
  go_wp2_with fail
  refine (rbrief_any c a b _).mono ?_
  rintro e w2 ⟨r, rfl, hb, hr⟩
  replace C := C.kept hb
  replace B := bthen B hb
  replace T := T.kept hb
  replace S := S.kept hb
  clear hb c0 c1 c2 c3 c4 c5 c6 c7 c8 c9 c10 c11 c12 c13 s0 s1 fs0 fs1
  obtain ⟨_, c0, c1, c2, c3, c4, c5, c6, c7, c8, c9, c10, c11, c12, c13⟩ := id C
  obtain ⟨_, s0, s1, fs0, fs1⟩ := id S
  cases r
  · go_wp2
    go_ret
    exact ⟨by simp, B⟩
  clear hr
  go_wp2_with fail
  refine (qd _ T).mono ?_
  rintro e w3 ⟨rfl, hb⟩
  replace C := C.kept hb
  replace B := bthen B hb
  replace T := T.kept hb
  replace S := S.kept hb
  clear hb c0 c1 c2 c3 c4 c5 c6 c7 c8 c9 c10 c11 c12 c13 s0 s1 fs0 fs1
  obtain ⟨_, c0, c1, c2, c3, c4, c5, c6, c7, c8, c9, c10, c11, c12, c13⟩ := id C
  obtain ⟨_, s0, s1, fs0, fs1⟩ := id S
  go_wp2_with fail
  refine (qm _ T).mono ?_
  rintro e w4 ⟨rfl, hb⟩
  replace C := C.kept hb
  replace B := bthen B hb
  replace T := T.kept hb
  replace S := S.kept hb
  clear hb c0 c1 c2 c3 c4 c5 c6 c7 c8 c9 c10 c11 c12 c13 s0 s1 fs0 fs1
  obtain ⟨_, c0, c1, c2, c3, c4, c5, c6, c7, c8, c9, c10, c11, c12, c13⟩ := id C
  obtain ⟨_, s0, s1, fs0, fs1⟩ := id S
  go_wp2
  go_ret
  exact ⟨by simp, B⟩

set_option maxRecDepth 100000 in
theorem rdays_ok (c : CalZ) (L a b y0 i0 y n : Int) (N M : Nat) (w : World) (tb : FTab w) (hm : c.nm.size ≤ maxLen) (h : Cut c L a b y0 i0 y n N) (hM : N + 1 = M) :
    Calls Tryz.prog 11 #[.agg #[.string c.nm, .int .i64 c.k, .int .i64 c.d, .int .i64 c.m, .int .i64 c.s, .int .i64 c.sh, .int .i64 c.p0, .int .i64 c.p1, .int .i64 c.p2, .int .i64 c.cy, .int .i64 c.ex, .int .i64 c.fi, .int .i64 c.la, .int .i64 c.po], .int .i64 L, .agg #[.int .i64 a, .int .i64 b]] w fun e w' => e = .returned (.bool true) ∧ Below w.heap.size w w' := by
  have C := CalIn.new w c 24
  have S := Go.Proofs.YtoeifpeiogeenaaGreatDoor.Pr.Two.new (w.alloc (.cells #[.string c.nm, .int .i64 c.k, .int .i64 c.d, .int .i64 c.m, .int .i64 c.s, .int .i64 c.sh, .int .i64 c.p0, .int .i64 c.p1, .int .i64 c.p2, .int .i64 c.cy, .int .i64 c.ex, .int .i64 c.fi, .int .i64 c.la, .int .i64 c.po] 24)) (.int .i64 a) (.int .i64 b) 43
  rw [World.size_alloc] at S
  replace C := C.alloc (.cells #[.int .i64 a, .int .i64 b] 43)
  have B := balloc (balloc (Below.refl _ w) (.cells #[.string c.nm, .int .i64 c.k, .int .i64 c.d, .int .i64 c.m, .int .i64 c.s, .int .i64 c.sh, .int .i64 c.p0, .int .i64 c.p1, .int .i64 c.p2, .int .i64 c.cy, .int .i64 c.ex, .int .i64 c.fi, .int .i64 c.la, .int .i64 c.po] 24)) (.cells #[.int .i64 a, .int .i64 b] 43)
  have T := (tb.alloc (.cells #[.string c.nm, .int .i64 c.k, .int .i64 c.d, .int .i64 c.m, .int .i64 c.s, .int .i64 c.sh, .int .i64 c.p0, .int .i64 c.p1, .int .i64 c.p2, .int .i64 c.cy, .int .i64 c.ex, .int .i64 c.fi, .int .i64 c.la, .int .i64 c.po] 24)).alloc (.cells #[.int .i64 a, .int .i64 b] 43)
  have qm := fun w T => Meets_ok c L a b y0 i0 y n N w h.way h.da h.db h.ab hm T
  have qd := fun (M1 : M ≤ 1000000) w T => Days_ok c L a b y0 i0 y n N M w h hM M1 hm T
  obtain ⟨pd, hpd⟩ : ∃ pd, pday c L a b (y0, i0) = pd := ⟨_, rfl⟩
  obtain ⟨ul, hul⟩ : ∃ ul, ulist c L (y0, i0) M = ul := ⟨_, rfl⟩
  have HQ : Hid (∀ k : Nat, k < M → ∃ p q f t d : Int, ul[k]? = some (L, p, q) ∧ pd k = d ∧ 1 ≤ d ∧ d ≤ t - f + 1 ∧ (0 < k → k + 1 < M → d = t - f + 1) ∧ 0 ≤ f ∧ f ≤ t ∧ t ≤ 3068036 ∧ sm pd (k + 1) = sm pd k + d ∧ 0 ≤ sm pd k ∧ sm pd k ≤ b - a + 1 ∧
      ∀ w, FTab w → Calls Tryz.prog 21 #[.agg #[.string c.nm, .int .i64 c.k, .int .i64 c.d, .int .i64 c.m, .int .i64 c.s, .int .i64 c.sh, .int .i64 c.p0, .int .i64 c.p1, .int .i64 c.p2, .int .i64 c.cy, .int .i64 c.ex, .int .i64 c.fi, .int .i64 c.la, .int .i64 c.po], .agg #[.int .i64 L, .int .i64 p, .int .i64 q]] w fun e w' => e = .returned (.tuple #[.agg #[.int .i64 f, .int .i64 t], .int .i64 0]) ∧ Below w.heap.size w w') :=
    Lib.hid (fun k hk => by
      obtain ⟨p, q, f, t, d, _, h1, S1, h2, h3, h4, h5, h6, h7, h8, h9⟩ := h.unit k (by omega)
      have up := h.upto k (by omega)
      subst hpd hul hM
      exact ⟨p, q, f, t, d, h1, h2.symm, h3, h4, fun x1 x2 => h5 x1 (by omega), h6, h7, h8, h9, up.1, up.2, fun w T => Span_any c L p q f t 0 w S1 hm T⟩)
  have HS : Hid (sm pd M = b - a + 1) := Lib.hid (by rw [← hpd, ← hM]; exact h.sum)
  have bd := h.bd
  have ab := h.ab
  have ulen : ul.length = M := by rw [← hul, ulist_len]
  rw [hpd] at qd
  rw [hM, hul] at qm
  have M0 : 1 ≤ M := by omega
  have bd2 : 0 ≤ a ∧ b ≤ 3068036 ∧ (M : Int) ≤ b - a + 1 := by omega
  clear h bd hpd hul
  go_enter Tryz.func11, Tryz.ntmps11
  go_upto_region 1 with fail
  generalize (w.alloc (.cells #[.string c.nm, .int .i64 c.k, .int .i64 c.d, .int .i64 c.m, .int .i64 c.s, .int .i64 c.sh, .int .i64 c.p0, .int .i64 c.p1, .int .i64 c.p2, .int .i64 c.cy, .int .i64 c.ex, .int .i64 c.fi, .int .i64 c.la, .int .i64 c.po] 24)).alloc (.cells #[.int .i64 a, .int .i64 b] 43) = W0 at *
  obtain ⟨_, c0, c1, c2, c3, c4, c5, c6, c7, c8, c9, c10, c11, c12, c13⟩ := id C
  obtain ⟨_, s0, s1, fs0, fs1⟩ := id S
  go_wp2_with fail
  refine (rlive_ok _ T).mono ?_
  rintro e w1 ⟨rfl, hb⟩
  replace C := C.kept hb
  replace B := bthen B hb
  replace T := T.kept hb
  replace S := S.kept hb
  clear hb c0 c1 c2 c3 c4 c5 c6 c7 c8 c9 c10 c11 c12 c13 s0 s1 fs0 fs1
  obtain ⟨_, c0, c1, c2, c3, c4, c5, c6, c7, c8, c9, c10, c11, c12, c13⟩ := id C
  obtain ⟨_, s0, s1, fs0, fs1⟩ := id S
  go_wp2_with fail
  refine (rbrief_any c a b _).mono ?_
  rintro e w2 ⟨r, rfl, hb, hr⟩
  replace C := C.kept hb
  replace B := bthen B hb
  replace T := T.kept hb
  replace S := S.kept hb
  clear hb c0 c1 c2 c3 c4 c5 c6 c7 c8 c9 c10 c11 c12 c13 s0 s1 fs0 fs1
  obtain ⟨_, c0, c1, c2, c3, c4, c5, c6, c7, c8, c9, c10, c11, c12, c13⟩ := id C
  obtain ⟨_, s0, s1, fs0, fs1⟩ := id S
  cases r
  · go_wp2
    go_ret
    exact ⟨by simp, B⟩
  have br := (hr rfl).2 ab bd2.1 bd2.2.1
  have M1 : M ≤ 1501 := by omega
  clear hr hM
  go_wp2_with fail
  refine (qd (by omega) _ T).mono ?_
  rintro e w3 ⟨gd, rfl, D, hg, hb⟩
  replace C := C.kept hb
  replace B := bthen B hb
  replace T := T.kept hb
  replace S := S.kept hb
  clear hb c0 c1 c2 c3 c4 c5 c6 c7 c8 c9 c10 c11 c12 c13 s0 s1 fs0 fs1
  obtain ⟨_, c0, c1, c2, c3, c4, c5, c6, c7, c8, c9, c10, c11, c12, c13⟩ := id C
  obtain ⟨_, s0, s1, fs0, fs1⟩ := id S
  obtain ⟨_, _, _⟩ := id D
  clear hg
  go_wp2_with fail
  refine (qm _ T).mono ?_
  rintro e w4 ⟨g, cap, rfl, R, hg, hb, hcap⟩
  replace C := C.kept hb
  replace B := bthen B hb
  replace T := T.kept hb
  replace S := S.kept hb
  replace D := D.kept hb
  clear hb c0 c1 c2 c3 c4 c5 c6 c7 c8 c9 c10 c11 c12 c13 s0 s1 fs0 fs1
  obtain ⟨_, c0, c1, c2, c3, c4, c5, c6, c7, c8, c9, c10, c11, c12, c13⟩ := id C
  obtain ⟨_, s0, s1, fs0, fs1⟩ := id S
  obtain ⟨_, _, _⟩ := id D
  rw [ulen]
  clear hg hcap qd qm s0 s1 fs0 fs1
  clear c0 c1 c2 c3 c4 c5 c6 c7 c8 c9 c10 c11 c12 c13 
  have M2 : (M : Int) ≤ 1501 := by omega
  have M3 : (1 : Int) ≤ (M : Int) := by omega
  go_wp2
  go_loopw [11, 52] (fun Z Y wr => ∃ k : Nat, k ≤ M ∧ Y = .int .i64 (k : Int) ∧ Z = .int .i64 (sm pd k) ∧ Below w4.heap.size w4 wr) (fun _ Y _ => M - (intOf Y).toNat)
  case atStart => exact ⟨0, by omega, rfl, rfl, Below.refl _ _⟩
  case round =>
    obtain ⟨k, kM, rfl, rfl, B2⟩ := hrel
    have C2 := C.kept B2
    have T2 := T.kept B2
    have R2 := R.kept B2
    have D2 := D.kept B2
    by_cases hlt : k < M
    · obtain ⟨p, q, f, t, d, hu, hd, d1, d2, d3, f0, ft, t1, se, s0', s1', cs⟩ := HQ.out k hlt
      obtain ⟨rk0, rk1, rk2⟩ := R2.c k _ hu
      simp only at rk0 rk1 rk2
      obtain ⟨z, hz⟩ : ∃ z, sm pd k = z := ⟨_, rfl⟩
      rw [hz] at se s0' s1'
      have SE := Lib.hid se
      have kk : (k : Int) < (M : Int) := by omega
      have B3 := balloc B2 (.cells #[.int .i64 L, .int .i64 p, .int .i64 q] 26)
      have V := Tri.new wr (.int .i64 L) (.int .i64 p) (.int .i64 q) 26
      rw [hz]
      clear se hz
      go_upto_region 17 with fail
      clear rk0 rk1 rk2 C2 T2 R2 D2
      generalize wr.alloc (.cells #[.int .i64 L, .int .i64 p, .int .i64 q] 26) = W8 at *
      have C3 := C.kept B3
      have T3 := T.kept B3
      obtain ⟨_, v0, v1, v2, fv0, fv1, fv2⟩ := id V
      obtain ⟨_, c0, c1, c2, c3, c4, c5, c6, c7, c8, c9, c10, c11, c12, c13⟩ := id C3
      go_wp2_with fail
      refine (cs _ T3).mono ?_
      rintro e w9 ⟨rfl, hb⟩
      have B9 := balloc (bthen B3 hb) (.cells #[.int .i64 f, .int .i64 t] 43)
      have K := Go.Proofs.YtoeifpeiogeenaaGreatDoor.Pr.Two.new w9 (.int .i64 f) (.int .i64 t) 43
      go_upto_region 18 with fail
      clear hb C3 T3 B3 V
      clear c0 c1 c2 c3 c4 c5 c6 c7 c8 c9 c10 c11 c12 c13 v0 v1 v2 fv0 fv1 fv2
      generalize w9.alloc (.cells #[.int .i64 f, .int .i64 t] 43) = W10 at *
      have D9 := D.kept B9
      have dc := D9.c k hlt
      rw [hd] at dc
      obtain ⟨_, k0, k1, fk0, fk1⟩ := id K
      clear D9 K
      have O : (decide ((0 : Int) < (k : Int)) = false ∧ decide (0 < k) = false ∧ ¬ 0 < k) ∨ (decide ((0 : Int) < (k : Int)) = true ∧ decide (0 < k) = true ∧ 0 < k ∧ decide ((k : Int) < (M : Int) - 1) = false ∧ ¬ (k : Int) < (M : Int) - 1) ∨ (decide ((0 : Int) < (k : Int)) = true ∧ decide (0 < k) = true ∧ 0 < k ∧ decide ((k : Int) < (M : Int) - 1) = true ∧ (k : Int) < (M : Int) - 1 ∧ d = t - f + 1) := by
        by_cases q1 : 0 < k
        · by_cases q2 : k + 1 < M
          · exact .inr (.inr ⟨decide_eq_true (by omega), decide_eq_true q1, q1, decide_eq_true (by omega), by omega, d3 q1 q2⟩)
          · exact .inr (.inl ⟨decide_eq_true (by omega), decide_eq_true q1, q1, decide_eq_false (by omega), by omega⟩)
        · exact .inl ⟨decide_eq_false (by omega), decide_eq_false q1, q1⟩
      clear d3
      rcases O with ⟨q1, q2, q3⟩ | ⟨q1, q2, q3, q4, q5⟩ | ⟨q1, q2, q3, q4, q5, q6⟩
      · go_wp2
        go_roundw
        case rel => exact ⟨k + 1, by omega, by go_num, by rw [SE.out], B9⟩
        case measure => simp [intOf]; omega
      · go_wp2
        go_roundw
        case rel => exact ⟨k + 1, by omega, by go_num, by rw [SE.out], B9⟩
        case measure => simp [intOf]; omega
      · subst q6
        go_wp2
        go_roundw
        case rel => exact ⟨k + 1, by omega, by go_num, by rw [SE.out], B9⟩
        case measure => simp [intOf]; omega
    · obtain rfl : k = M := by omega
      have kk : decide ((k : Int) < (k : Int)) = false := decide_eq_false (by omega)
      have S2 := S.kept B2
      obtain ⟨_, s0, s1, fs0, fs1⟩ := id S2
      rw [HS.out]
      go_wp2
      go_ret
      exact ⟨by simp, bthen B B2⟩

theorem rdays_walk (c : CalZ) (L a b : Int) (w : World) (wf : CalWf c) (wL : (Lit.int .i64 L).wf = true) (w1 : (Lit.int .i64 a).wf = true) (w2 : (Lit.int .i64 b).wf = true) (tb : FTab w) :
    Calls Tryz.prog 11 #[.agg #[.string c.nm, .int .i64 c.k, .int .i64 c.d, .int .i64 c.m, .int .i64 c.s, .int .i64 c.sh, .int .i64 c.p0, .int .i64 c.p1, .int .i64 c.p2, .int .i64 c.cy, .int .i64 c.ex, .int .i64 c.fi, .int .i64 c.la, .int .i64 c.po], .int .i64 L, .agg #[.int .i64 a, .int .i64 b]] w fun e w' => e = .returned (.bool true) ∧ Below w.heap.size w w' := by
  rcases cut_ex c L a b with ⟨er, ne, R⟩ | ⟨y0, i0, y, n, N, h⟩
  · exact rdays_er c L a b er w tb wf.1 R ne
  · exact rdays_ok c L a b y0 i0 y n N (N + 1) w tb wf.1 h rfl

end Go.Proofs.YtoeifpeiogeenaaGreatDoor.Pl
