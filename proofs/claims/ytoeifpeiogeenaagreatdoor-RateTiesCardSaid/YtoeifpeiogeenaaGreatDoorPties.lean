/- RateTies' walk. -/
import Derived.Test.YtoeifpeiogeenaaGreatDoorPlive
namespace Go.Proofs.YtoeifpeiogeenaaGreatDoor.Pl
set_option linter.unusedSimpArgs false
set_option linter.unusedVariables false
open Go.RowKit Go.Proofs.YtoeifpeiogeenaaGreatDoor.Bn Go.Proofs.YtoeifpeiogeenaaGreatDoor.Bx Go.Proofs.YtoeifpeiogeenaaGreatDoor.Cp Go.Proofs.YtoeifpeiogeenaaGreatDoor.Am Go.Proofs.YtoeifpeiogeenaaGreatDoor.Fp Go.Proofs.YtoeifpeiogeenaaGreatDoor.Ap Go.Proofs.YtoeifpeiogeenaaGreatDoor.Cm Go.Proofs.YtoeifpeiogeenaaGreatDoor.Em Go.Proofs.YtoeifpeiogeenaaGreatDoor.Ep Go.Proofs.YtoeifpeiogeenaaGreatDoor.Rk Go.Proofs.YtoeifpeiogeenaaGreatDoor.Hp Go.Proofs.YtoeifpeiogeenaaGreatDoor.Ip Go.Proofs.YtoeifpeiogeenaaGreatDoor.Jp Go.Proofs.YtoeifpeiogeenaaGreatDoor.Dp Go.Proofs.YtoeifpeiogeenaaGreatDoor.Pp
open Go.Proofs.YtoeifpeiogeenaaGreatDoor.Sm (IsSplit sm)
open Go.Proofs.YtoeifpeiogeenaaGreatDoor.Vm (Fit1)

set_option maxHeartbeats 8000000

theorem split_even {A : Int} {w o : Nat → Int} {M i j : Nat} (h : IsSplit A w M o) (hij : i < j) (hj : j < M) (e : w i = w j) : o i = o j ∨ o i - 1 = o j := by
  obtain ⟨C, hC, oe⟩ := h
  have q : Go.Proofs.YtoeifpeiogeenaaGreatDoor.Sm.quo A w M i = Go.Proofs.YtoeifpeiogeenaaGreatDoor.Sm.quo A w M j := by unfold Go.Proofs.YtoeifpeiogeenaaGreatDoor.Sm.quo; rw [e]
  have r : Go.Proofs.YtoeifpeiogeenaaGreatDoor.Sm.rem A w M i = Go.Proofs.YtoeifpeiogeenaaGreatDoor.Sm.rem A w M j := by unfold Go.Proofs.YtoeifpeiogeenaaGreatDoor.Sm.rem; rw [e]
  rw [oe i (by omega), oe j hj, q]
  cases ci : C i <;> cases cj : C j <;> simp [Go.Proofs.YtoeifpeiogeenaaGreatDoor.Sm.one] <;> try omega
  have := hC.2 j i hj (by omega) cj ci
  unfold Go.Proofs.YtoeifpeiogeenaaGreatDoor.Sm.Ahead at this
  omega

set_option maxRecDepth 100000 in
theorem rties_er (c : CalZ) (L A a b er : Int) (w : World) (tb : FTab w) (hm : c.nm.size ≤ maxLen) (R : MeetsA c L a b er) (ne : er ≠ 0) :
    Calls Tryz.prog 10 #[.agg #[.string c.nm, .int .i64 c.k, .int .i64 c.d, .int .i64 c.m, .int .i64 c.s, .int .i64 c.sh, .int .i64 c.p0, .int .i64 c.p1, .int .i64 c.p2, .int .i64 c.cy, .int .i64 c.ex, .int .i64 c.fi, .int .i64 c.la, .int .i64 c.po], .int .i64 L, .int .i64 A, .agg #[.int .i64 a, .int .i64 b]] w fun e w' => e = .returned (.bool true) ∧ Below w.heap.size w w' := by
  have C := CalIn.new w c 24
  have S := Go.Proofs.YtoeifpeiogeenaaGreatDoor.Pr.Two.new (w.alloc (.cells #[.string c.nm, .int .i64 c.k, .int .i64 c.d, .int .i64 c.m, .int .i64 c.s, .int .i64 c.sh, .int .i64 c.p0, .int .i64 c.p1, .int .i64 c.p2, .int .i64 c.cy, .int .i64 c.ex, .int .i64 c.fi, .int .i64 c.la, .int .i64 c.po] 24)) (.int .i64 a) (.int .i64 b) 43
  rw [World.size_alloc] at S
  replace C := C.alloc (.cells #[.int .i64 a, .int .i64 b] 43)
  have B := balloc (balloc (Below.refl _ w) (.cells #[.string c.nm, .int .i64 c.k, .int .i64 c.d, .int .i64 c.m, .int .i64 c.s, .int .i64 c.sh, .int .i64 c.p0, .int .i64 c.p1, .int .i64 c.p2, .int .i64 c.cy, .int .i64 c.ex, .int .i64 c.fi, .int .i64 c.la, .int .i64 c.po] 24)) (.cells #[.int .i64 a, .int .i64 b] 43)
  have T := (tb.alloc (.cells #[.string c.nm, .int .i64 c.k, .int .i64 c.d, .int .i64 c.m, .int .i64 c.s, .int .i64 c.sh, .int .i64 c.p0, .int .i64 c.p1, .int .i64 c.p2, .int .i64 c.cy, .int .i64 c.ex, .int .i64 c.fi, .int .i64 c.la, .int .i64 c.po] 24)).alloc (.cells #[.int .i64 a, .int .i64 b] 43)
  have qs := fun w T => Split_er c L A a b er w R ne hm T
  have qd := fun w T => Days_er c L a b er w R ne hm T
  have n1 : (er != 0) = true := bne_iff_ne.2 ne
  clear R ne
  go_enter Tryz.func10, Tryz.ntmps10
  go_upto_region 1 with fail
  generalize (w.alloc (.cells #[.string c.nm, .int .i64 c.k, .int .i64 c.d, .int .i64 c.m, .int .i64 c.s, .int .i64 c.sh, .int .i64 c.p0, .int .i64 c.p1, .int .i64 c.p2, .int .i64 c.cy, .int .i64 c.ex, .int .i64 c.fi, .int .i64 c.la, .int .i64 c.po] 24)).alloc (.cells #[.int .i64 a, .int .i64 b] 43) = W0 at *
  obtain ⟨_, c0, c1, c2, c3, c4, c5, c6, c7, c8, c9, c10, c11, c12, c13⟩ := id C
  obtain ⟨_, s0, s1, fs0, fs1⟩ := id S
  go_wp2_with fail
  refine (rlive_ok _ T).mono ?_
  rintro e w1 ⟨rfl, hb⟩
  replace C := C.kept hb
  replace B := bthen B hb
  replace T := T.kept hb
  replace S := S.kept hb
  clear hb c0 c1 c2 c3 c4 c5 c6 c7 c8 c9 c10 c11 c12 c13 s0 s1 fs0 fs1
  obtain ⟨_, c0, c1, c2, c3, c4, c5, c6, c7, c8, c9, c10, c11, c12, c13⟩ := id C
  obtain ⟨_, s0, s1, fs0, fs1⟩ := id S
  go_wp2_with fail
  refine (rbrief_any c a b _).mono ?_
  rintro e w2 ⟨r, rfl, hb, hr⟩
  replace C := C.kept hb
  replace B := bthen B hb
  replace T := T.kept hb
  replace S := S.kept hb
  clear hb c0 c1 c2 c3 c4 c5 c6 c7 c8 c9 c10 c11 c12 c13 s0 s1 fs0 fs1
  obtain ⟨_, c0, c1, c2, c3, c4, c5, c6, c7, c8, c9, c10, c11, c12, c13⟩ := id C
  obtain ⟨_, s0, s1, fs0, fs1⟩ := id S
  cases r
  · go_wp2
    go_ret
    exact ⟨by simp, B⟩
  clear hr
  go_wp2_with fail
  refine (qs _ T).mono ?_
  rintro e w3 ⟨rfl, hb⟩
  replace C := C.kept hb
  replace B := bthen B hb
  replace T := T.kept hb
  replace S := S.kept hb
  clear hb c0 c1 c2 c3 c4 c5 c6 c7 c8 c9 c10 c11 c12 c13 s0 s1 fs0 fs1
  obtain ⟨_, c0, c1, c2, c3, c4, c5, c6, c7, c8, c9, c10, c11, c12, c13⟩ := id C
  obtain ⟨_, s0, s1, fs0, fs1⟩ := id S
  go_wp2_with fail
  refine (qd _ T).mono ?_
  rintro e w4 ⟨rfl, hb⟩
  replace C := C.kept hb
  replace B := bthen B hb
  replace T := T.kept hb
  replace S := S.kept hb
  clear hb c0 c1 c2 c3 c4 c5 c6 c7 c8 c9 c10 c11 c12 c13 s0 s1 fs0 fs1
  obtain ⟨_, c0, c1, c2, c3, c4, c5, c6, c7, c8, c9, c10, c11, c12, c13⟩ := id C
  obtain ⟨_, s0, s1, fs0, fs1⟩ := id S
  go_wp2
  go_ret
  exact ⟨by simp, B⟩

set_option maxRecDepth 100000 in
theorem rties_ok (c : CalZ) (L A a b y0 i0 y n : Int) (N M : Nat) (w : World) (tb : FTab w) (hm : c.nm.size ≤ maxLen) (fa : Fit1 A) (h : Cut c L a b y0 i0 y n N) (hM : N + 1 = M) :
    Calls Tryz.prog 10 #[.agg #[.string c.nm, .int .i64 c.k, .int .i64 c.d, .int .i64 c.m, .int .i64 c.s, .int .i64 c.sh, .int .i64 c.p0, .int .i64 c.p1, .int .i64 c.p2, .int .i64 c.cy, .int .i64 c.ex, .int .i64 c.fi, .int .i64 c.la, .int .i64 c.po], .int .i64 L, .int .i64 A, .agg #[.int .i64 a, .int .i64 b]] w fun e w' => e = .returned (.bool true) ∧ Below w.heap.size w w' := by
  have C := CalIn.new w c 24
  have S := Go.Proofs.YtoeifpeiogeenaaGreatDoor.Pr.Two.new (w.alloc (.cells #[.string c.nm, .int .i64 c.k, .int .i64 c.d, .int .i64 c.m, .int .i64 c.s, .int .i64 c.sh, .int .i64 c.p0, .int .i64 c.p1, .int .i64 c.p2, .int .i64 c.cy, .int .i64 c.ex, .int .i64 c.fi, .int .i64 c.la, .int .i64 c.po] 24)) (.int .i64 a) (.int .i64 b) 43
  rw [World.size_alloc] at S
  replace C := C.alloc (.cells #[.int .i64 a, .int .i64 b] 43)
  have B := balloc (balloc (Below.refl _ w) (.cells #[.string c.nm, .int .i64 c.k, .int .i64 c.d, .int .i64 c.m, .int .i64 c.s, .int .i64 c.sh, .int .i64 c.p0, .int .i64 c.p1, .int .i64 c.p2, .int .i64 c.cy, .int .i64 c.ex, .int .i64 c.fi, .int .i64 c.la, .int .i64 c.po] 24)) (.cells #[.int .i64 a, .int .i64 b] 43)
  have T := (tb.alloc (.cells #[.string c.nm, .int .i64 c.k, .int .i64 c.d, .int .i64 c.m, .int .i64 c.s, .int .i64 c.sh, .int .i64 c.p0, .int .i64 c.p1, .int .i64 c.p2, .int .i64 c.cy, .int .i64 c.ex, .int .i64 c.fi, .int .i64 c.la, .int .i64 c.po] 24)).alloc (.cells #[.int .i64 a, .int .i64 b] 43)
  have qs := fun (M1 : M ≤ 4096) w T => Split_ok c L A a b y0 i0 y n N M w h hM M1 fa hm T
  have qd := fun (M1 : M ≤ 4096) w T => Days_ok c L a b y0 i0 y n N M w h hM (by omega) hm T
  have bd := h.bd
  have ab := h.ab
  have HD : Hid (∀ k, k < M → 1 ≤ pday c L a b (y0, i0) k ∧ pday c L a b (y0, i0) k ≤ 3068037) := Lib.hid (fun k hk => by
    have d := h.day k (by omega)
    have g := h.way.long k (by omega)
    exact ⟨d.1, by omega⟩)
  have HF : Hid (∀ o, IsSplit A (pday c L a b (y0, i0)) M o → ∀ k, k < M → Fit1 (o k)) := Lib.hid (fun o ho => Go.Proofs.YtoeifpeiogeenaaGreatDoor.Sl.split_fit fa ⟨fun i hi => by have := (h.day i (by omega)).1; omega, by
    have s := h.sum
    rw [hM] at s
    unfold Go.Proofs.YtoeifpeiogeenaaGreatDoor.Sm.tot
    omega⟩ ho)
  have bd2 : 0 ≤ a ∧ b ≤ 3068036 ∧ (M : Int) ≤ b - a + 1 := by omega
  clear h bd hM
  go_enter Tryz.func10, Tryz.ntmps10
  go_upto_region 1 with fail
  generalize (w.alloc (.cells #[.string c.nm, .int .i64 c.k, .int .i64 c.d, .int .i64 c.m, .int .i64 c.s, .int .i64 c.sh, .int .i64 c.p0, .int .i64 c.p1, .int .i64 c.p2, .int .i64 c.cy, .int .i64 c.ex, .int .i64 c.fi, .int .i64 c.la, .int .i64 c.po] 24)).alloc (.cells #[.int .i64 a, .int .i64 b] 43) = W0 at *
  obtain ⟨_, c0, c1, c2, c3, c4, c5, c6, c7, c8, c9, c10, c11, c12, c13⟩ := id C
  obtain ⟨_, s0, s1, fs0, fs1⟩ := id S
  go_wp2_with fail
  refine (rlive_ok _ T).mono ?_
  rintro e w1 ⟨rfl, hb⟩
  replace C := C.kept hb
  replace B := bthen B hb
  replace T := T.kept hb
  replace S := S.kept hb
  clear hb c0 c1 c2 c3 c4 c5 c6 c7 c8 c9 c10 c11 c12 c13 s0 s1 fs0 fs1
  obtain ⟨_, c0, c1, c2, c3, c4, c5, c6, c7, c8, c9, c10, c11, c12, c13⟩ := id C
  obtain ⟨_, s0, s1, fs0, fs1⟩ := id S
  go_wp2_with fail
  refine (rbrief_any c a b _).mono ?_
  rintro e w2 ⟨r, rfl, hb, hr⟩
  replace C := C.kept hb
  replace B := bthen B hb
  replace T := T.kept hb
  replace S := S.kept hb
  clear hb c0 c1 c2 c3 c4 c5 c6 c7 c8 c9 c10 c11 c12 c13 s0 s1 fs0 fs1
  obtain ⟨_, c0, c1, c2, c3, c4, c5, c6, c7, c8, c9, c10, c11, c12, c13⟩ := id C
  obtain ⟨_, s0, s1, fs0, fs1⟩ := id S
  cases r
  · go_wp2
    go_ret
    exact ⟨by simp, B⟩
  have br := (hr rfl).2 ab bd2.1 bd2.2.1
  have M1 : M ≤ 1501 := by omega
  clear hr
  go_wp2_with fail
  refine (qs (by omega) _ T).mono ?_
  rintro e w3 ⟨gs, o, rfl, O, ho, hg, hb⟩
  replace C := C.kept hb
  replace B := bthen B hb
  replace T := T.kept hb
  replace S := S.kept hb
  clear hb c0 c1 c2 c3 c4 c5 c6 c7 c8 c9 c10 c11 c12 c13 s0 s1 fs0 fs1
  obtain ⟨_, c0, c1, c2, c3, c4, c5, c6, c7, c8, c9, c10, c11, c12, c13⟩ := id C
  obtain ⟨_, s0, s1, fs0, fs1⟩ := id S
  obtain ⟨_, _, _⟩ := id O
  clear hg
  have HO := Lib.hid ho
  have hf := HF.out o ho
  have HF2 := Lib.hid hf
  clear ho hf HF
  go_wp2_with fail
  refine (qd (by omega) _ T).mono ?_
  rintro e w4 ⟨gd, rfl, D, hg, hb⟩
  replace C := C.kept hb
  replace B := bthen B hb
  replace T := T.kept hb
  replace S := S.kept hb
  replace O := O.kept hb
  clear hb c0 c1 c2 c3 c4 c5 c6 c7 c8 c9 c10 c11 c12 c13 s0 s1 fs0 fs1
  obtain ⟨_, c0, c1, c2, c3, c4, c5, c6, c7, c8, c9, c10, c11, c12, c13⟩ := id C
  obtain ⟨_, s0, s1, fs0, fs1⟩ := id S
  obtain ⟨_, _, _⟩ := id O
  clear hg qs qd s0 s1 fs0 fs1
  clear c0 c1 c2 c3 c4 c5 c6 c7 c8 c9 c10 c11 c12 c13 
  have M2 : (M : Int) ≤ 1501 := by omega
  go_wp2
  go_loopw [52] (fun Y wr => ∃ k : Nat, k ≤ M ∧ Y = .int .i64 (k : Int) ∧ Below w4.heap.size w4 wr) (fun Y _ => M - (intOf Y).toNat)
  case atStart => exact ⟨0, by omega, rfl, Below.refl _ _⟩
  case round =>
    obtain ⟨j, jM, rfl, B2⟩ := hrel
    by_cases hlt : j < M
    · have kk : (j : Int) < (M : Int) := by omega
      go_wp2
      go_loopw [56] (fun Y wx => ∃ k : Nat, k ≤ j ∧ Y = .int .i64 (k : Int) ∧ Below w4.heap.size w4 wx) (fun Y _ => j - (intOf Y).toNat)
      case atStart => exact ⟨0, by omega, rfl, B2⟩
      case round =>
        obtain ⟨i, ij, rfl, B3⟩ := hrel
        by_cases ilt : i < j
        · have ii : (i : Int) < (j : Int) := by omega
          have im : (i : Int) < (M : Int) := by omega
          have D3 := D.kept B3
          have O3 := O.kept B3
          have di := D3.c i (by omega)
          have dj := D3.c j hlt
          have oi := O3.c i 3 (by omega) (by omega)
          have oj := O3.c j 3 hlt (by omega)
          have e1 : shareF c L (y0, i0) o i 3 = o i := rfl
          have e2 : shareF c L (y0, i0) o j 3 = o j := rfl
          rw [e1] at oi
          rw [e2] at oj
          have bi := HF2.out i (by omega)
          have bj := HF2.out j hlt
          have ev : pday c L a b (y0, i0) i = pday c L a b (y0, i0) j → o i = o j ∨ o i - 1 = o j := split_even HO.out ilt hlt
          have b1 := HD.out i (by omega)
          have b2 := HD.out j hlt
          clear D3 O3 e1 e2
          generalize pday c L a b (y0, i0) i = pi at *
          generalize pday c L a b (y0, i0) j = pj at *
          generalize o i = vi at *
          generalize o j = vj at *
          have OO : (pi == pj) = false ∨ ((pi == pj) = true ∧ (vi != vj) = false) ∨ ((pi == pj) = true ∧ (vi != vj) = true ∧ IntKind.i64.wrap (vi - 1) = vj) := by
            by_cases q1 : pi = pj
            · rcases ev q1 with q2 | q2
              · exact .inr (.inl ⟨beq_iff_eq.2 q1, by simp [q2]⟩)
              · refine .inr (.inr ⟨beq_iff_eq.2 q1, bne_iff_ne.2 (by omega), ?_⟩)
                rw [q2]
                exact IntWalk.i64_in _ (by unfold Fit1 at bj; omega)
            · exact .inl (beq_eq_false_iff_ne.2 q1)
          clear ev bi bj
          rcases OO with q1 | ⟨q1, q2⟩ | ⟨q1, q2, q3⟩
          · go_upto_region 17 with fail
            go_quiet (fail)
            go_wp2
            go_roundw
            case rel => exact ⟨i + 1, by omega, by go_num, bdrewN B3 _⟩
            case measure => simp [intOf]; omega
          · go_upto_region 17 with fail
            go_quiet (fail)
            go_wp2
            go_roundw
            case rel => exact ⟨i + 1, by omega, by go_num, bdrewN B3 _⟩
            case measure => simp [intOf]; omega
          · have q4 : (vj != vj) = false := by simp
            go_upto_region 17 with fail
            go_quiet (fail)
            go_wp2
            go_roundw
            case rel => exact ⟨i + 1, by omega, by go_num, bdrewN B3 _⟩
            case measure => simp [intOf]; omega
        · obtain rfl : i = j := by omega
          have ii : decide ((i : Int) < (i : Int)) = false := decide_eq_false (by omega)
          go_wp2
          go_roundw
          case rel => exact ⟨i + 1, by omega, by go_num, B3⟩
          case measure => simp [intOf]; omega
    · obtain rfl : j = M := by omega
      have kk : decide ((j : Int) < (j : Int)) = false := decide_eq_false (by omega)
      go_wp2
      go_ret
      exact ⟨by simp, bthen B B2⟩

theorem rties_walk (c : CalZ) (L A a b : Int) (w : World) (wf : CalWf c) (wL : (Lit.int .i64 L).wf = true) (wA : (Lit.int .i64 A).wf = true) (w1 : (Lit.int .i64 a).wf = true) (w2 : (Lit.int .i64 b).wf = true) (tb : FTab w) :
    Calls Tryz.prog 10 #[.agg #[.string c.nm, .int .i64 c.k, .int .i64 c.d, .int .i64 c.m, .int .i64 c.s, .int .i64 c.sh, .int .i64 c.p0, .int .i64 c.p1, .int .i64 c.p2, .int .i64 c.cy, .int .i64 c.ex, .int .i64 c.fi, .int .i64 c.la, .int .i64 c.po], .int .i64 L, .int .i64 A, .agg #[.int .i64 a, .int .i64 b]] w fun e w' => e = .returned (.bool true) ∧ Below w.heap.size w w' := by
  rcases cut_ex c L a b with ⟨er, ne, R⟩ | ⟨y0, i0, y, n, N, h⟩
  · exact rties_er c L A a b er w tb wf.1 R ne
  · exact rties_ok c L A a b y0 i0 y n N (N + 1) w tb wf.1 (bounds_i64 wA) h rfl

end Go.Proofs.YtoeifpeiogeenaaGreatDoor.Pl
