/- TwinRuns' walk. -/
import Derived.Test.YtoeifpeiogeenaaGreatDoorJR
import Derived.Test.YtoeifpeiogeenaaGreatDoorJB
namespace Go.Proofs.YtoeifpeiogeenaaGreatDoor.Bl
set_option linter.unusedSimpArgs false
set_option linter.unusedVariables false
open Go.RowKit Go.Proofs.YtoeifpeiogeenaaGreatDoor.Bn Go.Proofs.YtoeifpeiogeenaaGreatDoor.Bx Go.Proofs.YtoeifpeiogeenaaGreatDoor.Cp Go.Proofs.YtoeifpeiogeenaaGreatDoor.Am Go.Proofs.YtoeifpeiogeenaaGreatDoor.Fp Go.Proofs.YtoeifpeiogeenaaGreatDoor.Ap Go.Proofs.YtoeifpeiogeenaaGreatDoor.Cm Go.Proofs.YtoeifpeiogeenaaGreatDoor.Em Go.Proofs.YtoeifpeiogeenaaGreatDoor.Ep Go.Proofs.YtoeifpeiogeenaaGreatDoor.Rk Go.Proofs.YtoeifpeiogeenaaGreatDoor.Hp Go.Proofs.YtoeifpeiogeenaaGreatDoor.Ip Go.Proofs.YtoeifpeiogeenaaGreatDoor.Jp Go.Proofs.YtoeifpeiogeenaaGreatDoor.Dp Go.Proofs.YtoeifpeiogeenaaGreatDoor.Mp Go.Proofs.YtoeifpeiogeenaaGreatDoor.Bp

set_option maxHeartbeats 16000000

set_option maxRecDepth 100000 in
theorem truns_out (c : CalZ) (L y i k : Int) (w : World) (tb : FTab w) (h : 100 < c.nm.size) :
    Calls Tryz.prog 6 #[.agg #[.string c.nm, .int .i64 c.k, .int .i64 c.d, .int .i64 c.m, .int .i64 c.s, .int .i64 c.sh, .int .i64 c.p0, .int .i64 c.p1, .int .i64 c.p2, .int .i64 c.cy, .int .i64 c.ex, .int .i64 c.fi, .int .i64 c.la, .int .i64 c.po], .agg #[.int .i64 L, .int .i64 y, .int .i64 i], .int .i64 k] w fun e w' => e = .returned (.bool true) ∧ Below w.heap.size w w' := by
  have T := tb
  have C := CalIn.new w c 24
  have B := balloc (Below.refl _ w) (.cells #[.string c.nm, .int .i64 c.k, .int .i64 c.d, .int .i64 c.m, .int .i64 c.s, .int .i64 c.sh, .int .i64 c.p0, .int .i64 c.p1, .int .i64 c.p2, .int .i64 c.cy, .int .i64 c.ex, .int .i64 c.fi, .int .i64 c.la, .int .i64 c.po] 24)
  replace T := T.alloc (.cells #[.string c.nm, .int .i64 c.k, .int .i64 c.d, .int .i64 c.m, .int .i64 c.s, .int .i64 c.sh, .int .i64 c.p0, .int .i64 c.p1, .int .i64 c.p2, .int .i64 c.cy, .int .i64 c.ex, .int .i64 c.fi, .int .i64 c.la, .int .i64 c.po] 24)
  have U := Go.Proofs.YtoeifpeiogeenaaGreatDoor.Bx.Tri.new (w.alloc (.cells #[.string c.nm, .int .i64 c.k, .int .i64 c.d, .int .i64 c.m, .int .i64 c.s, .int .i64 c.sh, .int .i64 c.p0, .int .i64 c.p1, .int .i64 c.p2, .int .i64 c.cy, .int .i64 c.ex, .int .i64 c.fi, .int .i64 c.la, .int .i64 c.po] 24)) (.int .i64 L) (.int .i64 y) (.int .i64 i) 26
  rw [World.size_alloc] at U
  replace C := C.alloc (.cells #[.int .i64 L, .int .i64 y, .int .i64 i] 26)
  replace B := balloc B (.cells #[.int .i64 L, .int .i64 y, .int .i64 i] 26)
  replace T := T.alloc (.cells #[.int .i64 L, .int .i64 y, .int .i64 i] 26)
  have dl : decide ((100 : Int) < (c.nm.size : Int)) = true := decide_eq_true (by omega)
  clear h
  go_enter Tryz.func6, Tryz.ntmps6
  go_upto_region 1 with fail
  generalize (w.alloc (.cells #[.string c.nm, .int .i64 c.k, .int .i64 c.d, .int .i64 c.m, .int .i64 c.s, .int .i64 c.sh, .int .i64 c.p0, .int .i64 c.p1, .int .i64 c.p2, .int .i64 c.cy, .int .i64 c.ex, .int .i64 c.fi, .int .i64 c.la, .int .i64 c.po] 24)).alloc (.cells #[.int .i64 L, .int .i64 y, .int .i64 i] 26) = W0 at *
  obtain ⟨_, c0, c1, c2, c3, c4, c5, c6, c7, c8, c9, c10, c11, c12, c13⟩ := id C
  obtain ⟨_, u0, u1, u2, fu0, fu1, fu2⟩ := id U
  go_wp2_with fail
  refine (blive_ok _ T).mono ?_
  rintro e w1 ⟨rfl, hb⟩
  replace C := C.kept hb
  replace B := bthen B hb
  replace T := T.kept hb
  replace U := U.kept hb
  clear hb c0 c1 c2 c3 c4 c5 c6 c7 c8 c9 c10 c11 c12 c13 u0 u1 u2 fu0 fu1 fu2
  obtain ⟨_, c0, c1, c2, c3, c4, c5, c6, c7, c8, c9, c10, c11, c12, c13⟩ := id C
  obtain ⟨_, u0, u1, u2, fu0, fu1, fu2⟩ := id U
  go_wp2
  go_ret
  exact ⟨by simp <;> omega, B⟩

set_option maxRecDepth 100000 in
theorem truns_er (c : CalZ) (L y i k er : Int) (l : List U3) (w : World) (tb : FTab w) (wk : (Lit.int .i64 k).wf = true) (hm : c.nm.size ≤ maxLen) (dl : decide ((100 : Int) < (c.nm.size : Int)) = false) (R : TwA c L y i k l er) (ne : er ≠ 0) :
    Calls Tryz.prog 6 #[.agg #[.string c.nm, .int .i64 c.k, .int .i64 c.d, .int .i64 c.m, .int .i64 c.s, .int .i64 c.sh, .int .i64 c.p0, .int .i64 c.p1, .int .i64 c.p2, .int .i64 c.cy, .int .i64 c.ex, .int .i64 c.fi, .int .i64 c.la, .int .i64 c.po], .agg #[.int .i64 L, .int .i64 y, .int .i64 i], .int .i64 k] w fun e w' => e = .returned (.bool true) ∧ Below w.heap.size w w' := by
  have T := tb
  have C := CalIn.new w c 24
  have B := balloc (Below.refl _ w) (.cells #[.string c.nm, .int .i64 c.k, .int .i64 c.d, .int .i64 c.m, .int .i64 c.s, .int .i64 c.sh, .int .i64 c.p0, .int .i64 c.p1, .int .i64 c.p2, .int .i64 c.cy, .int .i64 c.ex, .int .i64 c.fi, .int .i64 c.la, .int .i64 c.po] 24)
  replace T := T.alloc (.cells #[.string c.nm, .int .i64 c.k, .int .i64 c.d, .int .i64 c.m, .int .i64 c.s, .int .i64 c.sh, .int .i64 c.p0, .int .i64 c.p1, .int .i64 c.p2, .int .i64 c.cy, .int .i64 c.ex, .int .i64 c.fi, .int .i64 c.la, .int .i64 c.po] 24)
  have U := Go.Proofs.YtoeifpeiogeenaaGreatDoor.Bx.Tri.new (w.alloc (.cells #[.string c.nm, .int .i64 c.k, .int .i64 c.d, .int .i64 c.m, .int .i64 c.s, .int .i64 c.sh, .int .i64 c.p0, .int .i64 c.p1, .int .i64 c.p2, .int .i64 c.cy, .int .i64 c.ex, .int .i64 c.fi, .int .i64 c.la, .int .i64 c.po] 24)) (.int .i64 L) (.int .i64 y) (.int .i64 i) 26
  rw [World.size_alloc] at U
  replace C := C.alloc (.cells #[.int .i64 L, .int .i64 y, .int .i64 i] 26)
  replace B := balloc B (.cells #[.int .i64 L, .int .i64 y, .int .i64 i] 26)
  replace T := T.alloc (.cells #[.int .i64 L, .int .i64 y, .int .i64 i] 26)
  have cw := fun w T => Weeks_er c L y i k er l w R ne wk hm T
  have cr := fun w T => Runs_er c L y i k er l w R ne wk hm T
  have n1 : (er != 0) = true := bne_iff_ne.2 ne
  have n2 : (er != er) = false := by simp
  clear R ne
  go_enter Tryz.func6, Tryz.ntmps6
  go_upto_region 1 with fail
  generalize (w.alloc (.cells #[.string c.nm, .int .i64 c.k, .int .i64 c.d, .int .i64 c.m, .int .i64 c.s, .int .i64 c.sh, .int .i64 c.p0, .int .i64 c.p1, .int .i64 c.p2, .int .i64 c.cy, .int .i64 c.ex, .int .i64 c.fi, .int .i64 c.la, .int .i64 c.po] 24)).alloc (.cells #[.int .i64 L, .int .i64 y, .int .i64 i] 26) = W0 at *
  obtain ⟨_, c0, c1, c2, c3, c4, c5, c6, c7, c8, c9, c10, c11, c12, c13⟩ := id C
  obtain ⟨_, u0, u1, u2, fu0, fu1, fu2⟩ := id U
  go_wp2_with fail
  refine (blive_ok _ T).mono ?_
  rintro e w1 ⟨rfl, hb⟩
  replace C := C.kept hb
  replace B := bthen B hb
  replace T := T.kept hb
  replace U := U.kept hb
  clear hb c0 c1 c2 c3 c4 c5 c6 c7 c8 c9 c10 c11 c12 c13 u0 u1 u2 fu0 fu1 fu2
  obtain ⟨_, c0, c1, c2, c3, c4, c5, c6, c7, c8, c9, c10, c11, c12, c13⟩ := id C
  obtain ⟨_, u0, u1, u2, fu0, fu1, fu2⟩ := id U
  go_wp2_with fail
  refine (cw _ T).mono ?_
  rintro e w2 ⟨rfl, hb⟩
  replace C := C.kept hb
  replace B := bthen B hb
  replace T := T.kept hb
  replace U := U.kept hb
  clear hb c0 c1 c2 c3 c4 c5 c6 c7 c8 c9 c10 c11 c12 c13 u0 u1 u2 fu0 fu1 fu2
  obtain ⟨_, c0, c1, c2, c3, c4, c5, c6, c7, c8, c9, c10, c11, c12, c13⟩ := id C
  obtain ⟨_, u0, u1, u2, fu0, fu1, fu2⟩ := id U
  go_wp2_with fail
  refine (cr _ T).mono ?_
  rintro e w3 ⟨rfl, hb⟩
  replace C := C.kept hb
  replace B := bthen B hb
  replace T := T.kept hb
  replace U := U.kept hb
  clear hb c0 c1 c2 c3 c4 c5 c6 c7 c8 c9 c10 c11 c12 c13 u0 u1 u2 fu0 fu1 fu2
  obtain ⟨_, c0, c1, c2, c3, c4, c5, c6, c7, c8, c9, c10, c11, c12, c13⟩ := id C
  obtain ⟨_, u0, u1, u2, fu0, fu1, fu2⟩ := id U
  go_wp2
  go_ret
  exact ⟨by simp <;> omega, B⟩

set_option maxRecDepth 100000 in
theorem truns_ok (c : CalZ) (L y i k : Int) (l : List U3) (r : List (Int × Int)) (w : World) (tb : FTab w) (hm : c.nm.size ≤ maxLen) (dl : decide ((100 : Int) < (c.nm.size : Int)) = false) (R : TwA c L y i k l 0) (X : TwList c l r) :
    Calls Tryz.prog 6 #[.agg #[.string c.nm, .int .i64 c.k, .int .i64 c.d, .int .i64 c.m, .int .i64 c.s, .int .i64 c.sh, .int .i64 c.p0, .int .i64 c.p1, .int .i64 c.p2, .int .i64 c.cy, .int .i64 c.ex, .int .i64 c.fi, .int .i64 c.la, .int .i64 c.po], .agg #[.int .i64 L, .int .i64 y, .int .i64 i], .int .i64 k] w fun e w' => e = .returned (.bool true) ∧ Below w.heap.size w w' := by
  have T := tb
  have C := CalIn.new w c 24
  have B := balloc (Below.refl _ w) (.cells #[.string c.nm, .int .i64 c.k, .int .i64 c.d, .int .i64 c.m, .int .i64 c.s, .int .i64 c.sh, .int .i64 c.p0, .int .i64 c.p1, .int .i64 c.p2, .int .i64 c.cy, .int .i64 c.ex, .int .i64 c.fi, .int .i64 c.la, .int .i64 c.po] 24)
  replace T := T.alloc (.cells #[.string c.nm, .int .i64 c.k, .int .i64 c.d, .int .i64 c.m, .int .i64 c.s, .int .i64 c.sh, .int .i64 c.p0, .int .i64 c.p1, .int .i64 c.p2, .int .i64 c.cy, .int .i64 c.ex, .int .i64 c.fi, .int .i64 c.la, .int .i64 c.po] 24)
  have U := Go.Proofs.YtoeifpeiogeenaaGreatDoor.Bx.Tri.new (w.alloc (.cells #[.string c.nm, .int .i64 c.k, .int .i64 c.d, .int .i64 c.m, .int .i64 c.s, .int .i64 c.sh, .int .i64 c.p0, .int .i64 c.p1, .int .i64 c.p2, .int .i64 c.cy, .int .i64 c.ex, .int .i64 c.fi, .int .i64 c.la, .int .i64 c.po] 24)) (.int .i64 L) (.int .i64 y) (.int .i64 i) 26
  rw [World.size_alloc] at U
  replace C := C.alloc (.cells #[.int .i64 L, .int .i64 y, .int .i64 i] 26)
  replace B := balloc B (.cells #[.int .i64 L, .int .i64 y, .int .i64 i] 26)
  replace T := T.alloc (.cells #[.int .i64 L, .int .i64 y, .int .i64 i] 26)
  have cw := fun w T => Weeks_ok c L y i k l w R hm T
  have cr := fun w T => Runs_ok c L y i k l r w R X hm T
  have HN : Hid (∀ j : Nat, j < l.length → ∃ y i f t : Int, l[j]? = some (5, y, i) ∧ 0 ≤ f ∧ f ≤ t ∧ t ≤ 3068036 ∧ (∀ s p, TwI c l j s p → p < f ∧ TwI c l (j + 1) (s + (t - f + 1)) t) ∧
      ∀ w, FTab w → Calls Tryz.prog 21 #[.agg #[.string c.nm, .int .i64 c.k, .int .i64 c.d, .int .i64 c.m, .int .i64 c.s, .int .i64 c.sh, .int .i64 c.p0, .int .i64 c.p1, .int .i64 c.p2, .int .i64 c.cy, .int .i64 c.ex, .int .i64 c.fi, .int .i64 c.la, .int .i64 c.po], .agg #[.int .i64 5, .int .i64 y, .int .i64 i]] w fun e w' => e = .returned (.tuple #[.agg #[.int .i64 f, .int .i64 t], .int .i64 0]) ∧ Below w.heap.size w w') :=
    Lib.hid (fun j hj => by
      obtain ⟨y, i, f, t, h1, ok, ef, et, h2, h3, h4, h5⟩ := twi_next X hj
      exact ⟨y, i, f, t, h1, h2, h3, h4, h5, fun w T => Span_any c 5 y i f t 0 w (.inl ⟨ok, ef, et, rfl⟩) hm T⟩)
  have HM : Hid (∀ j : Nat, j < r.length → ∃ f t : Int, r[j]? = some (f, t) ∧ 0 ≤ f ∧ f ≤ t ∧ t ≤ 3068036 ∧ ∀ s p, TwJ r j s p → p + 1 < f ∧ TwJ r (j + 1) (s - (t - f + 1)) t) := Lib.hid (fun j hj => twj_next X hj)
  have I0 := twi_start X
  have J0 := twj_start X
  have E0 : Hid (∀ s p, TwI c l l.length s p → s = lens r) := Lib.hid (fun s p h => twi_end X h)
  have l60 := X.l1
  have l01 := X.l0
  have r2 := twj_len X
  obtain ⟨n, hn⟩ : ∃ n, l.length = n := ⟨_, rfl⟩
  obtain ⟨m, hm2⟩ : ∃ m, r.length = m := ⟨_, rfl⟩
  have HJ : Hid (∀ s p, TwJ r m s p → s = 0) := Lib.hid (fun s p h => twj_end (r := r) (s := s) (p := p) (by rw [hm2]; exact h))
  rw [hn] at HN E0 l60 l01
  rw [hm2] at HM r2
  clear R X
  go_enter Tryz.func6, Tryz.ntmps6
  go_upto_region 1 with fail
  generalize (w.alloc (.cells #[.string c.nm, .int .i64 c.k, .int .i64 c.d, .int .i64 c.m, .int .i64 c.s, .int .i64 c.sh, .int .i64 c.p0, .int .i64 c.p1, .int .i64 c.p2, .int .i64 c.cy, .int .i64 c.ex, .int .i64 c.fi, .int .i64 c.la, .int .i64 c.po] 24)).alloc (.cells #[.int .i64 L, .int .i64 y, .int .i64 i] 26) = W0 at *
  obtain ⟨_, c0, c1, c2, c3, c4, c5, c6, c7, c8, c9, c10, c11, c12, c13⟩ := id C
  obtain ⟨_, u0, u1, u2, fu0, fu1, fu2⟩ := id U
  go_wp2_with fail
  refine (blive_ok _ T).mono ?_
  rintro e w1 ⟨rfl, hb⟩
  replace C := C.kept hb
  replace B := bthen B hb
  replace T := T.kept hb
  replace U := U.kept hb
  clear hb c0 c1 c2 c3 c4 c5 c6 c7 c8 c9 c10 c11 c12 c13 u0 u1 u2 fu0 fu1 fu2
  obtain ⟨_, c0, c1, c2, c3, c4, c5, c6, c7, c8, c9, c10, c11, c12, c13⟩ := id C
  obtain ⟨_, u0, u1, u2, fu0, fu1, fu2⟩ := id U
  go_wp2_with fail
  refine (cw _ T).mono ?_
  rintro e w2 ⟨g, cap, rfl, Rw, hg, hb, hcap⟩
  replace C := C.kept hb
  replace B := bthen B hb
  replace T := T.kept hb
  replace U := U.kept hb
  clear hb c0 c1 c2 c3 c4 c5 c6 c7 c8 c9 c10 c11 c12 c13 u0 u1 u2 fu0 fu1 fu2
  obtain ⟨_, c0, c1, c2, c3, c4, c5, c6, c7, c8, c9, c10, c11, c12, c13⟩ := id C
  obtain ⟨_, u0, u1, u2, fu0, fu1, fu2⟩ := id U
  rw [hn]
  clear hg hcap
  obtain ⟨_, _⟩ := id Rw
  go_wp2_with fail
  refine (cr _ T).mono ?_
  rintro e w3 ⟨g2, cap2, rfl, Sw, hg2, hb, hcap2⟩
  replace C := C.kept hb
  replace B := bthen B hb
  replace T := T.kept hb
  replace U := U.kept hb
  replace Rw := Rw.kept hb
  clear hb c0 c1 c2 c3 c4 c5 c6 c7 c8 c9 c10 c11 c12 c13 u0 u1 u2 fu0 fu1 fu2
  obtain ⟨_, c0, c1, c2, c3, c4, c5, c6, c7, c8, c9, c10, c11, c12, c13⟩ := id C
  obtain ⟨_, u0, u1, u2, fu0, fu1, fu2⟩ := id U
  obtain ⟨_, _⟩ := id Rw
  rw [hm2]
  clear hg2 hcap2 cw cr u0 u1 u2 fu0 fu1 fu2 U
  clear c0 c1 c2 c3 c4 c5 c6 c7 c8 c9 c10 c11 c12 c13 
  go_wp2
  go_loopw [11, 12, 52] (fun A P J wr => ∃ j : Nat, j ≤ n ∧ J = .int .i64 (j : Int) ∧ (∃ s p, A = .int .i64 s ∧ P = .int .i64 p ∧ TwI c l j s p) ∧ Below w3.heap.size w3 wr) (fun _ _ J _ => n - (intOf J).toNat)
  case atStart => exact ⟨0, by omega, rfl, ⟨0, -1, rfl, rfl, I0⟩, Below.refl _ _⟩
  case round =>
    obtain ⟨j, jn, rfl, ⟨s, p, rfl, rfl, I⟩, B2⟩ := hrel
    replace C := C.kept B2
    replace T := T.kept B2
    have Rw2 := Rw.kept B2
    have Sw2 := Sw.kept B2
    replace B := bthen B B2
    by_cases hlt : j < n
    · obtain ⟨y', i', f, t, hu, f0, ft, t1, stp, cs⟩ := HN.out j hlt
      obtain ⟨pf, I2⟩ := stp s p I
      have ib : 0 ≤ s ∧ s ≤ (j : Int) * 3068037 ∧ -1 ≤ p ∧ p ≤ 3068036 := ⟨I.2.1, I.2.2.1, I.2.2.2.1, I.2.2.2.2.1⟩
      have I3 := Lib.hid I2
      clear I I2 stp
      obtain ⟨rc0, rc1, rc2⟩ := Rw2.c j _ hu
      simp only at rc0 rc1 rc2
      have kk : (j : Int) < (n : Int) := by omega
      obtain ⟨_, c0, c1, c2, c3, c4, c5, c6, c7, c8, c9, c10, c11, c12, c13⟩ := id C
      go_upto_region 16 with fail
      have V := Go.Proofs.YtoeifpeiogeenaaGreatDoor.Bx.Tri.new wr (.int .i64 5) (.int .i64 y') (.int .i64 i') 26
      replace C := C.alloc (.cells #[.int .i64 5, .int .i64 y', .int .i64 i'] 26)
      replace T := T.alloc (.cells #[.int .i64 5, .int .i64 y', .int .i64 i'] 26)
      have B3 := balloc B2 (.cells #[.int .i64 5, .int .i64 y', .int .i64 i'] 26)
      clear rc0 rc1 rc2
      clear c0 c1 c2 c3 c4 c5 c6 c7 c8 c9 c10 c11 c12 c13 
      generalize wr.alloc (.cells #[.int .i64 5, .int .i64 y', .int .i64 i'] 26) = W8 at *
      obtain ⟨_, c0, c1, c2, c3, c4, c5, c6, c7, c8, c9, c10, c11, c12, c13⟩ := id C
      obtain ⟨_, v0, v1, v2, fv0, fv1, fv2⟩ := id V
      go_wp2_with fail
      refine (cs _ T).mono ?_
      rintro e w9 ⟨rfl, hb⟩
      have V9 := V.kept hb
      have B9 := bthen B3 hb
      clear hb v0 v1 v2 fv0 fv1 fv2
      clear c0 c1 c2 c3 c4 c5 c6 c7 c8 c9 c10 c11 c12 c13 
      obtain ⟨_, v0, v1, v2, fv0, fv1, fv2⟩ := id V9
      have K := Go.Proofs.YtoeifpeiogeenaaGreatDoor.Pr.Two.new w9 (.int .i64 f) (.int .i64 t) 43
      have V10 := V9.alloc (.cells #[.int .i64 f, .int .i64 t] 43)
      have B10 := balloc B9 (.cells #[.int .i64 f, .int .i64 t] 43)
      go_upto_region 17 with fail
      generalize w9.alloc (.cells #[.int .i64 f, .int .i64 t] 43) = W10 at *
      obtain ⟨_, x0, x1, x2, fx0, fx1, fx2⟩ := id V10
      obtain ⟨_, k0, k1, fk0, fk1⟩ := id K
      go_wp2
      go_roundw
      case rel => exact ⟨j + 1, by omega, by go_num, ⟨s + (t - f + 1), t, rfl, rfl, I3.out⟩, B10⟩
      case measure => simp [intOf]; omega
    · obtain rfl : j = n := by omega
      obtain rfl := E0.out s p I
      clear Rw2 Rw I I0 HN
      have kk : decide ((j : Int) < (j : Int)) = false := decide_eq_false (by omega)
      go_wp2
      go_loopw [11, 12, 88] (fun A P J wr' => ∃ j : Nat, j ≤ m ∧ J = .int .i64 (j : Int) ∧ (∃ s p, A = .int .i64 s ∧ P = .int .i64 p ∧ TwJ r j s p) ∧ Below wr.heap.size wr wr') (fun _ _ J _ => m - (intOf J).toNat)
      case atStart => exact ⟨0, by omega, rfl, ⟨_, -2, rfl, rfl, J0⟩, Below.refl _ _⟩
      case round =>
        obtain ⟨i, im, rfl, ⟨s, p, rfl, rfl, I⟩, B4⟩ := hrel
        have Sw3 := Sw2.kept B4
        replace B := bthen B B4
        by_cases hlt : i < m
        · obtain ⟨f, t, hu, f0, ft, t1, stp⟩ := HM.out i hlt
          obtain ⟨pf, I2⟩ := stp s p I
          have ib : 0 ≤ s ∧ s ≤ 6136074 ∧ -2 ≤ p ∧ p ≤ 3068036 := ⟨I.2.1, I.2.2.1, I.2.2.2.1, I.2.2.2.2.1⟩
          have I3 := Lib.hid I2
          clear I I2 stp
          obtain ⟨sc0, sc1⟩ := Sw3.c i _ hu
          simp only at sc0 sc1
          have kk : (i : Int) < (m : Int) := by omega
          go_upto_region 26 with fail
          have K := Go.Proofs.YtoeifpeiogeenaaGreatDoor.Pr.Two.new wr (.int .i64 f) (.int .i64 t) 43
          have B5 := balloc B4 (.cells #[.int .i64 f, .int .i64 t] 43)
          clear sc0 sc1
          generalize wr.alloc (.cells #[.int .i64 f, .int .i64 t] 43) = W10 at *
          obtain ⟨_, k0, k1, fk0, fk1⟩ := id K
          go_wp2
          go_roundw
          case rel => exact ⟨i + 1, by omega, by go_num, ⟨s - (t - f + 1), t, rfl, rfl, I3.out⟩, B5⟩
          case measure => simp [intOf]; omega
        · obtain rfl : i = m := by omega
          obtain rfl := HJ.out s p I
          have kk : decide ((i : Int) < (i : Int)) = false := decide_eq_false (by omega)
          have k1 : (0 : Int) < (i : Int) := by omega
          have k2 : (i : Int) ≤ 2 := by omega
          go_wp2
          go_ret
          exact ⟨by simp <;> omega, B⟩

theorem truns_walk (c : CalZ) (L y i k : Int) (w : World) (wf : CalWf c) (wL : (Lit.int .i64 L).wf = true) (wy : (Lit.int .i64 y).wf = true) (wi : (Lit.int .i64 i).wf = true) (wk : (Lit.int .i64 k).wf = true) (tb : FTab w) :
    Calls Tryz.prog 6 #[.agg #[.string c.nm, .int .i64 c.k, .int .i64 c.d, .int .i64 c.m, .int .i64 c.s, .int .i64 c.sh, .int .i64 c.p0, .int .i64 c.p1, .int .i64 c.p2, .int .i64 c.cy, .int .i64 c.ex, .int .i64 c.fi, .int .i64 c.la, .int .i64 c.po], .agg #[.int .i64 L, .int .i64 y, .int .i64 i], .int .i64 k] w fun e w' => e = .returned (.bool true) ∧ Below w.heap.size w w' := by
  by_cases h : 100 < c.nm.size
  · exact truns_out c L y i k w tb h
  have dl : decide ((100 : Int) < (c.nm.size : Int)) = false := decide_eq_false (by omega)
  obtain ⟨l, er, R⟩ := twa_ex c L y i k
  by_cases e : er = 0
  · subst e
    exact truns_ok c L y i k l _ w tb wf.1 dl R (twa_list R)
  · exact truns_er c L y i k er l w tb wk wf.1 dl R e

end Go.Proofs.YtoeifpeiogeenaaGreatDoor.Bl
