/- RateSum's walk. -/
import Derived.Test.YtoeifpeiogeenaaGreatDoorPlive
import Derived.Test.YtoeifpeiogeenaaGreatDoorProw2
import Derived.Maps.AppendAt
import Derived.Maps.OwnIn
namespace Go.Proofs.YtoeifpeiogeenaaGreatDoor.Pl
set_option linter.unusedSimpArgs false
set_option linter.unusedVariables false
open Go.RowKit Go.Maps Go.Proofs.YtoeifpeiogeenaaGreatDoor.Bn Go.Proofs.YtoeifpeiogeenaaGreatDoor.Bx Go.Proofs.YtoeifpeiogeenaaGreatDoor.Cp Go.Proofs.YtoeifpeiogeenaaGreatDoor.Am Go.Proofs.YtoeifpeiogeenaaGreatDoor.Fp Go.Proofs.YtoeifpeiogeenaaGreatDoor.Ap Go.Proofs.YtoeifpeiogeenaaGreatDoor.Cm Go.Proofs.YtoeifpeiogeenaaGreatDoor.Em Go.Proofs.YtoeifpeiogeenaaGreatDoor.Ep Go.Proofs.YtoeifpeiogeenaaGreatDoor.Rk Go.Proofs.YtoeifpeiogeenaaGreatDoor.Hp Go.Proofs.YtoeifpeiogeenaaGreatDoor.Ip Go.Proofs.YtoeifpeiogeenaaGreatDoor.Jp Go.Proofs.YtoeifpeiogeenaaGreatDoor.Dp Go.Proofs.YtoeifpeiogeenaaGreatDoor.Pp
open Go.Proofs.YtoeifpeiogeenaaGreatDoor.Sm (IsSplit sm)
open Go.Proofs.YtoeifpeiogeenaaGreatDoor.Vm (Fit1)

set_option maxHeartbeats 8000000

theorem split_near {A : Int} {w o : Nat → Int} {n k : Nat} (M : Go.Proofs.YtoeifpeiogeenaaGreatDoor.Sm.MayBe w n) (hk : k < n) (h : IsSplit A w n o) : o k = Go.Proofs.YtoeifpeiogeenaaGreatDoor.Sm.quo A w n k ∨ (o k = Go.Proofs.YtoeifpeiogeenaaGreatDoor.Sm.quo A w n k + 1 ∧ Go.Proofs.YtoeifpeiogeenaaGreatDoor.Sm.rem A w n k ≠ 0) := by
  obtain ⟨C, hC, e⟩ := h
  rw [e k hk]
  cases ck : C k
  · exact .inl (by simp [Go.Proofs.YtoeifpeiogeenaaGreatDoor.Sm.one])
  · have r0 := Go.Proofs.YtoeifpeiogeenaaGreatDoor.Sm.more_pos M hC hk ck
    exact .inr ⟨by simp [Go.Proofs.YtoeifpeiogeenaaGreatDoor.Sm.one], by omega⟩

set_option maxRecDepth 100000 in
theorem rsum_er (c : CalZ) (L A a b er : Int) (w : World) (tb : FTab w) (hm : c.nm.size ≤ maxLen) (R : MeetsA c L a b er) (ne : er ≠ 0) :
    Calls Tryz.prog 9 #[.agg #[.string c.nm, .int .i64 c.k, .int .i64 c.d, .int .i64 c.m, .int .i64 c.s, .int .i64 c.sh, .int .i64 c.p0, .int .i64 c.p1, .int .i64 c.p2, .int .i64 c.cy, .int .i64 c.ex, .int .i64 c.fi, .int .i64 c.la, .int .i64 c.po], .int .i64 L, .int .i64 A, .agg #[.int .i64 a, .int .i64 b]] w fun e w' => e = .returned (.bool true) ∧ Below w.heap.size w w' := by
  have C := CalIn.new w c 24
  have S := Go.Proofs.YtoeifpeiogeenaaGreatDoor.Pr.Two.new (w.alloc (.cells #[.string c.nm, .int .i64 c.k, .int .i64 c.d, .int .i64 c.m, .int .i64 c.s, .int .i64 c.sh, .int .i64 c.p0, .int .i64 c.p1, .int .i64 c.p2, .int .i64 c.cy, .int .i64 c.ex, .int .i64 c.fi, .int .i64 c.la, .int .i64 c.po] 24)) (.int .i64 a) (.int .i64 b) 43
  rw [World.size_alloc] at S
  replace C := C.alloc (.cells #[.int .i64 a, .int .i64 b] 43)
  have B := balloc (balloc (Below.refl _ w) (.cells #[.string c.nm, .int .i64 c.k, .int .i64 c.d, .int .i64 c.m, .int .i64 c.s, .int .i64 c.sh, .int .i64 c.p0, .int .i64 c.p1, .int .i64 c.p2, .int .i64 c.cy, .int .i64 c.ex, .int .i64 c.fi, .int .i64 c.la, .int .i64 c.po] 24)) (.cells #[.int .i64 a, .int .i64 b] 43)
  have T := (tb.alloc (.cells #[.string c.nm, .int .i64 c.k, .int .i64 c.d, .int .i64 c.m, .int .i64 c.s, .int .i64 c.sh, .int .i64 c.p0, .int .i64 c.p1, .int .i64 c.p2, .int .i64 c.cy, .int .i64 c.ex, .int .i64 c.fi, .int .i64 c.la, .int .i64 c.po] 24)).alloc (.cells #[.int .i64 a, .int .i64 b] 43)
  have qs := fun w T => Split_er c L A a b er w R ne hm T
  have qm := fun w T => Meets_er c L a b er w R hm T
  have qd := fun w T => Days_er c L a b er w R ne hm T
  have n1 : (er != 0) = true := bne_iff_ne.2 ne
  have n2 : (er == er) = true := beq_self_eq_true er
  clear R ne
  go_enter Tryz.func9, Tryz.ntmps9
  go_upto_region 1 with fail
  generalize (w.alloc (.cells #[.string c.nm, .int .i64 c.k, .int .i64 c.d, .int .i64 c.m, .int .i64 c.s, .int .i64 c.sh, .int .i64 c.p0, .int .i64 c.p1, .int .i64 c.p2, .int .i64 c.cy, .int .i64 c.ex, .int .i64 c.fi, .int .i64 c.la, .int .i64 c.po] 24)).alloc (.cells #[.int .i64 a, .int .i64 b] 43) = W0 at *
  obtain ⟨_, c0, c1, c2, c3, c4, c5, c6, c7, c8, c9, c10, c11, c12, c13⟩ := id C
  obtain ⟨_, s0, s1, fs0, fs1⟩ := id S
  go_wp2_with fail
  refine (rlive_ok _ T).mono ?_
  rintro e w1 ⟨rfl, hb⟩
  replace C := C.kept hb
  replace B := bthen B hb
  replace T := T.kept hb
  replace S := S.kept hb
  clear hb c0 c1 c2 c3 c4 c5 c6 c7 c8 c9 c10 c11 c12 c13 s0 s1 fs0 fs1
  obtain ⟨_, c0, c1, c2, c3, c4, c5, c6, c7, c8, c9, c10, c11, c12, c13⟩ := id C
  obtain ⟨_, s0, s1, fs0, fs1⟩ := id S
  go_wp2_with fail
  refine (rbrief_any c a b _).mono ?_
  rintro e w2 ⟨r, rfl, hb, hr⟩
  replace C := C.kept hb
  replace B := bthen B hb
  replace T := T.kept hb
  replace S := S.kept hb
  clear hb c0 c1 c2 c3 c4 c5 c6 c7 c8 c9 c10 c11 c12 c13 s0 s1 fs0 fs1
  obtain ⟨_, c0, c1, c2, c3, c4, c5, c6, c7, c8, c9, c10, c11, c12, c13⟩ := id C
  obtain ⟨_, s0, s1, fs0, fs1⟩ := id S
  cases r
  · go_wp2
    go_ret
    exact ⟨by simp, B⟩
  clear hr
  go_wp2_with fail
  refine (qs _ T).mono ?_
  rintro e w3 ⟨rfl, hb⟩
  replace C := C.kept hb
  replace B := bthen B hb
  replace T := T.kept hb
  replace S := S.kept hb
  clear hb c0 c1 c2 c3 c4 c5 c6 c7 c8 c9 c10 c11 c12 c13 s0 s1 fs0 fs1
  obtain ⟨_, c0, c1, c2, c3, c4, c5, c6, c7, c8, c9, c10, c11, c12, c13⟩ := id C
  obtain ⟨_, s0, s1, fs0, fs1⟩ := id S
  go_wp2_with fail
  refine (qm _ T).mono ?_
  rintro e w4 ⟨rfl, hb⟩
  replace C := C.kept hb
  replace B := bthen B hb
  replace T := T.kept hb
  replace S := S.kept hb
  clear hb c0 c1 c2 c3 c4 c5 c6 c7 c8 c9 c10 c11 c12 c13 s0 s1 fs0 fs1
  obtain ⟨_, c0, c1, c2, c3, c4, c5, c6, c7, c8, c9, c10, c11, c12, c13⟩ := id C
  obtain ⟨_, s0, s1, fs0, fs1⟩ := id S
  go_wp2_with fail
  refine (qd _ T).mono ?_
  rintro e w5 ⟨rfl, hb⟩
  replace C := C.kept hb
  replace B := bthen B hb
  replace T := T.kept hb
  replace S := S.kept hb
  clear hb c0 c1 c2 c3 c4 c5 c6 c7 c8 c9 c10 c11 c12 c13 s0 s1 fs0 fs1
  obtain ⟨_, c0, c1, c2, c3, c4, c5, c6, c7, c8, c9, c10, c11, c12, c13⟩ := id C
  obtain ⟨_, s0, s1, fs0, fs1⟩ := id S
  go_wp2
  go_ret
  exact ⟨by simp, B⟩

set_option maxRecDepth 100000 in
theorem rsum_ok (c : CalZ) (L A a b y0 i0 y n : Int) (N M : Nat) (w : World) (tb : FTab w) (hm : c.nm.size ≤ maxLen) (fa : Fit1 A) (h : Cut c L a b y0 i0 y n N) (hM : N + 1 = M) :
    Calls Tryz.prog 9 #[.agg #[.string c.nm, .int .i64 c.k, .int .i64 c.d, .int .i64 c.m, .int .i64 c.s, .int .i64 c.sh, .int .i64 c.p0, .int .i64 c.p1, .int .i64 c.p2, .int .i64 c.cy, .int .i64 c.ex, .int .i64 c.fi, .int .i64 c.la, .int .i64 c.po], .int .i64 L, .int .i64 A, .agg #[.int .i64 a, .int .i64 b]] w fun e w' => e = .returned (.bool true) ∧ Below w.heap.size w w' := by
  have C := CalIn.new w c 24
  have S := Go.Proofs.YtoeifpeiogeenaaGreatDoor.Pr.Two.new (w.alloc (.cells #[.string c.nm, .int .i64 c.k, .int .i64 c.d, .int .i64 c.m, .int .i64 c.s, .int .i64 c.sh, .int .i64 c.p0, .int .i64 c.p1, .int .i64 c.p2, .int .i64 c.cy, .int .i64 c.ex, .int .i64 c.fi, .int .i64 c.la, .int .i64 c.po] 24)) (.int .i64 a) (.int .i64 b) 43
  rw [World.size_alloc] at S
  replace C := C.alloc (.cells #[.int .i64 a, .int .i64 b] 43)
  have B := balloc (balloc (Below.refl _ w) (.cells #[.string c.nm, .int .i64 c.k, .int .i64 c.d, .int .i64 c.m, .int .i64 c.s, .int .i64 c.sh, .int .i64 c.p0, .int .i64 c.p1, .int .i64 c.p2, .int .i64 c.cy, .int .i64 c.ex, .int .i64 c.fi, .int .i64 c.la, .int .i64 c.po] 24)) (.cells #[.int .i64 a, .int .i64 b] 43)
  have T := (tb.alloc (.cells #[.string c.nm, .int .i64 c.k, .int .i64 c.d, .int .i64 c.m, .int .i64 c.s, .int .i64 c.sh, .int .i64 c.p0, .int .i64 c.p1, .int .i64 c.p2, .int .i64 c.cy, .int .i64 c.ex, .int .i64 c.fi, .int .i64 c.la, .int .i64 c.po] 24)).alloc (.cells #[.int .i64 a, .int .i64 b] 43)
  obtain ⟨i1, hi, hz0, hz1, hz2⟩ := info_parts infoL6
  have qs := fun (M1 : M ≤ 4096) w T => Split_ok c L A a b y0 i0 y n N M w h hM M1 fa hm T
  have qm := fun w T => Meets_ok c L a b y0 i0 y n N w h.way h.da h.db h.ab hm T
  have qd := fun (M1 : M ≤ 4096) w T => Days_ok c L a b y0 i0 y n N M w h hM (by omega) hm T
  have bd := h.bd
  have ab := h.ab
  obtain ⟨pd, hpd⟩ : ∃ pd, pday c L a b (y0, i0) = pd := ⟨_, rfl⟩
  have MB : Go.Proofs.YtoeifpeiogeenaaGreatDoor.Sm.MayBe pd M := ⟨fun i hi => by have := (h.day i (by omega)).1; rw [hpd] at this; omega, by
    have s := h.sum
    rw [hM, hpd] at s
    unfold Go.Proofs.YtoeifpeiogeenaaGreatDoor.Sm.tot
    omega⟩
  have te : Go.Proofs.YtoeifpeiogeenaaGreatDoor.Sm.tot pd M = b - a + 1 := by
    have s := h.sum
    rw [hM, hpd] at s
    exact s
  have HF : Hid (∀ o, IsSplit A pd M o → (∀ k, k < M → Fit1 (o k)) ∧ sm o M = A ∧ ∀ k, k < M → o k = Go.Proofs.YtoeifpeiogeenaaGreatDoor.Sm.quo A pd M k ∨ (o k = Go.Proofs.YtoeifpeiogeenaaGreatDoor.Sm.quo A pd M k + 1 ∧ Go.Proofs.YtoeifpeiogeenaaGreatDoor.Sm.rem A pd M k ≠ 0)) := Lib.hid (fun o ho => ⟨Go.Proofs.YtoeifpeiogeenaaGreatDoor.Sl.split_fit fa MB ho, Go.Proofs.YtoeifpeiogeenaaGreatDoor.Sm.split_sum MB ho, fun k hk => split_near MB hk ho⟩)
  have HC : Hid (∀ k : Nat, k < M → 1 ≤ pd k ∧ pd k ≤ 3068037 ∧ Fit1 (Go.Proofs.YtoeifpeiogeenaaGreatDoor.Sm.quo A pd M k) ∧ ∀ W, Calls Tryz.prog 30 #[.int .i64 A, .int .i64 (pd k), .int .i64 (b - a + 1)] W fun e w' => e = .returned (.tuple #[.int .i64 (Go.Proofs.YtoeifpeiogeenaaGreatDoor.Sm.quo A pd M k), .int .i64 (Go.Proofs.YtoeifpeiogeenaaGreatDoor.Sm.rem A pd M k), .int .i64 0]) ∧ Below W.heap.size W w') :=
    Lib.hid (fun k hk => by
      have d := h.day k (by omega)
      have g := h.way.long k (by omega)
      rw [hpd] at d
      have fq := Go.Proofs.YtoeifpeiogeenaaGreatDoor.Sr.quo_fit fa MB hk
      exact ⟨d.1, by omega, fq, fun W => Go.Proofs.YtoeifpeiogeenaaGreatDoor.Vl.muldiv_to A (pd k) (b - a + 1) _ _ 0 W fa (by unfold Fit1; omega) (by unfold Fit1; omega) (.inr (.inr (.inr ⟨by omega, rfl, fq, by unfold Go.Proofs.YtoeifpeiogeenaaGreatDoor.Sm.quo; rw [te], by unfold Go.Proofs.YtoeifpeiogeenaaGreatDoor.Sm.rem; rw [te]⟩)))⟩)
  have HU : Hid (∀ k : Nat, k < M → ∃ p q : Int, (ulist c L (y0, i0) M)[k]? = some (L, p, q) ∧ (itu c L (y0, i0) k).1 = p ∧ (itu c L (y0, i0) k).2 = q) := Lib.hid (fun k hk => ⟨_, _, ulist_at c L (y0, i0) M k hk, rfl, rfl⟩)
  have ulen : (ulist c L (y0, i0) M).length = M := ulist_len ..
  rw [hM] at qm
  rw [hpd] at qd
  have M0 : 1 ≤ M := by omega
  have bd2 : 0 ≤ a ∧ b ≤ 3068036 ∧ (M : Int) ≤ b - a + 1 := by omega
  clear h bd hM te MB
  go_enter Tryz.func9, Tryz.ntmps9
  go_upto_region 1 with fail
  generalize (w.alloc (.cells #[.string c.nm, .int .i64 c.k, .int .i64 c.d, .int .i64 c.m, .int .i64 c.s, .int .i64 c.sh, .int .i64 c.p0, .int .i64 c.p1, .int .i64 c.p2, .int .i64 c.cy, .int .i64 c.ex, .int .i64 c.fi, .int .i64 c.la, .int .i64 c.po] 24)).alloc (.cells #[.int .i64 a, .int .i64 b] 43) = W0 at *
  obtain ⟨_, c0, c1, c2, c3, c4, c5, c6, c7, c8, c9, c10, c11, c12, c13⟩ := id C
  obtain ⟨_, s0, s1, fs0, fs1⟩ := id S
  go_wp2_with fail
  refine (rlive_ok _ T).mono ?_
  rintro e w1 ⟨rfl, hb⟩
  replace C := C.kept hb
  replace B := bthen B hb
  replace T := T.kept hb
  replace S := S.kept hb
  clear hb c0 c1 c2 c3 c4 c5 c6 c7 c8 c9 c10 c11 c12 c13 s0 s1 fs0 fs1
  obtain ⟨_, c0, c1, c2, c3, c4, c5, c6, c7, c8, c9, c10, c11, c12, c13⟩ := id C
  obtain ⟨_, s0, s1, fs0, fs1⟩ := id S
  go_wp2_with fail
  refine (rbrief_any c a b _).mono ?_
  rintro e w2 ⟨r, rfl, hb, hr⟩
  replace C := C.kept hb
  replace B := bthen B hb
  replace T := T.kept hb
  replace S := S.kept hb
  clear hb c0 c1 c2 c3 c4 c5 c6 c7 c8 c9 c10 c11 c12 c13 s0 s1 fs0 fs1
  obtain ⟨_, c0, c1, c2, c3, c4, c5, c6, c7, c8, c9, c10, c11, c12, c13⟩ := id C
  obtain ⟨_, s0, s1, fs0, fs1⟩ := id S
  cases r
  · go_wp2
    go_ret
    exact ⟨by simp, B⟩
  have br := (hr rfl).2 ab bd2.1 bd2.2.1
  have M1 : M ≤ 1501 := by omega
  clear hr
  go_wp2_with fail
  refine (qs (by omega) _ T).mono ?_
  rintro e w3 ⟨gs, o, rfl, O, ho, hg, hb⟩
  replace C := C.kept hb
  replace B := bthen B hb
  replace T := T.kept hb
  replace S := S.kept hb
  clear hb c0 c1 c2 c3 c4 c5 c6 c7 c8 c9 c10 c11 c12 c13 s0 s1 fs0 fs1
  obtain ⟨_, c0, c1, c2, c3, c4, c5, c6, c7, c8, c9, c10, c11, c12, c13⟩ := id C
  obtain ⟨_, s0, s1, fs0, fs1⟩ := id S
  obtain ⟨_, _, _⟩ := id O
  clear hg
  rw [hpd] at ho
  clear hpd
  obtain ⟨hf, hs, hk⟩ := HF.out o ho
  have HF2 := Lib.hid hf
  have HS := Lib.hid hs
  have HK := Lib.hid hk
  clear ho hf hs hk HF
  go_wp2_with fail
  refine (qm _ T).mono ?_
  rintro e w4 ⟨gu, cap, rfl, R, hg, hb, hcap⟩
  replace C := C.kept hb
  replace B := bthen B hb
  replace T := T.kept hb
  replace S := S.kept hb
  replace O := O.kept hb
  clear hb c0 c1 c2 c3 c4 c5 c6 c7 c8 c9 c10 c11 c12 c13 s0 s1 fs0 fs1
  obtain ⟨_, c0, c1, c2, c3, c4, c5, c6, c7, c8, c9, c10, c11, c12, c13⟩ := id C
  obtain ⟨_, s0, s1, fs0, fs1⟩ := id S
  obtain ⟨_, _, _⟩ := id O
  rw [ulen]
  clear hg hcap
  obtain ⟨_, _⟩ := id R
  go_wp2_with fail
  refine (qd (by omega) _ T).mono ?_
  rintro e w5 ⟨gd, rfl, D, hg, hb⟩
  replace C := C.kept hb
  replace B := bthen B hb
  replace T := T.kept hb
  replace S := S.kept hb
  replace O := O.kept hb
  replace R := R.kept hb
  clear hb c0 c1 c2 c3 c4 c5 c6 c7 c8 c9 c10 c11 c12 c13 s0 s1 fs0 fs1
  obtain ⟨_, c0, c1, c2, c3, c4, c5, c6, c7, c8, c9, c10, c11, c12, c13⟩ := id C
  obtain ⟨_, s0, s1, fs0, fs1⟩ := id S
  obtain ⟨_, _, _⟩ := id O
  obtain ⟨_, _⟩ := id R
  clear hg qs qd qm s0 s1 fs0 fs1
  clear c0 c1 c2 c3 c4 c5 c6 c7 c8 c9 c10 c11 c12 c13 
  have S9 := S
  obtain ⟨_, s0, s1, fs0, fs1⟩ := id S
  have M2 : (M : Int) ≤ 1501 := by omega
  go_wp2
  go_loopw [15, 98] (fun Z Y wr => ∃ k : Nat, k ≤ M ∧ Y = .int .i64 (k : Int) ∧ One1 2 w5 wr Z k o) (fun _ Y _ => M - (intOf Y).toNat)
  case atStart => exact ⟨0, by omega, rfl, One1.start _ _ (Below.refl _ _)⟩
  case round =>
    obtain ⟨k, kM, rfl, X⟩ := hrel
    have B2 := X.below
    have O2 := O.kept B2
    by_cases hlt : k < M
    · obtain ⟨p, q, hu, hp, hq⟩ := HU.out k hlt
      obtain ⟨d1, d2, fq, cm⟩ := HC.out k hlt
      have bo := HF2.out k hlt
      have ko := HK.out k hlt
      have o0 := O2.c k 0 hlt (by omega)
      have o1 := O2.c k 1 hlt (by omega)
      have o2 := O2.c k 2 hlt (by omega)
      have o3 := O2.c k 3 hlt (by omega)
      have e0 : shareF c L (y0, i0) o k 0 = L := rfl
      have e1 : shareF c L (y0, i0) o k 1 = p := hp
      have e2 : shareF c L (y0, i0) o k 2 = q := hq
      have e3 : shareF c L (y0, i0) o k 3 = o k := rfl
      rw [e0, Nat.add_zero] at o0
      rw [e1] at o1
      rw [e2] at o2
      rw [e3] at o3
      clear e0 e1 e2 e3 hp hq
      have kk : (k : Int) < (M : Int) := by omega
      have HV : Hid (lst o (k + 1) = lst o k ++ [.int .i64 (o k)]) := Lib.hid (lst_succ o k)
      obtain ⟨v, hv⟩ : ∃ v, o k = v := ⟨_, rfl⟩
      have HVV := Lib.hid hv
      rw [hv] at bo ko o3
      obtain ⟨dd, hdd⟩ : ∃ v, pd k = v := ⟨_, rfl⟩
      obtain ⟨qq, hqq⟩ : ∃ v, Go.Proofs.YtoeifpeiogeenaaGreatDoor.Sm.quo A pd M k = v := ⟨_, rfl⟩
      obtain ⟨rr, hrr⟩ : ∃ v, Go.Proofs.YtoeifpeiogeenaaGreatDoor.Sm.rem A pd M k = v := ⟨_, rfl⟩
      have HDD := Lib.hid hdd
      rw [hdd] at d1 d2
      rw [hqq] at fq
      rw [hqq, hrr] at ko
      rw [hdd, hqq, hrr] at cm
      clear hv hdd hqq hrr
      have B3 := balloc B2 (.cells #[.int .i64 L, .int .i64 p, .int .i64 q, .int .i64 v] 58)
      have K := Box.new wr #[.int .i64 L, .int .i64 p, .int .i64 q, .int .i64 v] 58
      have X3 := X.alloc (.cells #[.int .i64 L, .int .i64 p, .int .i64 q, .int .i64 v] 58)
      go_upto_region 17 with fail
      clear o0 o1 o2 o3 O2 X
      generalize wr.alloc (.cells #[.int .i64 L, .int .i64 p, .int .i64 q, .int .i64 v] 58) = W8 at *
      have D3 := D.kept B3
      have dc := D3.c k hlt
      rw [HDD.out] at dc
      go_wp2_with fail
      refine (cm _).mono ?_
      rintro e w9 ⟨rfl, hb⟩
      have B9 := bthen B3 hb
      have K9 := K.kept hb
      have X9 := X3.kept hb
      have R9 := R.kept B9
      obtain ⟨_, k0, k1, k2, k3, fk0, fk1, fk2, fk3⟩ := K9.four
      obtain ⟨rk0, rk1, rk2⟩ := R9.c k _ hu
      simp only at rk0 rk1 rk2
      clear B3 D3 dc K X3 hb R9
      have OO : (v != qq) = false ∨ ((v != qq) = true ∧ (rr == 0) = false ∧ IntKind.i64.wrap (v - 1) = qq) := by
        rcases ko with e | ⟨e, e2⟩
        · exact .inl (by simp [e])
        · refine .inr ⟨bne_iff_ne.2 (by omega), beq_eq_false_iff_ne.2 e2, ?_⟩
          rw [show v - 1 = qq by omega]
          exact IntWalk.i64_in _ (by unfold Fit1 at fq; omega)
      have q9 : (qq != qq) = false := by simp
      clear ko bo fq cm
      go_upto_region 18 with fail
      rcases OO with q1 | ⟨q1, q2, q3⟩
      all_goals
        go_quiet (fail)
        have Z9 := X9.kept (bdrewN (Below.refl _ w9) nq)
        obtain ⟨WD, hWD⟩ : ∃ WD, w9.drewN nq = WD := ⟨_, rfl⟩
        have bD : Below w9.heap.size w9 WD := by rw [← hWD]; exact bdrewN (Below.refl _ _) _
        rw [hWD] at Z9 ⊢
        have KD := K9.kept bD
        clear hWD k0 k1 k2 k3 fk0 fk1 fk2 fk3 rk0 rk1 rk2
        obtain ⟨_, k0, k1, k2, k3, fk0, fk1, fk2, fk3⟩ := KD.four
        go_wp2_with (first
          | (at_builtin; refine wpList_append_own_at _ rfl _ _ 54 rfl w5.heap.size 2 i1 (.int .i64 0) 1 8 underL6 hi hz0 hz1 hz2 rfl (by decide) _ k (lst o k) rfl (Z9.a.alloc _) ⟨WD.heap.size, 0, none⟩ 1 1 [.int .i64 v] rfl rfl ?c1 ?c2 ?c3 ?c4 ?c5 ?m1))
        case c1 =>
          intro j u hj
          match j, hj with
          | 0, hj => simp at hj; subst hj; simp [Addr.add, go_sem]
        case c2 => intro u hu; simp at hu; rcases hu with rfl; rfl
        case c3 => unfold maxLen; omega
        case c4 => omega
        case c5 => have z1 := B9.size; have z2 := bD.size; simp; omega
        case m1 =>
          intro v3 wz hown3 hg3 _ hat
          rw [← HVV.out] at hown3
          have X4 := Z9.next hown3 hg3
          go_wp2
          go_roundw
          case rel => exact ⟨k + 1, by omega, by go_num, X4⟩
          case measure => simp [intOf]; omega
    · obtain rfl : k = M := by omega
      have kk : decide ((k : Int) < (k : Int)) = false := decide_eq_false (by omega)
      obtain ⟨g, cap, rfl, Q, _, _⟩ := X.out (by omega)
      have cS := Go.Proofs.YtoeifpeiogeenaaGreatDoor.Vc.Sum_any (some ⟨g, 0, none⟩) k cap (Go.Proofs.YtoeifpeiogeenaaGreatDoor.Sl.ls o k) A 0 wr (Go.Proofs.YtoeifpeiogeenaaGreatDoor.Sl.ls_len _ _) (by omega) (Go.Proofs.YtoeifpeiogeenaaGreatDoor.Sl.ls_fit HF2.out) (Go.Proofs.YtoeifpeiogeenaaGreatDoor.Sl.row_rd Q) (.inl ⟨rfl, by rw [Go.Proofs.YtoeifpeiogeenaaGreatDoor.Sl.ls_sum, HS.out], by rw [Go.Proofs.YtoeifpeiogeenaaGreatDoor.Sl.ls_sum, HS.out]; exact fa⟩)
      clear X Q O2
      go_wp2_with fail
      refine cS.mono ?_
      rintro e w9 ⟨rfl, hb⟩
      go_wp2
      go_ret
      exact ⟨by simp, bthen (bthen B B2) hb⟩

theorem rsum_walk (c : CalZ) (L A a b : Int) (w : World) (wf : CalWf c) (wL : (Lit.int .i64 L).wf = true) (wA : (Lit.int .i64 A).wf = true) (w1 : (Lit.int .i64 a).wf = true) (w2 : (Lit.int .i64 b).wf = true) (tb : FTab w) :
    Calls Tryz.prog 9 #[.agg #[.string c.nm, .int .i64 c.k, .int .i64 c.d, .int .i64 c.m, .int .i64 c.s, .int .i64 c.sh, .int .i64 c.p0, .int .i64 c.p1, .int .i64 c.p2, .int .i64 c.cy, .int .i64 c.ex, .int .i64 c.fi, .int .i64 c.la, .int .i64 c.po], .int .i64 L, .int .i64 A, .agg #[.int .i64 a, .int .i64 b]] w fun e w' => e = .returned (.bool true) ∧ Below w.heap.size w w' := by
  rcases cut_ex c L a b with ⟨er, ne, R⟩ | ⟨y0, i0, y, n, N, h⟩
  · exact rsum_er c L A a b er w tb wf.1 R ne
  · exact rsum_ok c L A a b y0 i0 y n N (N + 1) w tb wf.1 (bounds_i64 wA) h rfl

end Go.Proofs.YtoeifpeiogeenaaGreatDoor.Pl
