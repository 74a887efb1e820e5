/- What asked, Day, Next, Back of the reference of layer 17 come to. -/
import Derived.Test.YtkfogmaogfgcgaaGreatDoorIru
import Derived.Test.YtkfogmaogfgcgaaGreatDoorJN
import Derived.Test.YtkfogmaogfgcgaaGreatDoorJFm
namespace Go.Proofs.YtkfogmaogfgcgaaGreatDoor.Rf
set_option linter.unusedSimpArgs false
set_option linter.unusedVariables false
open Go.RowKit Go.Maps Go.Proofs.YtkfogmaogfgcgaaGreatDoor.Bn Go.Proofs.YtkfogmaogfgcgaaGreatDoor.Bx Go.Proofs.YtkfogmaogfgcgaaGreatDoor.Cp Go.Proofs.YtkfogmaogfgcgaaGreatDoor.Am Go.Proofs.YtkfogmaogfgcgaaGreatDoor.Fp Go.Proofs.YtkfogmaogfgcgaaGreatDoor.Ap Go.Proofs.YtkfogmaogfgcgaaGreatDoor.Ar Go.Proofs.YtkfogmaogfgcgaaGreatDoor.Cm Go.Proofs.YtkfogmaogfgcgaaGreatDoor.Em Go.Proofs.YtkfogmaogfgcgaaGreatDoor.Ep Go.Proofs.YtkfogmaogfgcgaaGreatDoor.Rk Go.Proofs.YtkfogmaogfgcgaaGreatDoor.Hp Go.Proofs.YtkfogmaogfgcgaaGreatDoor.Hr Go.Proofs.YtkfogmaogfgcgaaGreatDoor.Ip Go.Proofs.YtkfogmaogfgcgaaGreatDoor.Jr Go.Proofs.YtkfogmaogfgcgaaGreatDoor.Ir

set_option maxHeartbeats 8000000

set_option maxRecDepth 100000 in
theorem rasked_any (c : CalZ) (L er : Int) (w : World) (R : (CalOk c ∧ LevOk L ∧ er = 0) ∨ (¬ (CalOk c ∧ LevOk L) ∧ er = 1)) (K : ChkSays c) :
    Calls Tryz.prog 50 #[.agg #[.string c.nm, .int .i64 c.k, .int .i64 c.d, .int .i64 c.m, .int .i64 c.s, .int .i64 c.sh, .int .i64 c.p0, .int .i64 c.p1, .int .i64 c.p2, .int .i64 c.cy, .int .i64 c.ex, .int .i64 c.fi, .int .i64 c.la, .int .i64 c.po], .int .i64 L] w fun e w' => e = .returned (.int .i64 er) ∧ Below w.heap.size w w' := by
  have C := CalIn.new w c 24
  have B := balloc (Below.refl _ w) (.cells #[.string c.nm, .int .i64 c.k, .int .i64 c.d, .int .i64 c.m, .int .i64 c.s, .int .i64 c.sh, .int .i64 c.p0, .int .i64 c.p1, .int .i64 c.p2, .int .i64 c.cy, .int .i64 c.ex, .int .i64 c.fi, .int .i64 c.la, .int .i64 c.po] 24)
  have O : ∃ e0, (∀ w, Calls Tryz.prog 85 #[.agg #[.string c.nm, .int .i64 c.k, .int .i64 c.d, .int .i64 c.m, .int .i64 c.s, .int .i64 c.sh, .int .i64 c.p0, .int .i64 c.p1, .int .i64 c.p2, .int .i64 c.cy, .int .i64 c.ex, .int .i64 c.fi, .int .i64 c.la, .int .i64 c.po]] w fun e w' => e = .returned (.int .i64 e0) ∧ Below w.heap.size w w') ∧ ((e0 = 1 ∧ er = 1) ∨ (e0 = 0 ∧ er = 1 ∧ decide (L < 1) = true) ∨ (e0 = 0 ∧ er = 1 ∧ decide (L < 1) = false ∧ decide ((5 : Int) < L) = true) ∨ (e0 = 0 ∧ er = 0 ∧ decide (L < 1) = false ∧ decide ((5 : Int) < L) = false)) := by
    by_cases ok : CalOk c
    · refine ⟨0, fun w => K 0 w (.inl ⟨ok, rfl⟩), ?_⟩
      rcases R with ⟨_, l, e⟩ | ⟨n, e⟩
      · exact .inr (.inr (.inr ⟨rfl, e, decide_eq_false (by have := l.1; omega), decide_eq_false (by have := l.2; omega)⟩))
      · have l : ¬ LevOk L := fun l => n ⟨ok, l⟩
        by_cases h : L < 1
        · exact .inr (.inl ⟨rfl, e, decide_eq_true h⟩)
        · exact .inr (.inr (.inl ⟨rfl, e, decide_eq_false h, decide_eq_true (by unfold LevOk at l; omega)⟩))
    · refine ⟨1, fun w => K 1 w (.inr ⟨ok, rfl⟩), .inl ⟨rfl, ?_⟩⟩
      rcases R with ⟨h, _⟩ | ⟨_, e⟩
      · exact absurd h ok
      · exact e
  clear R K
  obtain ⟨e0, ck, O⟩ := O
  rcases O with ⟨rfl, rfl⟩ | ⟨rfl, rfl, l0⟩ | ⟨rfl, rfl, l0, l1⟩ | ⟨rfl, rfl, l0, l1⟩
  all_goals
    go_enter Tryz.func50, Tryz.ntmps50
    go_upto_region 1 with fail
    generalize w.alloc (.cells #[.string c.nm, .int .i64 c.k, .int .i64 c.d, .int .i64 c.m, .int .i64 c.s, .int .i64 c.sh, .int .i64 c.p0, .int .i64 c.p1, .int .i64 c.p2, .int .i64 c.cy, .int .i64 c.ex, .int .i64 c.fi, .int .i64 c.la, .int .i64 c.po] 24) = W0 at *
    obtain ⟨_, c0, c1, c2, c3, c4, c5, c6, c7, c8, c9, c10, c11, c12, c13⟩ := id C
    go_wp2_with fail
    refine (ck _).mono ?_
    rintro e w1 ⟨rfl, hb⟩
    replace B := bthen B hb
    go_wp2
    go_ret
    exact ⟨by simp, B⟩

set_option maxRecDepth 100000 in
theorem rday_ok (c : CalZ) (d L q r : Int) (w : World) (ok : CalOk c) (l : LevOk L) (S : ServedA c d q 0) (hu : InU c q L d r) (K : ChkSays c) (O : OfSays c) (hm : c.nm.size ≤ maxLen) (T : FTab w) :
    Calls Tryz.prog 10 #[.agg #[.string c.nm, .int .i64 c.k, .int .i64 c.d, .int .i64 c.m, .int .i64 c.s, .int .i64 c.sh, .int .i64 c.p0, .int .i64 c.p1, .int .i64 c.p2, .int .i64 c.cy, .int .i64 c.ex, .int .i64 c.fi, .int .i64 c.la, .int .i64 c.po], .int .i64 d, .int .i64 L] w fun e w' => e = .returned (.tuple #[.agg #[.int .i64 L, .int .i64 q, .int .i64 r], .int .i64 0]) ∧ Below w.heap.size w w' := by
  have C := CalIn.new w c 24
  have B := balloc (Below.refl _ w) (.cells #[.string c.nm, .int .i64 c.k, .int .i64 c.d, .int .i64 c.m, .int .i64 c.s, .int .i64 c.sh, .int .i64 c.p0, .int .i64 c.p1, .int .i64 c.p2, .int .i64 c.cy, .int .i64 c.ex, .int .i64 c.fi, .int .i64 c.la, .int .i64 c.po] 24)
  replace T := T.alloc (.cells #[.string c.nm, .int .i64 c.k, .int .i64 c.d, .int .i64 c.m, .int .i64 c.s, .int .i64 c.sh, .int .i64 c.p0, .int .i64 c.p1, .int .i64 c.p2, .int .i64 c.cy, .int .i64 c.ex, .int .i64 c.fi, .int .i64 c.la, .int .i64 c.po] 24)
  have D := Go.Proofs.YtkfogmaogfgcgaaGreatDoor.Bx.Tri.new (w.alloc (.cells #[.string c.nm, .int .i64 c.k, .int .i64 c.d, .int .i64 c.m, .int .i64 c.s, .int .i64 c.sh, .int .i64 c.p0, .int .i64 c.p1, .int .i64 c.p2, .int .i64 c.cy, .int .i64 c.ex, .int .i64 c.fi, .int .i64 c.la, .int .i64 c.po] 24)) (.int .i64 0) (.int .i64 0) (.int .i64 0) 26
  rw [World.size_alloc] at D
  replace C := C.alloc (.cells #[.int .i64 0, .int .i64 0, .int .i64 0] 26)
  replace B := balloc B (.cells #[.int .i64 0, .int .i64 0, .int .i64 0] 26)
  replace T := T.alloc (.cells #[.int .i64 0, .int .i64 0, .int .i64 0] 26)
  obtain ⟨_, sv, _, _⟩ := served_to S
  have st := served_told ok sv
  have ca := fun w => rasked_any c L 0 w (.inl ⟨ok, l, rfl⟩) K
  have cv := fun w => rServed_any c d q 0 w S K O
  have cb := ucount_bd (L := L) (y := q) ok.1 (by omega) (by omega)
  have pb := per_bd ok.1
  obtain ⟨N, hN⟩ : ∃ N : Nat, (N : Int) = ucount c q L := ⟨(ucount c q L).toNat, by omega⟩
  obtain ⟨n, hn⟩ : ∃ n : Nat, (n : Int) = per c := ⟨(per c).toNat, by omega⟩
  have cl := fun w T => rspans_ok L c q n N w l ok sv hn hN K hm T
  rw [← hN] at cb
  have HR : Hid (∀ k : Nat, (k : Int) + 1 ≤ r → k < N ∧ ∃ f t : Int, (spl c q L N)[k]? = some (f, t) ∧ (((k : Int) + 1 < r ∧ decide (t < d) = true) ∨ ((k : Int) + 1 = r ∧ decide (t < d) = false))) :=
    Lib.hid (fun k hk => by
      obtain ⟨h0, h1⟩ := day_step ok l sv hu (k := (k : Int)) (by omega) hk
      have kN : k < N := by omega
      refine ⟨kN, _, _, spl_at c q L N k kN, ?_⟩
      by_cases e : (k : Int) + 1 < r
      · exact .inl ⟨e, decide_eq_true (h1.2 e)⟩
      · exact .inr ⟨by omega, decide_eq_false (fun z => e (h1.1 z))⟩)
  have rb : 1 ≤ r := hu.1
  have r60 : r ≤ 60 := by have := hu.2.1; omega
  clear ok l S hu sv st hN hn K O pb
  go_enter Tryz.func10, Tryz.ntmps10
  go_upto_region 1 with fail
  generalize (w.alloc (.cells #[.string c.nm, .int .i64 c.k, .int .i64 c.d, .int .i64 c.m, .int .i64 c.s, .int .i64 c.sh, .int .i64 c.p0, .int .i64 c.p1, .int .i64 c.p2, .int .i64 c.cy, .int .i64 c.ex, .int .i64 c.fi, .int .i64 c.la, .int .i64 c.po] 24)).alloc (.cells #[.int .i64 0, .int .i64 0, .int .i64 0] 26) = W0 at *
  obtain ⟨_, c0, c1, c2, c3, c4, c5, c6, c7, c8, c9, c10, c11, c12, c13⟩ := id C
  obtain ⟨_, r0, r1, r2, g0, g1, g2⟩ := id D
  go_wp2_with fail
  refine (ca _).mono ?_
  rintro e w1 ⟨rfl, hb⟩
  replace C := C.kept hb
  replace B := bthen B hb
  replace T := T.kept hb
  replace D := D.kept hb
  clear hb c0 c1 c2 c3 c4 c5 c6 c7 c8 c9 c10 c11 c12 c13 r0 r1 r2 g0 g1 g2
  obtain ⟨_, c0, c1, c2, c3, c4, c5, c6, c7, c8, c9, c10, c11, c12, c13⟩ := id C
  obtain ⟨_, r0, r1, r2, g0, g1, g2⟩ := id D
  go_wp2_with fail
  refine (cv _).mono ?_
  rintro e w2 ⟨rfl, hb⟩
  replace C := C.kept hb
  replace B := bthen B hb
  replace T := T.kept hb
  replace D := D.kept hb
  clear hb c0 c1 c2 c3 c4 c5 c6 c7 c8 c9 c10 c11 c12 c13 r0 r1 r2 g0 g1 g2
  obtain ⟨_, c0, c1, c2, c3, c4, c5, c6, c7, c8, c9, c10, c11, c12, c13⟩ := id C
  obtain ⟨_, r0, r1, r2, g0, g1, g2⟩ := id D
  go_wp2_with fail
  refine (cl _ T).mono ?_
  rintro e w3 ⟨g, cap, rfl, SR, hg, hb, hcp⟩
  replace C := C.kept hb
  replace B := bthen B hb
  replace T := T.kept hb
  replace D := D.kept hb
  clear hb c0 c1 c2 c3 c4 c5 c6 c7 c8 c9 c10 c11 c12 c13 r0 r1 r2 g0 g1 g2
  obtain ⟨_, c0, c1, c2, c3, c4, c5, c6, c7, c8, c9, c10, c11, c12, c13⟩ := id C
  obtain ⟨_, r0, r1, r2, g0, g1, g2⟩ := id D
  clear ca cv cl hg
  clear c0 c1 c2 c3 c4 c5 c6 c7 c8 c9 c10 c11 c12 c13 r0 r1 r2 g0 g1 g2
  go_wp2
  go_loopw [13] (fun I wr => ∃ k : Nat, (k : Int) + 1 ≤ r ∧ I = .int .i64 (k : Int) ∧ Below w3.heap.size w3 wr) (fun I _ => (r - intOf I).toNat)
  case atStart => exact ⟨0, by omega, rfl, Below.refl _ _⟩
  case round =>
    obtain ⟨k, kM, rfl, B2⟩ := hrel
    obtain ⟨kN, f, t, sa, OO⟩ := HR.out k kM
    have SR2 := SR.kept B2
    obtain ⟨e0, e1⟩ := SR2.c k _ sa
    simp only at e0 e1
    have kk : (k : Int) < (N : Int) := by omega
    have k60 : (k : Int) ≤ 60 := by omega
    clear sa
    rcases OO with ⟨k1, dt⟩ | ⟨k1, dt⟩
    · have HK := Lib.hid k1
      clear k1
      go_wp2
      go_roundw
      case rel => exact ⟨k + 1, by have := HK.out; omega, by go_num, B2⟩
      case measure => have := HK.out; simp [intOf]; omega
    · obtain rfl : r = (k : Int) + 1 := by omega
      clear k1
      replace B := bthen B B2
      replace D := D.kept B2
      obtain ⟨_, r0, r1, r2, g0, g1, g2⟩ := id D
      go_wp2
      refine bodyPost_ret (v := .tuple #[.agg #[.int .i64 L, .int .i64 q, .int .i64 ((k : Int) + 1)], .int .i64 0]) (by simp [results, Tryz.results10, go_sem, *]) rfl ⟨rfl, ?_⟩
      exact bset (bset (bset B (by omega) _ _) (by omega) _ _) (by omega) _ _

set_option maxRecDepth 100000 in
theorem rday_no (c : CalZ) (d L er : Int) (w : World) (h : (CalOk c ∧ LevOk L ∧ ServedA c d 0 er ∧ er ≠ 0) ∨ (¬ (CalOk c ∧ LevOk L) ∧ er = 1)) (K : ChkSays c) (O : OfSays c) (hm : c.nm.size ≤ maxLen) (T : FTab w) :
    Calls Tryz.prog 10 #[.agg #[.string c.nm, .int .i64 c.k, .int .i64 c.d, .int .i64 c.m, .int .i64 c.s, .int .i64 c.sh, .int .i64 c.p0, .int .i64 c.p1, .int .i64 c.p2, .int .i64 c.cy, .int .i64 c.ex, .int .i64 c.fi, .int .i64 c.la, .int .i64 c.po], .int .i64 d, .int .i64 L] w fun e w' => e = .returned (.tuple #[.agg #[.int .i64 0, .int .i64 0, .int .i64 0], .int .i64 er]) ∧ Below w.heap.size w w' := by
  have C := CalIn.new w c 24
  have B := balloc (Below.refl _ w) (.cells #[.string c.nm, .int .i64 c.k, .int .i64 c.d, .int .i64 c.m, .int .i64 c.s, .int .i64 c.sh, .int .i64 c.p0, .int .i64 c.p1, .int .i64 c.p2, .int .i64 c.cy, .int .i64 c.ex, .int .i64 c.fi, .int .i64 c.la, .int .i64 c.po] 24)
  replace T := T.alloc (.cells #[.string c.nm, .int .i64 c.k, .int .i64 c.d, .int .i64 c.m, .int .i64 c.s, .int .i64 c.sh, .int .i64 c.p0, .int .i64 c.p1, .int .i64 c.p2, .int .i64 c.cy, .int .i64 c.ex, .int .i64 c.fi, .int .i64 c.la, .int .i64 c.po] 24)
  have D := Go.Proofs.YtkfogmaogfgcgaaGreatDoor.Bx.Tri.new (w.alloc (.cells #[.string c.nm, .int .i64 c.k, .int .i64 c.d, .int .i64 c.m, .int .i64 c.s, .int .i64 c.sh, .int .i64 c.p0, .int .i64 c.p1, .int .i64 c.p2, .int .i64 c.cy, .int .i64 c.ex, .int .i64 c.fi, .int .i64 c.la, .int .i64 c.po] 24)) (.int .i64 0) (.int .i64 0) (.int .i64 0) 26
  rw [World.size_alloc] at D
  replace C := C.alloc (.cells #[.int .i64 0, .int .i64 0, .int .i64 0] 26)
  replace B := balloc B (.cells #[.int .i64 0, .int .i64 0, .int .i64 0] 26)
  replace T := T.alloc (.cells #[.int .i64 0, .int .i64 0, .int .i64 0] 26)
  rcases h with ⟨ok, l, S, h⟩ | ⟨no, rfl⟩
  · have ca := fun w => rasked_any c L 0 w (.inl ⟨ok, l, rfl⟩) K
    have cv := fun w => rServed_any c d 0 er w S K O
    have e0 : (er != 0) = true := bne_iff_ne.2 h
    clear ok l S h K O
    go_enter Tryz.func10, Tryz.ntmps10
    go_upto_region 1 with fail
    generalize (w.alloc (.cells #[.string c.nm, .int .i64 c.k, .int .i64 c.d, .int .i64 c.m, .int .i64 c.s, .int .i64 c.sh, .int .i64 c.p0, .int .i64 c.p1, .int .i64 c.p2, .int .i64 c.cy, .int .i64 c.ex, .int .i64 c.fi, .int .i64 c.la, .int .i64 c.po] 24)).alloc (.cells #[.int .i64 0, .int .i64 0, .int .i64 0] 26) = W0 at *
    obtain ⟨_, c0, c1, c2, c3, c4, c5, c6, c7, c8, c9, c10, c11, c12, c13⟩ := id C
    obtain ⟨_, r0, r1, r2, g0, g1, g2⟩ := id D
    go_wp2_with fail
    refine (ca _).mono ?_
    rintro e w1 ⟨rfl, hb⟩
    replace C := C.kept hb
    replace B := bthen B hb
    replace T := T.kept hb
    replace D := D.kept hb
    clear hb c0 c1 c2 c3 c4 c5 c6 c7 c8 c9 c10 c11 c12 c13 r0 r1 r2 g0 g1 g2
    obtain ⟨_, c0, c1, c2, c3, c4, c5, c6, c7, c8, c9, c10, c11, c12, c13⟩ := id C
    obtain ⟨_, r0, r1, r2, g0, g1, g2⟩ := id D
    go_wp2_with fail
    refine (cv _).mono ?_
    rintro e w2 ⟨rfl, hb⟩
    replace C := C.kept hb
    replace B := bthen B hb
    replace T := T.kept hb
    replace D := D.kept hb
    clear hb c0 c1 c2 c3 c4 c5 c6 c7 c8 c9 c10 c11 c12 c13 r0 r1 r2 g0 g1 g2
    obtain ⟨_, c0, c1, c2, c3, c4, c5, c6, c7, c8, c9, c10, c11, c12, c13⟩ := id C
    obtain ⟨_, r0, r1, r2, g0, g1, g2⟩ := id D
    go_wp2
    refine bodyPost_ret (v := .tuple #[.agg #[.int .i64 0, .int .i64 0, .int .i64 0], .int .i64 er]) (by simp [results, Tryz.results10, go_sem, *]) rfl ⟨rfl, ?_⟩
    exact bset (bset (bset B (by omega) _ _) (by omega) _ _) (by omega) _ _
  · have ca := fun w => rasked_any c L 1 w (.inr ⟨no, rfl⟩) K
    clear no K O
    go_enter Tryz.func10, Tryz.ntmps10
    go_upto_region 1 with fail
    generalize (w.alloc (.cells #[.string c.nm, .int .i64 c.k, .int .i64 c.d, .int .i64 c.m, .int .i64 c.s, .int .i64 c.sh, .int .i64 c.p0, .int .i64 c.p1, .int .i64 c.p2, .int .i64 c.cy, .int .i64 c.ex, .int .i64 c.fi, .int .i64 c.la, .int .i64 c.po] 24)).alloc (.cells #[.int .i64 0, .int .i64 0, .int .i64 0] 26) = W0 at *
    obtain ⟨_, c0, c1, c2, c3, c4, c5, c6, c7, c8, c9, c10, c11, c12, c13⟩ := id C
    obtain ⟨_, r0, r1, r2, g0, g1, g2⟩ := id D
    go_wp2_with fail
    refine (ca _).mono ?_
    rintro e w3 ⟨rfl, hb⟩
    replace C := C.kept hb
    replace B := bthen B hb
    replace T := T.kept hb
    replace D := D.kept hb
    clear hb c0 c1 c2 c3 c4 c5 c6 c7 c8 c9 c10 c11 c12 c13 r0 r1 r2 g0 g1 g2
    obtain ⟨_, c0, c1, c2, c3, c4, c5, c6, c7, c8, c9, c10, c11, c12, c13⟩ := id C
    obtain ⟨_, r0, r1, r2, g0, g1, g2⟩ := id D
    go_wp2
    refine bodyPost_ret (v := .tuple #[.agg #[.int .i64 0, .int .i64 0, .int .i64 0], .int .i64 1]) (by simp [results, Tryz.results10, go_sem, *]) rfl ⟨rfl, ?_⟩
    exact bset (bset (bset B (by omega) _ _) (by omega) _ _) (by omega) _ _

theorem rDay17_any (c : CalZ) (d L p q r er : Int) (w : World) (R : DayA c d L p q r er) (K : ChkSays c) (O : OfSays c) (hm : c.nm.size ≤ maxLen) (T : FTab w) :
    Calls Tryz.prog 10 #[.agg #[.string c.nm, .int .i64 c.k, .int .i64 c.d, .int .i64 c.m, .int .i64 c.s, .int .i64 c.sh, .int .i64 c.p0, .int .i64 c.p1, .int .i64 c.p2, .int .i64 c.cy, .int .i64 c.ex, .int .i64 c.fi, .int .i64 c.la, .int .i64 c.po], .int .i64 d, .int .i64 L] w fun e w' => e = .returned (.tuple #[.agg #[.int .i64 p, .int .i64 q, .int .i64 r], .int .i64 er]) ∧ Below w.heap.size w w' := by
  rcases R with ⟨ok, l, S, hu, rfl, rfl⟩ | ⟨ok, l, S, h, rfl, rfl, rfl⟩ | ⟨ok, l, rfl, rfl, rfl, rfl⟩ | ⟨no, rfl, rfl, rfl, rfl⟩
  · exact rday_ok c d p q r w ok l S hu K O hm T
  · exact rday_no c d L er w (.inl ⟨ok, l, S, h⟩) K O hm T
  · exact rday_no c d L 1 w (.inr ⟨fun z => l z.2, rfl⟩) K O hm T
  · exact rday_no c d L 1 w (.inr ⟨fun z => no z.1, rfl⟩) K O hm T

theorem uchka_of {c : CalZ} {L y i : Int} (h : UnitOk c L y i) : UChkA c L y i 0 := by
  obtain ⟨er, k⟩ := uchka_ex c L y i
  obtain rfl := (uchka_ok k).2 h
  exact k

set_option maxRecDepth 100000 in
theorem rNext_any (c : CalZ) (L y i p q r er : Int) (w : World) (R : (UnitOk c L y i ∧ i < ucount c y L ∧ p = L ∧ q = y ∧ r = i + 1 ∧ er = 0) ∨ (UnitOk c L y i ∧ i = ucount c y L ∧ y = c.la ∧ p = 0 ∧ q = 0 ∧ r = 0 ∧ er = 11) ∨ (UnitOk c L y i ∧ i = ucount c y L ∧ y < c.la ∧ p = L ∧ q = y + 1 ∧ r = 1 ∧ er = 0) ∨ (¬ UnitOk c L y i ∧ UChkA c L y i er ∧ er ≠ 0 ∧ p = 0 ∧ q = 0 ∧ r = 0)) (K : ChkSays c) (hm : c.nm.size ≤ maxLen) (T : FTab w) :
    Calls Tryz.prog 12 #[.agg #[.string c.nm, .int .i64 c.k, .int .i64 c.d, .int .i64 c.m, .int .i64 c.s, .int .i64 c.sh, .int .i64 c.p0, .int .i64 c.p1, .int .i64 c.p2, .int .i64 c.cy, .int .i64 c.ex, .int .i64 c.fi, .int .i64 c.la, .int .i64 c.po], .agg #[.int .i64 L, .int .i64 y, .int .i64 i]] w fun e w' => e = .returned (.tuple #[.agg #[.int .i64 p, .int .i64 q, .int .i64 r], .int .i64 er]) ∧ Below w.heap.size w w' := by
  have C := CalIn.new w c 24
  have B := balloc (Below.refl _ w) (.cells #[.string c.nm, .int .i64 c.k, .int .i64 c.d, .int .i64 c.m, .int .i64 c.s, .int .i64 c.sh, .int .i64 c.p0, .int .i64 c.p1, .int .i64 c.p2, .int .i64 c.cy, .int .i64 c.ex, .int .i64 c.fi, .int .i64 c.la, .int .i64 c.po] 24)
  replace T := T.alloc (.cells #[.string c.nm, .int .i64 c.k, .int .i64 c.d, .int .i64 c.m, .int .i64 c.s, .int .i64 c.sh, .int .i64 c.p0, .int .i64 c.p1, .int .i64 c.p2, .int .i64 c.cy, .int .i64 c.ex, .int .i64 c.fi, .int .i64 c.la, .int .i64 c.po] 24)
  have U := Go.Proofs.YtkfogmaogfgcgaaGreatDoor.Bx.Tri.new (w.alloc (.cells #[.string c.nm, .int .i64 c.k, .int .i64 c.d, .int .i64 c.m, .int .i64 c.s, .int .i64 c.sh, .int .i64 c.p0, .int .i64 c.p1, .int .i64 c.p2, .int .i64 c.cy, .int .i64 c.ex, .int .i64 c.fi, .int .i64 c.la, .int .i64 c.po] 24)) (.int .i64 L) (.int .i64 y) (.int .i64 i) 26
  rw [World.size_alloc] at U
  have D := Go.Proofs.YtkfogmaogfgcgaaGreatDoor.Bx.Tri.new ((w.alloc (.cells #[.string c.nm, .int .i64 c.k, .int .i64 c.d, .int .i64 c.m, .int .i64 c.s, .int .i64 c.sh, .int .i64 c.p0, .int .i64 c.p1, .int .i64 c.p2, .int .i64 c.cy, .int .i64 c.ex, .int .i64 c.fi, .int .i64 c.la, .int .i64 c.po] 24)).alloc (.cells #[.int .i64 L, .int .i64 y, .int .i64 i] 26)) (.int .i64 0) (.int .i64 0) (.int .i64 0) 26
  have zz : ((w.alloc (.cells #[.string c.nm, .int .i64 c.k, .int .i64 c.d, .int .i64 c.m, .int .i64 c.s, .int .i64 c.sh, .int .i64 c.p0, .int .i64 c.p1, .int .i64 c.p2, .int .i64 c.cy, .int .i64 c.ex, .int .i64 c.fi, .int .i64 c.la, .int .i64 c.po] 24)).alloc (.cells #[.int .i64 L, .int .i64 y, .int .i64 i] 26)).heap.size = w.heap.size + 2 := by simp
  rw [zz] at D
  replace U := U.alloc (.cells #[.int .i64 0, .int .i64 0, .int .i64 0] 26)
  replace C := (C.alloc (.cells #[.int .i64 L, .int .i64 y, .int .i64 i] 26)).alloc (.cells #[.int .i64 0, .int .i64 0, .int .i64 0] 26)
  replace B := balloc (balloc B (.cells #[.int .i64 L, .int .i64 y, .int .i64 i] 26)) (.cells #[.int .i64 0, .int .i64 0, .int .i64 0] 26)
  replace T := (T.alloc (.cells #[.int .i64 L, .int .i64 y, .int .i64 i] 26)).alloc (.cells #[.int .i64 0, .int .i64 0, .int .i64 0] 26)
  clear zz
  rcases R with ⟨uo, h, rfl, rfl, rfl, rfl⟩ | ⟨uo, h, h2, rfl, rfl, rfl, rfl⟩ | ⟨uo, h, h2, rfl, rfl, rfl, rfl⟩ | ⟨no, k, h, rfl, rfl, rfl⟩
  · have ck := fun w T => rUCheck_any c p q i 0 w ((uchka_of uo)) K hm T
    have sv := uo.2.2.1
    have st := served_told uo.1 sv
    have cb := ucount_bd (L := p) (y := q) uo.1.1 (by omega) (by omega)
    have ib : 1 ≤ i ∧ i ≤ 60 := ⟨uo.2.2.2.1, by have := uo.2.2.2.2; omega⟩
    obtain ⟨v, hv⟩ : ∃ v, ucount c q p = v := ⟨_, rfl⟩
    have cc := fun w T => rCount_any c p q v 0 w (.inl ⟨uo.1, uo.2.1, sv, hv.symm, rfl⟩) K hm T
    rw [hv] at h cb
    have d1 : decide (i < v) = true := decide_eq_true h
    clear uo sv K hv
    go_enter Tryz.func12, Tryz.ntmps12
    go_upto_region 1 with fail
    generalize ((w.alloc (.cells #[.string c.nm, .int .i64 c.k, .int .i64 c.d, .int .i64 c.m, .int .i64 c.s, .int .i64 c.sh, .int .i64 c.p0, .int .i64 c.p1, .int .i64 c.p2, .int .i64 c.cy, .int .i64 c.ex, .int .i64 c.fi, .int .i64 c.la, .int .i64 c.po] 24)).alloc (.cells #[.int .i64 p, .int .i64 q, .int .i64 i] 26)).alloc (.cells #[.int .i64 0, .int .i64 0, .int .i64 0] 26) = W0 at *
    obtain ⟨_, c0, c1, c2, c3, c4, c5, c6, c7, c8, c9, c10, c11, c12, c13⟩ := id C
    obtain ⟨_, u0, u1, u2, fu0, fu1, fu2⟩ := id U
    obtain ⟨_, r0, r1, r2, g0, g1, g2⟩ := id D
    go_wp2_with fail
    refine (ck _ T).mono ?_
    rintro e w1 ⟨rfl, hb⟩
    replace C := C.kept hb
    replace B := bthen B hb
    replace T := T.kept hb
    replace U := U.kept hb
    replace D := D.kept hb
    clear hb c0 c1 c2 c3 c4 c5 c6 c7 c8 c9 c10 c11 c12 c13 u0 u1 u2 fu0 fu1 fu2 r0 r1 r2 g0 g1 g2
    obtain ⟨_, c0, c1, c2, c3, c4, c5, c6, c7, c8, c9, c10, c11, c12, c13⟩ := id C
    obtain ⟨_, u0, u1, u2, fu0, fu1, fu2⟩ := id U
    obtain ⟨_, r0, r1, r2, g0, g1, g2⟩ := id D
    go_wp2_with fail
    refine (cc _ T).mono ?_
    rintro e w2 ⟨rfl, hb⟩
    replace C := C.kept hb
    replace B := bthen B hb
    replace T := T.kept hb
    replace U := U.kept hb
    replace D := D.kept hb
    clear hb c0 c1 c2 c3 c4 c5 c6 c7 c8 c9 c10 c11 c12 c13 u0 u1 u2 fu0 fu1 fu2 r0 r1 r2 g0 g1 g2
    obtain ⟨_, c0, c1, c2, c3, c4, c5, c6, c7, c8, c9, c10, c11, c12, c13⟩ := id C
    obtain ⟨_, u0, u1, u2, fu0, fu1, fu2⟩ := id U
    obtain ⟨_, r0, r1, r2, g0, g1, g2⟩ := id D
    go_wp2
    refine bodyPost_ret (v := .tuple #[.agg #[.int .i64 p, .int .i64 q, .int .i64 (i + 1)], .int .i64 0]) (by simp [results, Tryz.results12, go_sem, *]) rfl ⟨rfl, ?_⟩
    exact bset (bset (bset B (by omega) _ _) (by omega) _ _) (by omega) _ _
  · have ck := fun w T => rUCheck_any c L y i 0 w ((uchka_of uo)) K hm T
    have sv := uo.2.2.1
    have st := served_told uo.1 sv
    have cb := ucount_bd (L := L) (y := y) uo.1.1 (by omega) (by omega)
    have ib : 1 ≤ i ∧ i ≤ 60 := ⟨uo.2.2.2.1, by have := uo.2.2.2.2; omega⟩
    obtain ⟨v, hv⟩ : ∃ v, ucount c y L = v := ⟨_, rfl⟩
    have cc := fun w T => rCount_any c L y v 0 w (.inl ⟨uo.1, uo.2.1, sv, hv.symm, rfl⟩) K hm T
    rw [hv] at h cb
    have d1 : decide (i < v) = false := decide_eq_false (by omega)
    have d2 : (y == c.la) = true := beq_iff_eq.2 h2
    clear h2 h
    clear uo sv K hv
    go_enter Tryz.func12, Tryz.ntmps12
    go_upto_region 1 with fail
    generalize ((w.alloc (.cells #[.string c.nm, .int .i64 c.k, .int .i64 c.d, .int .i64 c.m, .int .i64 c.s, .int .i64 c.sh, .int .i64 c.p0, .int .i64 c.p1, .int .i64 c.p2, .int .i64 c.cy, .int .i64 c.ex, .int .i64 c.fi, .int .i64 c.la, .int .i64 c.po] 24)).alloc (.cells #[.int .i64 L, .int .i64 y, .int .i64 i] 26)).alloc (.cells #[.int .i64 0, .int .i64 0, .int .i64 0] 26) = W0 at *
    obtain ⟨_, c0, c1, c2, c3, c4, c5, c6, c7, c8, c9, c10, c11, c12, c13⟩ := id C
    obtain ⟨_, u0, u1, u2, fu0, fu1, fu2⟩ := id U
    obtain ⟨_, r0, r1, r2, g0, g1, g2⟩ := id D
    go_wp2_with fail
    refine (ck _ T).mono ?_
    rintro e w3 ⟨rfl, hb⟩
    replace C := C.kept hb
    replace B := bthen B hb
    replace T := T.kept hb
    replace U := U.kept hb
    replace D := D.kept hb
    clear hb c0 c1 c2 c3 c4 c5 c6 c7 c8 c9 c10 c11 c12 c13 u0 u1 u2 fu0 fu1 fu2 r0 r1 r2 g0 g1 g2
    obtain ⟨_, c0, c1, c2, c3, c4, c5, c6, c7, c8, c9, c10, c11, c12, c13⟩ := id C
    obtain ⟨_, u0, u1, u2, fu0, fu1, fu2⟩ := id U
    obtain ⟨_, r0, r1, r2, g0, g1, g2⟩ := id D
    go_wp2_with fail
    refine (cc _ T).mono ?_
    rintro e w4 ⟨rfl, hb⟩
    replace C := C.kept hb
    replace B := bthen B hb
    replace T := T.kept hb
    replace U := U.kept hb
    replace D := D.kept hb
    clear hb c0 c1 c2 c3 c4 c5 c6 c7 c8 c9 c10 c11 c12 c13 u0 u1 u2 fu0 fu1 fu2 r0 r1 r2 g0 g1 g2
    obtain ⟨_, c0, c1, c2, c3, c4, c5, c6, c7, c8, c9, c10, c11, c12, c13⟩ := id C
    obtain ⟨_, u0, u1, u2, fu0, fu1, fu2⟩ := id U
    obtain ⟨_, r0, r1, r2, g0, g1, g2⟩ := id D
    go_wp2
    refine bodyPost_ret (v := .tuple #[.agg #[.int .i64 0, .int .i64 0, .int .i64 0], .int .i64 11]) (by simp [results, Tryz.results12, go_sem, *]) rfl ⟨rfl, ?_⟩
    exact bset (bset (bset B (by omega) _ _) (by omega) _ _) (by omega) _ _
  · have ck := fun w T => rUCheck_any c p y i 0 w ((uchka_of uo)) K hm T
    have sv := uo.2.2.1
    have st := served_told uo.1 sv
    have cb := ucount_bd (L := p) (y := y) uo.1.1 (by omega) (by omega)
    have ib : 1 ≤ i ∧ i ≤ 60 := ⟨uo.2.2.2.1, by have := uo.2.2.2.2; omega⟩
    obtain ⟨v, hv⟩ : ∃ v, ucount c y p = v := ⟨_, rfl⟩
    have cc := fun w T => rCount_any c p y v 0 w (.inl ⟨uo.1, uo.2.1, sv, hv.symm, rfl⟩) K hm T
    rw [hv] at h cb
    have d1 : decide (i < v) = false := decide_eq_false (by omega)
    have d2 : (y == c.la) = false := beq_eq_false_iff_ne.2 (by omega)
    clear h2 h
    clear uo sv K hv
    go_enter Tryz.func12, Tryz.ntmps12
    go_upto_region 1 with fail
    generalize ((w.alloc (.cells #[.string c.nm, .int .i64 c.k, .int .i64 c.d, .int .i64 c.m, .int .i64 c.s, .int .i64 c.sh, .int .i64 c.p0, .int .i64 c.p1, .int .i64 c.p2, .int .i64 c.cy, .int .i64 c.ex, .int .i64 c.fi, .int .i64 c.la, .int .i64 c.po] 24)).alloc (.cells #[.int .i64 p, .int .i64 y, .int .i64 i] 26)).alloc (.cells #[.int .i64 0, .int .i64 0, .int .i64 0] 26) = W0 at *
    obtain ⟨_, c0, c1, c2, c3, c4, c5, c6, c7, c8, c9, c10, c11, c12, c13⟩ := id C
    obtain ⟨_, u0, u1, u2, fu0, fu1, fu2⟩ := id U
    obtain ⟨_, r0, r1, r2, g0, g1, g2⟩ := id D
    go_wp2_with fail
    refine (ck _ T).mono ?_
    rintro e w5 ⟨rfl, hb⟩
    replace C := C.kept hb
    replace B := bthen B hb
    replace T := T.kept hb
    replace U := U.kept hb
    replace D := D.kept hb
    clear hb c0 c1 c2 c3 c4 c5 c6 c7 c8 c9 c10 c11 c12 c13 u0 u1 u2 fu0 fu1 fu2 r0 r1 r2 g0 g1 g2
    obtain ⟨_, c0, c1, c2, c3, c4, c5, c6, c7, c8, c9, c10, c11, c12, c13⟩ := id C
    obtain ⟨_, u0, u1, u2, fu0, fu1, fu2⟩ := id U
    obtain ⟨_, r0, r1, r2, g0, g1, g2⟩ := id D
    go_wp2_with fail
    refine (cc _ T).mono ?_
    rintro e w6 ⟨rfl, hb⟩
    replace C := C.kept hb
    replace B := bthen B hb
    replace T := T.kept hb
    replace U := U.kept hb
    replace D := D.kept hb
    clear hb c0 c1 c2 c3 c4 c5 c6 c7 c8 c9 c10 c11 c12 c13 u0 u1 u2 fu0 fu1 fu2 r0 r1 r2 g0 g1 g2
    obtain ⟨_, c0, c1, c2, c3, c4, c5, c6, c7, c8, c9, c10, c11, c12, c13⟩ := id C
    obtain ⟨_, u0, u1, u2, fu0, fu1, fu2⟩ := id U
    obtain ⟨_, r0, r1, r2, g0, g1, g2⟩ := id D
    go_wp2
    refine bodyPost_ret (v := .tuple #[.agg #[.int .i64 p, .int .i64 (y + 1), .int .i64 1], .int .i64 0]) (by simp [results, Tryz.results12, go_sem, *]) rfl ⟨rfl, ?_⟩
    exact bset (bset (bset B (by omega) _ _) (by omega) _ _) (by omega) _ _
  · have ck := fun w T => rUCheck_any c L y i er w k K hm T
    have e0 : (er != 0) = true := bne_iff_ne.2 h
    clear no k h K
    go_enter Tryz.func12, Tryz.ntmps12
    go_upto_region 1 with fail
    generalize ((w.alloc (.cells #[.string c.nm, .int .i64 c.k, .int .i64 c.d, .int .i64 c.m, .int .i64 c.s, .int .i64 c.sh, .int .i64 c.p0, .int .i64 c.p1, .int .i64 c.p2, .int .i64 c.cy, .int .i64 c.ex, .int .i64 c.fi, .int .i64 c.la, .int .i64 c.po] 24)).alloc (.cells #[.int .i64 L, .int .i64 y, .int .i64 i] 26)).alloc (.cells #[.int .i64 0, .int .i64 0, .int .i64 0] 26) = W0 at *
    obtain ⟨_, c0, c1, c2, c3, c4, c5, c6, c7, c8, c9, c10, c11, c12, c13⟩ := id C
    obtain ⟨_, u0, u1, u2, fu0, fu1, fu2⟩ := id U
    obtain ⟨_, r0, r1, r2, g0, g1, g2⟩ := id D
    go_wp2_with fail
    refine (ck _ T).mono ?_
    rintro e w7 ⟨rfl, hb⟩
    replace C := C.kept hb
    replace B := bthen B hb
    replace T := T.kept hb
    replace U := U.kept hb
    replace D := D.kept hb
    clear hb c0 c1 c2 c3 c4 c5 c6 c7 c8 c9 c10 c11 c12 c13 u0 u1 u2 fu0 fu1 fu2 r0 r1 r2 g0 g1 g2
    obtain ⟨_, c0, c1, c2, c3, c4, c5, c6, c7, c8, c9, c10, c11, c12, c13⟩ := id C
    obtain ⟨_, u0, u1, u2, fu0, fu1, fu2⟩ := id U
    obtain ⟨_, r0, r1, r2, g0, g1, g2⟩ := id D
    go_wp2
    refine bodyPost_ret (v := .tuple #[.agg #[.int .i64 0, .int .i64 0, .int .i64 0], .int .i64 er]) (by simp [results, Tryz.results12, go_sem, *]) rfl ⟨rfl, ?_⟩
    exact bset (bset (bset B (by omega) _ _) (by omega) _ _) (by omega) _ _

set_option maxRecDepth 100000 in
theorem rBack_any (c : CalZ) (L y i p q r er : Int) (w : World) (R : (UnitOk c L y i ∧ 1 < i ∧ p = L ∧ q = y ∧ r = i - 1 ∧ er = 0) ∨ (UnitOk c L y i ∧ i = 1 ∧ y = c.fi ∧ p = 0 ∧ q = 0 ∧ r = 0 ∧ er = 11) ∨ (UnitOk c L y i ∧ i = 1 ∧ c.fi < y ∧ Served c (y - 1) ∧ p = L ∧ q = y - 1 ∧ r = ucount c (y - 1) L ∧ er = 0) ∨ (¬ UnitOk c L y i ∧ UChkA c L y i er ∧ er ≠ 0 ∧ p = 0 ∧ q = 0 ∧ r = 0)) (K : ChkSays c) (hm : c.nm.size ≤ maxLen) (T : FTab w) :
    Calls Tryz.prog 14 #[.agg #[.string c.nm, .int .i64 c.k, .int .i64 c.d, .int .i64 c.m, .int .i64 c.s, .int .i64 c.sh, .int .i64 c.p0, .int .i64 c.p1, .int .i64 c.p2, .int .i64 c.cy, .int .i64 c.ex, .int .i64 c.fi, .int .i64 c.la, .int .i64 c.po], .agg #[.int .i64 L, .int .i64 y, .int .i64 i]] w fun e w' => e = .returned (.tuple #[.agg #[.int .i64 p, .int .i64 q, .int .i64 r], .int .i64 er]) ∧ Below w.heap.size w w' := by
  have C := CalIn.new w c 24
  have B := balloc (Below.refl _ w) (.cells #[.string c.nm, .int .i64 c.k, .int .i64 c.d, .int .i64 c.m, .int .i64 c.s, .int .i64 c.sh, .int .i64 c.p0, .int .i64 c.p1, .int .i64 c.p2, .int .i64 c.cy, .int .i64 c.ex, .int .i64 c.fi, .int .i64 c.la, .int .i64 c.po] 24)
  replace T := T.alloc (.cells #[.string c.nm, .int .i64 c.k, .int .i64 c.d, .int .i64 c.m, .int .i64 c.s, .int .i64 c.sh, .int .i64 c.p0, .int .i64 c.p1, .int .i64 c.p2, .int .i64 c.cy, .int .i64 c.ex, .int .i64 c.fi, .int .i64 c.la, .int .i64 c.po] 24)
  have U := Go.Proofs.YtkfogmaogfgcgaaGreatDoor.Bx.Tri.new (w.alloc (.cells #[.string c.nm, .int .i64 c.k, .int .i64 c.d, .int .i64 c.m, .int .i64 c.s, .int .i64 c.sh, .int .i64 c.p0, .int .i64 c.p1, .int .i64 c.p2, .int .i64 c.cy, .int .i64 c.ex, .int .i64 c.fi, .int .i64 c.la, .int .i64 c.po] 24)) (.int .i64 L) (.int .i64 y) (.int .i64 i) 26
  rw [World.size_alloc] at U
  have D := Go.Proofs.YtkfogmaogfgcgaaGreatDoor.Bx.Tri.new ((w.alloc (.cells #[.string c.nm, .int .i64 c.k, .int .i64 c.d, .int .i64 c.m, .int .i64 c.s, .int .i64 c.sh, .int .i64 c.p0, .int .i64 c.p1, .int .i64 c.p2, .int .i64 c.cy, .int .i64 c.ex, .int .i64 c.fi, .int .i64 c.la, .int .i64 c.po] 24)).alloc (.cells #[.int .i64 L, .int .i64 y, .int .i64 i] 26)) (.int .i64 0) (.int .i64 0) (.int .i64 0) 26
  have zz : ((w.alloc (.cells #[.string c.nm, .int .i64 c.k, .int .i64 c.d, .int .i64 c.m, .int .i64 c.s, .int .i64 c.sh, .int .i64 c.p0, .int .i64 c.p1, .int .i64 c.p2, .int .i64 c.cy, .int .i64 c.ex, .int .i64 c.fi, .int .i64 c.la, .int .i64 c.po] 24)).alloc (.cells #[.int .i64 L, .int .i64 y, .int .i64 i] 26)).heap.size = w.heap.size + 2 := by simp
  rw [zz] at D
  replace U := U.alloc (.cells #[.int .i64 0, .int .i64 0, .int .i64 0] 26)
  replace C := (C.alloc (.cells #[.int .i64 L, .int .i64 y, .int .i64 i] 26)).alloc (.cells #[.int .i64 0, .int .i64 0, .int .i64 0] 26)
  replace B := balloc (balloc B (.cells #[.int .i64 L, .int .i64 y, .int .i64 i] 26)) (.cells #[.int .i64 0, .int .i64 0, .int .i64 0] 26)
  replace T := (T.alloc (.cells #[.int .i64 L, .int .i64 y, .int .i64 i] 26)).alloc (.cells #[.int .i64 0, .int .i64 0, .int .i64 0] 26)
  clear zz
  rcases R with ⟨uo, h, rfl, rfl, rfl, rfl⟩ | ⟨uo, h, h2, rfl, rfl, rfl, rfl⟩ | ⟨uo, h, h2, sw, rfl, rfl, rfl, rfl⟩ | ⟨no, k, h, rfl, rfl, rfl⟩
  · have ck := fun w T => rUCheck_any c p q i 0 w ((uchka_of uo)) K hm T
    have sv := uo.2.2.1
    have st := served_told uo.1 sv
    have cb := ucount_bd (L := p) (y := q) uo.1.1 (by omega) (by omega)
    have ib : 1 ≤ i ∧ i ≤ 60 := ⟨uo.2.2.2.1, by have := uo.2.2.2.2; omega⟩
    have d1 : decide ((1 : Int) < i) = true := decide_eq_true h
    clear uo sv K
    go_enter Tryz.func14, Tryz.ntmps14
    go_upto_region 1 with fail
    generalize ((w.alloc (.cells #[.string c.nm, .int .i64 c.k, .int .i64 c.d, .int .i64 c.m, .int .i64 c.s, .int .i64 c.sh, .int .i64 c.p0, .int .i64 c.p1, .int .i64 c.p2, .int .i64 c.cy, .int .i64 c.ex, .int .i64 c.fi, .int .i64 c.la, .int .i64 c.po] 24)).alloc (.cells #[.int .i64 p, .int .i64 q, .int .i64 i] 26)).alloc (.cells #[.int .i64 0, .int .i64 0, .int .i64 0] 26) = W0 at *
    obtain ⟨_, c0, c1, c2, c3, c4, c5, c6, c7, c8, c9, c10, c11, c12, c13⟩ := id C
    obtain ⟨_, u0, u1, u2, fu0, fu1, fu2⟩ := id U
    obtain ⟨_, r0, r1, r2, g0, g1, g2⟩ := id D
    go_wp2_with fail
    refine (ck _ T).mono ?_
    rintro e w1 ⟨rfl, hb⟩
    replace C := C.kept hb
    replace B := bthen B hb
    replace T := T.kept hb
    replace U := U.kept hb
    replace D := D.kept hb
    clear hb c0 c1 c2 c3 c4 c5 c6 c7 c8 c9 c10 c11 c12 c13 u0 u1 u2 fu0 fu1 fu2 r0 r1 r2 g0 g1 g2
    obtain ⟨_, c0, c1, c2, c3, c4, c5, c6, c7, c8, c9, c10, c11, c12, c13⟩ := id C
    obtain ⟨_, u0, u1, u2, fu0, fu1, fu2⟩ := id U
    obtain ⟨_, r0, r1, r2, g0, g1, g2⟩ := id D
    go_wp2
    refine bodyPost_ret (v := .tuple #[.agg #[.int .i64 p, .int .i64 q, .int .i64 (i - 1)], .int .i64 0]) (by simp [results, Tryz.results14, go_sem, *]) rfl ⟨rfl, ?_⟩
    exact bset (bset (bset B (by omega) _ _) (by omega) _ _) (by omega) _ _
  · have ck := fun w T => rUCheck_any c L y i 0 w ((uchka_of uo)) K hm T
    have sv := uo.2.2.1
    have st := served_told uo.1 sv
    have cb := ucount_bd (L := L) (y := y) uo.1.1 (by omega) (by omega)
    have ib : 1 ≤ i ∧ i ≤ 60 := ⟨uo.2.2.2.1, by have := uo.2.2.2.2; omega⟩
    have d1 : decide ((1 : Int) < i) = false := decide_eq_false (by omega)
    have d2 : (y == c.fi) = true := beq_iff_eq.2 h2
    clear h2 h
    clear uo sv K
    go_enter Tryz.func14, Tryz.ntmps14
    go_upto_region 1 with fail
    generalize ((w.alloc (.cells #[.string c.nm, .int .i64 c.k, .int .i64 c.d, .int .i64 c.m, .int .i64 c.s, .int .i64 c.sh, .int .i64 c.p0, .int .i64 c.p1, .int .i64 c.p2, .int .i64 c.cy, .int .i64 c.ex, .int .i64 c.fi, .int .i64 c.la, .int .i64 c.po] 24)).alloc (.cells #[.int .i64 L, .int .i64 y, .int .i64 i] 26)).alloc (.cells #[.int .i64 0, .int .i64 0, .int .i64 0] 26) = W0 at *
    obtain ⟨_, c0, c1, c2, c3, c4, c5, c6, c7, c8, c9, c10, c11, c12, c13⟩ := id C
    obtain ⟨_, u0, u1, u2, fu0, fu1, fu2⟩ := id U
    obtain ⟨_, r0, r1, r2, g0, g1, g2⟩ := id D
    go_wp2_with fail
    refine (ck _ T).mono ?_
    rintro e w2 ⟨rfl, hb⟩
    replace C := C.kept hb
    replace B := bthen B hb
    replace T := T.kept hb
    replace U := U.kept hb
    replace D := D.kept hb
    clear hb c0 c1 c2 c3 c4 c5 c6 c7 c8 c9 c10 c11 c12 c13 u0 u1 u2 fu0 fu1 fu2 r0 r1 r2 g0 g1 g2
    obtain ⟨_, c0, c1, c2, c3, c4, c5, c6, c7, c8, c9, c10, c11, c12, c13⟩ := id C
    obtain ⟨_, u0, u1, u2, fu0, fu1, fu2⟩ := id U
    obtain ⟨_, r0, r1, r2, g0, g1, g2⟩ := id D
    go_wp2
    refine bodyPost_ret (v := .tuple #[.agg #[.int .i64 0, .int .i64 0, .int .i64 0], .int .i64 11]) (by simp [results, Tryz.results14, go_sem, *]) rfl ⟨rfl, ?_⟩
    exact bset (bset (bset B (by omega) _ _) (by omega) _ _) (by omega) _ _
  · have ck := fun w T => rUCheck_any c p y i 0 w ((uchka_of uo)) K hm T
    have sv := uo.2.2.1
    have st := served_told uo.1 sv
    have cb := ucount_bd (L := p) (y := y) uo.1.1 (by omega) (by omega)
    have ib : 1 ≤ i ∧ i ≤ 60 := ⟨uo.2.2.2.1, by have := uo.2.2.2.2; omega⟩
    have d1 : decide ((1 : Int) < i) = false := decide_eq_false (by omega)
    have d2 : (y == c.fi) = false := beq_eq_false_iff_ne.2 (by omega)
    obtain ⟨v, hv⟩ : ∃ v, ucount c (y - 1) p = v := ⟨_, rfl⟩
    have cc := fun w T => rCount_any c p (y - 1) v 0 w (.inl ⟨uo.1, uo.2.1, sw, hv.symm, rfl⟩) K hm T
    have w1 : IntKind.i64.wrap (y - 1) = y - 1 := IntWalk.i64_in _ (by omega)
    rw [hv]
    clear h2 h hv sw
    clear uo sv K
    go_enter Tryz.func14, Tryz.ntmps14
    go_upto_region 1 with fail
    generalize ((w.alloc (.cells #[.string c.nm, .int .i64 c.k, .int .i64 c.d, .int .i64 c.m, .int .i64 c.s, .int .i64 c.sh, .int .i64 c.p0, .int .i64 c.p1, .int .i64 c.p2, .int .i64 c.cy, .int .i64 c.ex, .int .i64 c.fi, .int .i64 c.la, .int .i64 c.po] 24)).alloc (.cells #[.int .i64 p, .int .i64 y, .int .i64 i] 26)).alloc (.cells #[.int .i64 0, .int .i64 0, .int .i64 0] 26) = W0 at *
    obtain ⟨_, c0, c1, c2, c3, c4, c5, c6, c7, c8, c9, c10, c11, c12, c13⟩ := id C
    obtain ⟨_, u0, u1, u2, fu0, fu1, fu2⟩ := id U
    obtain ⟨_, r0, r1, r2, g0, g1, g2⟩ := id D
    go_wp2_with fail
    refine (ck _ T).mono ?_
    rintro e w3 ⟨rfl, hb⟩
    replace C := C.kept hb
    replace B := bthen B hb
    replace T := T.kept hb
    replace U := U.kept hb
    replace D := D.kept hb
    clear hb c0 c1 c2 c3 c4 c5 c6 c7 c8 c9 c10 c11 c12 c13 u0 u1 u2 fu0 fu1 fu2 r0 r1 r2 g0 g1 g2
    obtain ⟨_, c0, c1, c2, c3, c4, c5, c6, c7, c8, c9, c10, c11, c12, c13⟩ := id C
    obtain ⟨_, u0, u1, u2, fu0, fu1, fu2⟩ := id U
    obtain ⟨_, r0, r1, r2, g0, g1, g2⟩ := id D
    go_wp2_with fail
    refine (cc _ T).mono ?_
    rintro e w4 ⟨rfl, hb⟩
    replace C := C.kept hb
    replace B := bthen B hb
    replace T := T.kept hb
    replace U := U.kept hb
    replace D := D.kept hb
    clear hb c0 c1 c2 c3 c4 c5 c6 c7 c8 c9 c10 c11 c12 c13 u0 u1 u2 fu0 fu1 fu2 r0 r1 r2 g0 g1 g2
    obtain ⟨_, c0, c1, c2, c3, c4, c5, c6, c7, c8, c9, c10, c11, c12, c13⟩ := id C
    obtain ⟨_, u0, u1, u2, fu0, fu1, fu2⟩ := id U
    obtain ⟨_, r0, r1, r2, g0, g1, g2⟩ := id D
    go_wp2
    refine bodyPost_ret (v := .tuple #[.agg #[.int .i64 p, .int .i64 (y - 1), .int .i64 v], .int .i64 0]) (by simp [results, Tryz.results14, go_sem, *]) rfl ⟨rfl, ?_⟩
    exact bset (bset (bset B (by omega) _ _) (by omega) _ _) (by omega) _ _
  · have ck := fun w T => rUCheck_any c L y i er w k K hm T
    have e0 : (er != 0) = true := bne_iff_ne.2 h
    clear no k h K
    go_enter Tryz.func14, Tryz.ntmps14
    go_upto_region 1 with fail
    generalize ((w.alloc (.cells #[.string c.nm, .int .i64 c.k, .int .i64 c.d, .int .i64 c.m, .int .i64 c.s, .int .i64 c.sh, .int .i64 c.p0, .int .i64 c.p1, .int .i64 c.p2, .int .i64 c.cy, .int .i64 c.ex, .int .i64 c.fi, .int .i64 c.la, .int .i64 c.po] 24)).alloc (.cells #[.int .i64 L, .int .i64 y, .int .i64 i] 26)).alloc (.cells #[.int .i64 0, .int .i64 0, .int .i64 0] 26) = W0 at *
    obtain ⟨_, c0, c1, c2, c3, c4, c5, c6, c7, c8, c9, c10, c11, c12, c13⟩ := id C
    obtain ⟨_, u0, u1, u2, fu0, fu1, fu2⟩ := id U
    obtain ⟨_, r0, r1, r2, g0, g1, g2⟩ := id D
    go_wp2_with fail
    refine (ck _ T).mono ?_
    rintro e w5 ⟨rfl, hb⟩
    replace C := C.kept hb
    replace B := bthen B hb
    replace T := T.kept hb
    replace U := U.kept hb
    replace D := D.kept hb
    clear hb c0 c1 c2 c3 c4 c5 c6 c7 c8 c9 c10 c11 c12 c13 u0 u1 u2 fu0 fu1 fu2 r0 r1 r2 g0 g1 g2
    obtain ⟨_, c0, c1, c2, c3, c4, c5, c6, c7, c8, c9, c10, c11, c12, c13⟩ := id C
    obtain ⟨_, u0, u1, u2, fu0, fu1, fu2⟩ := id U
    obtain ⟨_, r0, r1, r2, g0, g1, g2⟩ := id D
    go_wp2
    refine bodyPost_ret (v := .tuple #[.agg #[.int .i64 0, .int .i64 0, .int .i64 0], .int .i64 er]) (by simp [results, Tryz.results14, go_sem, *]) rfl ⟨rfl, ?_⟩
    exact bset (bset (bset B (by omega) _ _) (by omega) _ _) (by omega) _ _

end Go.Proofs.YtkfogmaogfgcgaaGreatDoor.Rf
