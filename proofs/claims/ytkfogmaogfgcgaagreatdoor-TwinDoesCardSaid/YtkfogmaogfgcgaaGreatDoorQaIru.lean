/- What Count, Check and Span of the reference of layer 16 come to. -/
import Derived.Test.YtkfogmaogfgcgaaGreatDoorQaJX
import Derived.Test.YtkfogmaogfgcgaaGreatDoorQaJI
namespace Go.Proofs.YtkfogmaogfgcgaaGreatDoor.Ir
set_option linter.unusedSimpArgs false
set_option linter.unusedVariables false
open Go.RowKit Go.Maps Bn Bx Cp Am Fp Ap Ar Cm Em Ep Rk Hp Hr Ip

set_option maxHeartbeats 8000000

theorem counta_ok {c : CalZ} {L y v : Int} (R : CountA c L y v 0) : CalOk c ∧ LevOk L ∧ Served c y ∧ v = ucount c y L := by
  rcases R with ⟨a, b, d, e, _⟩ | ⟨_, _, _, _, h⟩ | ⟨_, _, _, h⟩ | ⟨_, _, h⟩
  · exact ⟨a, b, d, e⟩
  all_goals exact absurd h (by decide)

set_option maxRecDepth 100000 in
theorem rUCheck_any (c : CalZ) (L y i er : Int) (w : World) (R : UChkA c L y i er) (K : ChkSays c) (hm : c.nm.size ≤ maxLen) (T : FTab w) :
    Calls Tryz.prog 53 #[.agg #[.string c.nm, .int .i64 c.k, .int .i64 c.d, .int .i64 c.m, .int .i64 c.s, .int .i64 c.sh, .int .i64 c.p0, .int .i64 c.p1, .int .i64 c.p2, .int .i64 c.cy, .int .i64 c.ex, .int .i64 c.fi, .int .i64 c.la, .int .i64 c.po], .agg #[.int .i64 L, .int .i64 y, .int .i64 i]] w fun e w' => e = .returned (.int .i64 er) ∧ Below w.heap.size w w' := by
  have C := CalIn.new w c 24
  have B := balloc (Below.refl _ w) (.cells #[.string c.nm, .int .i64 c.k, .int .i64 c.d, .int .i64 c.m, .int .i64 c.s, .int .i64 c.sh, .int .i64 c.p0, .int .i64 c.p1, .int .i64 c.p2, .int .i64 c.cy, .int .i64 c.ex, .int .i64 c.fi, .int .i64 c.la, .int .i64 c.po] 24)
  replace T := T.alloc (.cells #[.string c.nm, .int .i64 c.k, .int .i64 c.d, .int .i64 c.m, .int .i64 c.s, .int .i64 c.sh, .int .i64 c.p0, .int .i64 c.p1, .int .i64 c.p2, .int .i64 c.cy, .int .i64 c.ex, .int .i64 c.fi, .int .i64 c.la, .int .i64 c.po] 24)
  have U := Bx.Tri.new (w.alloc (.cells #[.string c.nm, .int .i64 c.k, .int .i64 c.d, .int .i64 c.m, .int .i64 c.s, .int .i64 c.sh, .int .i64 c.p0, .int .i64 c.p1, .int .i64 c.p2, .int .i64 c.cy, .int .i64 c.ex, .int .i64 c.fi, .int .i64 c.la, .int .i64 c.po] 24)) (.int .i64 L) (.int .i64 y) (.int .i64 i) 26
  rw [World.size_alloc] at U
  replace C := C.alloc (.cells #[.int .i64 L, .int .i64 y, .int .i64 i] 26)
  replace B := balloc B (.cells #[.int .i64 L, .int .i64 y, .int .i64 i] 26)
  replace T := T.alloc (.cells #[.int .i64 L, .int .i64 y, .int .i64 i] 26)
  obtain ⟨v, e, A, O⟩ := R
  by_cases h : e = 0
  · subst h
    obtain ⟨ok, l, sv, hv⟩ := counta_ok A
    have st := served_told ok sv
    have cb := ucount_bd (L := L) (y := y) ok.1 (by omega) (by omega)
    have pb := per_bd ok.1
    obtain ⟨N, hN⟩ : ∃ N : Nat, (N : Int) = ucount c y L := ⟨(ucount c y L).toNat, by omega⟩
    obtain ⟨n, hn⟩ : ∃ n : Nat, (n : Int) = per c := ⟨(per c).toNat, by omega⟩
    have cs := fun w T => rspans_ok L c y n N w l ok sv hn hN K hm T
    rw [← hN] at cb
    have O2 : (er = 13 ∧ decide (i < 1) = true) ∨ (er = 13 ∧ decide (i < 1) = false ∧ decide ((N : Int) < i) = true) ∨ (er = 0 ∧ decide (i < 1) = false ∧ decide ((N : Int) < i) = false) := by
      rcases O with ⟨a, _⟩ | ⟨_, b, d⟩ | ⟨_, b, d, f⟩
      · exact absurd rfl a
      · by_cases h : i < 1
        · exact .inl ⟨d, decide_eq_true h⟩
        · exact .inr (.inl ⟨d, decide_eq_false h, decide_eq_true (by omega)⟩)
      · exact .inr (.inr ⟨f, decide_eq_false (by omega), decide_eq_false (by omega)⟩)
    clear A O ok l sv hv st hN hn pb K
    rcases O2 with ⟨rfl, n0⟩ | ⟨rfl, n0, n1⟩ | ⟨rfl, n0, n1⟩
    all_goals
      go_enter Tryz.func53, Tryz.ntmps53
      go_upto_region 1 with fail
      generalize (w.alloc (.cells #[.string c.nm, .int .i64 c.k, .int .i64 c.d, .int .i64 c.m, .int .i64 c.s, .int .i64 c.sh, .int .i64 c.p0, .int .i64 c.p1, .int .i64 c.p2, .int .i64 c.cy, .int .i64 c.ex, .int .i64 c.fi, .int .i64 c.la, .int .i64 c.po] 24)).alloc (.cells #[.int .i64 L, .int .i64 y, .int .i64 i] 26) = W0 at *
      obtain ⟨_, c0, c1, c2, c3, c4, c5, c6, c7, c8, c9, c10, c11, c12, c13⟩ := id C
      obtain ⟨_, u0, u1, u2, fu0, fu1, fu2⟩ := id U
      go_wp2_with fail
      refine (cs _ T).mono ?_
      rintro e w1 ⟨g, cap, rfl, SR, hg, hb, hcp⟩
      replace C := C.kept hb
      replace B := bthen B hb
      replace T := T.kept hb
      replace U := U.kept hb
      clear hb c0 c1 c2 c3 c4 c5 c6 c7 c8 c9 c10 c11 c12 c13 u0 u1 u2 fu0 fu1 fu2
      obtain ⟨_, c0, c1, c2, c3, c4, c5, c6, c7, c8, c9, c10, c11, c12, c13⟩ := id C
      obtain ⟨_, u0, u1, u2, fu0, fu1, fu2⟩ := id U
      go_wp2
      go_ret
      exact ⟨by simp, B⟩
  · have O2 : er = e := by
      rcases O with ⟨_, a⟩ | ⟨a, _⟩ | ⟨a, _⟩
      · exact a
      · exact absurd a h
      · exact absurd a h
    subst O2
    have cs := fun w T => rspans_no c L y v er w A h K T
    have e0 : (er != 0) = true := bne_iff_ne.2 h
    clear A O h K
    go_enter Tryz.func53, Tryz.ntmps53
    go_upto_region 1 with fail
    generalize (w.alloc (.cells #[.string c.nm, .int .i64 c.k, .int .i64 c.d, .int .i64 c.m, .int .i64 c.s, .int .i64 c.sh, .int .i64 c.p0, .int .i64 c.p1, .int .i64 c.p2, .int .i64 c.cy, .int .i64 c.ex, .int .i64 c.fi, .int .i64 c.la, .int .i64 c.po] 24)).alloc (.cells #[.int .i64 L, .int .i64 y, .int .i64 i] 26) = W0 at *
    obtain ⟨_, c0, c1, c2, c3, c4, c5, c6, c7, c8, c9, c10, c11, c12, c13⟩ := id C
    obtain ⟨_, u0, u1, u2, fu0, fu1, fu2⟩ := id U
    go_wp2_with fail
    refine (cs _ T).mono ?_
    rintro e w2 ⟨rfl, hb⟩
    replace C := C.kept hb
    replace B := bthen B hb
    replace T := T.kept hb
    replace U := U.kept hb
    clear hb c0 c1 c2 c3 c4 c5 c6 c7 c8 c9 c10 c11 c12 c13 u0 u1 u2 fu0 fu1 fu2
    obtain ⟨_, c0, c1, c2, c3, c4, c5, c6, c7, c8, c9, c10, c11, c12, c13⟩ := id C
    obtain ⟨_, u0, u1, u2, fu0, fu1, fu2⟩ := id U
    go_wp2
    go_ret
    exact ⟨by simp, B⟩

set_option maxRecDepth 100000 in
theorem rSpan_any (c : CalZ) (L y i a b er : Int) (w : World) (R : SpanA c L y i a b er) (K : ChkSays c) (hm : c.nm.size ≤ maxLen) (T : FTab w) :
    Calls Tryz.prog 62 #[.agg #[.string c.nm, .int .i64 c.k, .int .i64 c.d, .int .i64 c.m, .int .i64 c.s, .int .i64 c.sh, .int .i64 c.p0, .int .i64 c.p1, .int .i64 c.p2, .int .i64 c.cy, .int .i64 c.ex, .int .i64 c.fi, .int .i64 c.la, .int .i64 c.po], .agg #[.int .i64 L, .int .i64 y, .int .i64 i]] w fun e w' => e = .returned (.tuple #[.agg #[.int .i64 a, .int .i64 b], .int .i64 er]) ∧ Below w.heap.size w w' := by
  have C := CalIn.new w c 24
  have B := balloc (Below.refl _ w) (.cells #[.string c.nm, .int .i64 c.k, .int .i64 c.d, .int .i64 c.m, .int .i64 c.s, .int .i64 c.sh, .int .i64 c.p0, .int .i64 c.p1, .int .i64 c.p2, .int .i64 c.cy, .int .i64 c.ex, .int .i64 c.fi, .int .i64 c.la, .int .i64 c.po] 24)
  replace T := T.alloc (.cells #[.string c.nm, .int .i64 c.k, .int .i64 c.d, .int .i64 c.m, .int .i64 c.s, .int .i64 c.sh, .int .i64 c.p0, .int .i64 c.p1, .int .i64 c.p2, .int .i64 c.cy, .int .i64 c.ex, .int .i64 c.fi, .int .i64 c.la, .int .i64 c.po] 24)
  have U := Bx.Tri.new (w.alloc (.cells #[.string c.nm, .int .i64 c.k, .int .i64 c.d, .int .i64 c.m, .int .i64 c.s, .int .i64 c.sh, .int .i64 c.p0, .int .i64 c.p1, .int .i64 c.p2, .int .i64 c.cy, .int .i64 c.ex, .int .i64 c.fi, .int .i64 c.la, .int .i64 c.po] 24)) (.int .i64 L) (.int .i64 y) (.int .i64 i) 26
  rw [World.size_alloc] at U
  have D := Pr.Two.new ((w.alloc (.cells #[.string c.nm, .int .i64 c.k, .int .i64 c.d, .int .i64 c.m, .int .i64 c.s, .int .i64 c.sh, .int .i64 c.p0, .int .i64 c.p1, .int .i64 c.p2, .int .i64 c.cy, .int .i64 c.ex, .int .i64 c.fi, .int .i64 c.la, .int .i64 c.po] 24)).alloc (.cells #[.int .i64 L, .int .i64 y, .int .i64 i] 26)) (.int .i64 0) (.int .i64 0) 34
  have zz : ((w.alloc (.cells #[.string c.nm, .int .i64 c.k, .int .i64 c.d, .int .i64 c.m, .int .i64 c.s, .int .i64 c.sh, .int .i64 c.p0, .int .i64 c.p1, .int .i64 c.p2, .int .i64 c.cy, .int .i64 c.ex, .int .i64 c.fi, .int .i64 c.la, .int .i64 c.po] 24)).alloc (.cells #[.int .i64 L, .int .i64 y, .int .i64 i] 26)).heap.size = w.heap.size + 2 := by simp
  rw [zz] at D
  replace U := U.alloc (.cells #[.int .i64 0, .int .i64 0] 34)
  replace C := (C.alloc (.cells #[.int .i64 L, .int .i64 y, .int .i64 i] 26)).alloc (.cells #[.int .i64 0, .int .i64 0] 34)
  replace B := balloc (balloc B (.cells #[.int .i64 L, .int .i64 y, .int .i64 i] 26)) (.cells #[.int .i64 0, .int .i64 0] 34)
  replace T := (T.alloc (.cells #[.int .i64 L, .int .i64 y, .int .i64 i] 26)).alloc (.cells #[.int .i64 0, .int .i64 0] 34)
  clear zz
  rcases R with ⟨⟨ok, l, sv, i0, i1⟩, ha, hb', rfl⟩ | ⟨no, ⟨v, e, A, O⟩, rfl, rfl⟩
  · have hL := l
    have st := served_told ok sv
    have cb := ucount_bd (L := L) (y := y) ok.1 (by omega) (by omega)
    have pb := per_bd ok.1
    obtain ⟨N, hN⟩ : ∃ N : Nat, (N : Int) = ucount c y L := ⟨(ucount c y L).toNat, by omega⟩
    obtain ⟨n, hn⟩ : ∃ n : Nat, (n : Int) = per c := ⟨(per c).toNat, by omega⟩
    have cs := fun w T => rspans_ok L c y n N w l ok sv hn hN K hm T
    rw [← hN] at cb
    rw [← hN] at i1
    obtain ⟨j, hj⟩ : ∃ j : Nat, (j : Int) + 1 = i := ⟨(i - 1).toNat, by omega⟩
    have sa := spl_at c y L N j (by omega)
    rw [show uend c y L j + 1 = a by rw [ha, ← hj, show (j : Int) + 1 - 1 = j by omega], show uend c y L ((j : Int) + 1) = b by rw [hb', ← hj]] at sa
    have n0 : decide ((j : Int) + 1 < 1) = false := decide_eq_false (by omega)
    have n1 : decide ((N : Int) < (j : Int) + 1) = false := decide_eq_false (by omega)
    have jn : (j : Int) < (N : Int) := by omega
    have j1 : (j : Int) + 1 - 1 = (j : Int) := by omega
    clear ok l sv st hN hn pb K ha hb' hL i0 i1
    subst hj
    go_enter Tryz.func62, Tryz.ntmps62
    go_upto_region 1 with fail
    generalize ((w.alloc (.cells #[.string c.nm, .int .i64 c.k, .int .i64 c.d, .int .i64 c.m, .int .i64 c.s, .int .i64 c.sh, .int .i64 c.p0, .int .i64 c.p1, .int .i64 c.p2, .int .i64 c.cy, .int .i64 c.ex, .int .i64 c.fi, .int .i64 c.la, .int .i64 c.po] 24)).alloc (.cells #[.int .i64 L, .int .i64 y, .int .i64 ((j : Int) + 1)] 26)).alloc (.cells #[.int .i64 0, .int .i64 0] 34) = W0 at *
    obtain ⟨_, c0, c1, c2, c3, c4, c5, c6, c7, c8, c9, c10, c11, c12, c13⟩ := id C
    obtain ⟨_, u0, u1, u2, fu0, fu1, fu2⟩ := id U
    obtain ⟨_, r0, r1, g0, g1⟩ := id D
    go_wp2_with fail
    refine (cs _ T).mono ?_
    rintro e w1 ⟨g, cap, rfl, SR, hg, hb, hcp⟩
    replace C := C.kept hb
    replace B := bthen B hb
    replace T := T.kept hb
    replace U := U.kept hb
    replace D := D.kept hb
    clear hb c0 c1 c2 c3 c4 c5 c6 c7 c8 c9 c10 c11 c12 c13 u0 u1 u2 fu0 fu1 fu2 r0 r1 g0 g1
    obtain ⟨_, c0, c1, c2, c3, c4, c5, c6, c7, c8, c9, c10, c11, c12, c13⟩ := id C
    obtain ⟨_, u0, u1, u2, fu0, fu1, fu2⟩ := id U
    obtain ⟨_, r0, r1, g0, g1⟩ := id D
    obtain ⟨s0, s1⟩ := SR.c j _ sa
    simp only at s0 s1
    go_wp2
    refine bodyPost_ret (v := .tuple #[.agg #[.int .i64 a, .int .i64 b], .int .i64 0]) (by simp [results, Tryz.results62, go_sem, *]) rfl ⟨rfl, ?_⟩
    exact bset (bset B (by omega) _ _) (by omega) _ _
  · have ne : er ≠ 0 := fun q => no ((uchka_ok ⟨v, e, A, O⟩).1 q)
    by_cases h : e = 0
    · subst h
      obtain ⟨ok, l, sv, hv⟩ := counta_ok A
      have st := served_told ok sv
      have cb := ucount_bd (L := L) (y := y) ok.1 (by omega) (by omega)
      have pb := per_bd ok.1
      obtain ⟨N, hN⟩ : ∃ N : Nat, (N : Int) = ucount c y L := ⟨(ucount c y L).toNat, by omega⟩
      obtain ⟨n, hn⟩ : ∃ n : Nat, (n : Int) = per c := ⟨(per c).toNat, by omega⟩
      have cs := fun w T => rspans_ok L c y n N w l ok sv hn hN K hm T
      rw [← hN] at cb
      have O2 : er = 13 ∧ (decide (i < 1) = true ∨ (decide (i < 1) = false ∧ decide ((N : Int) < i) = true)) := by
        rcases O with ⟨a, _⟩ | ⟨_, b, d⟩ | ⟨_, b, d, f⟩
        · exact absurd rfl a
        · refine ⟨d, ?_⟩
          by_cases h : i < 1
          · exact .inl (decide_eq_true h)
          · exact .inr ⟨decide_eq_false h, decide_eq_true (by omega)⟩
        · exact absurd f ne
      obtain ⟨rfl, O2⟩ := O2
      clear A O ok l sv hv st hN hn pb K no ne
      rcases O2 with n0 | ⟨n0, n1⟩
      all_goals
        go_enter Tryz.func62, Tryz.ntmps62
        go_upto_region 1 with fail
        generalize ((w.alloc (.cells #[.string c.nm, .int .i64 c.k, .int .i64 c.d, .int .i64 c.m, .int .i64 c.s, .int .i64 c.sh, .int .i64 c.p0, .int .i64 c.p1, .int .i64 c.p2, .int .i64 c.cy, .int .i64 c.ex, .int .i64 c.fi, .int .i64 c.la, .int .i64 c.po] 24)).alloc (.cells #[.int .i64 L, .int .i64 y, .int .i64 i] 26)).alloc (.cells #[.int .i64 0, .int .i64 0] 34) = W0 at *
        obtain ⟨_, c0, c1, c2, c3, c4, c5, c6, c7, c8, c9, c10, c11, c12, c13⟩ := id C
        obtain ⟨_, u0, u1, u2, fu0, fu1, fu2⟩ := id U
        obtain ⟨_, r0, r1, g0, g1⟩ := id D
        go_wp2_with fail
        refine (cs _ T).mono ?_
        rintro e w2 ⟨g, cap, rfl, SR, hg, hb, hcp⟩
        replace C := C.kept hb
        replace B := bthen B hb
        replace T := T.kept hb
        replace U := U.kept hb
        replace D := D.kept hb
        clear hb c0 c1 c2 c3 c4 c5 c6 c7 c8 c9 c10 c11 c12 c13 u0 u1 u2 fu0 fu1 fu2 r0 r1 g0 g1
        obtain ⟨_, c0, c1, c2, c3, c4, c5, c6, c7, c8, c9, c10, c11, c12, c13⟩ := id C
        obtain ⟨_, u0, u1, u2, fu0, fu1, fu2⟩ := id U
        obtain ⟨_, r0, r1, g0, g1⟩ := id D
        go_wp2
        refine bodyPost_ret (v := .tuple #[.agg #[.int .i64 0, .int .i64 0], .int .i64 13]) (by simp [results, Tryz.results62, go_sem, *]) rfl ⟨rfl, ?_⟩
        exact bset (bset B (by omega) _ _) (by omega) _ _
    · have O2 : er = e := by
        rcases O with ⟨_, a⟩ | ⟨a, _⟩ | ⟨a, _⟩
        · exact a
        · exact absurd a h
        · exact absurd a h
      subst O2
      have cs := fun w T => rspans_no c L y v er w A h K T
      have e0 : (er != 0) = true := bne_iff_ne.2 h
      clear A O h K no ne
      go_enter Tryz.func62, Tryz.ntmps62
      go_upto_region 1 with fail
      generalize ((w.alloc (.cells #[.string c.nm, .int .i64 c.k, .int .i64 c.d, .int .i64 c.m, .int .i64 c.s, .int .i64 c.sh, .int .i64 c.p0, .int .i64 c.p1, .int .i64 c.p2, .int .i64 c.cy, .int .i64 c.ex, .int .i64 c.fi, .int .i64 c.la, .int .i64 c.po] 24)).alloc (.cells #[.int .i64 L, .int .i64 y, .int .i64 i] 26)).alloc (.cells #[.int .i64 0, .int .i64 0] 34) = W0 at *
      obtain ⟨_, c0, c1, c2, c3, c4, c5, c6, c7, c8, c9, c10, c11, c12, c13⟩ := id C
      obtain ⟨_, u0, u1, u2, fu0, fu1, fu2⟩ := id U
      obtain ⟨_, r0, r1, g0, g1⟩ := id D
      go_wp2_with fail
      refine (cs _ T).mono ?_
      rintro e w3 ⟨rfl, hb⟩
      replace C := C.kept hb
      replace B := bthen B hb
      replace T := T.kept hb
      replace U := U.kept hb
      replace D := D.kept hb
      clear hb c0 c1 c2 c3 c4 c5 c6 c7 c8 c9 c10 c11 c12 c13 u0 u1 u2 fu0 fu1 fu2 r0 r1 g0 g1
      obtain ⟨_, c0, c1, c2, c3, c4, c5, c6, c7, c8, c9, c10, c11, c12, c13⟩ := id C
      obtain ⟨_, u0, u1, u2, fu0, fu1, fu2⟩ := id U
      obtain ⟨_, r0, r1, g0, g1⟩ := id D
      go_wp2
      refine bodyPost_ret (v := .tuple #[.agg #[.int .i64 0, .int .i64 0], .int .i64 er]) (by simp [results, Tryz.results62, go_sem, *]) rfl ⟨rfl, ?_⟩
      exact bset (bset B (by omega) _ _) (by omega) _ _

end Go.Proofs.YtkfogmaogfgcgaaGreatDoor.Ir

