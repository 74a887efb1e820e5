/- What Day of the reference of layer 19 comes to. -/
import Derived.Test.YtkfogmaogfgcgaaGreatDoorIrf
import Derived.Test.YtkfogmaogfgcgaaGreatDoorMrwk
import Derived.Test.YtkfogmaogfgcgaaGreatDoorJM
import Derived.Lib.MinMax
namespace Go.Proofs.YtkfogmaogfgcgaaGreatDoor.Mr
set_option linter.unusedSimpArgs false
set_option linter.unusedVariables false
open Go.RowKit Go.Maps Go.Proofs.YtkfogmaogfgcgaaGreatDoor.Bn Go.Proofs.YtkfogmaogfgcgaaGreatDoor.Bx Go.Proofs.YtkfogmaogfgcgaaGreatDoor.Cp Go.Proofs.YtkfogmaogfgcgaaGreatDoor.Am Go.Proofs.YtkfogmaogfgcgaaGreatDoor.Fp Go.Proofs.YtkfogmaogfgcgaaGreatDoor.Ap Go.Proofs.YtkfogmaogfgcgaaGreatDoor.Ar Go.Proofs.YtkfogmaogfgcgaaGreatDoor.Cm Go.Proofs.YtkfogmaogfgcgaaGreatDoor.Em Go.Proofs.YtkfogmaogfgcgaaGreatDoor.Ep Go.Proofs.YtkfogmaogfgcgaaGreatDoor.Rk Go.Proofs.YtkfogmaogfgcgaaGreatDoor.Hp Go.Proofs.YtkfogmaogfgcgaaGreatDoor.Hr Go.Proofs.YtkfogmaogfgcgaaGreatDoor.Ip Go.Proofs.YtkfogmaogfgcgaaGreatDoor.Mp Go.Proofs.YtkfogmaogfgcgaaGreatDoor.Jr Go.Proofs.YtkfogmaogfgcgaaGreatDoor.Ir Go.Proofs.YtkfogmaogfgcgaaGreatDoor.Rf Go.Proofs.YtkfogmaogfgcgaaGreatDoor.Mr

set_option maxHeartbeats 8000000

structure Bel (w W : World) : Prop where
  b : Below w.heap.size w W
theorem Bel.new (w : World) : Bel w w := ⟨Below.refl _ _⟩
theorem Bel.kept {w W W' : World} (p : Bel w W) (hb : Below W.heap.size W W') : Bel w W' := ⟨bthen p.b hb⟩
theorem Bel.alloc {w W : World} (p : Bel w W) (o : Obj) : Bel w (W.alloc o) := ⟨balloc p.b o⟩

set_option maxRecDepth 100000 in
theorem rcday_no (c : CalZ) (d k y e0 : Int) (w : World) (S : ServedA c d y e0) (h : e0 ≠ 0) (K : ChkSays c) (O : OfSays c) (hm : c.nm.size ≤ maxLen) (T : FTab w) :
    Calls Tryz.prog 24 #[.agg #[.string c.nm, .int .i64 c.k, .int .i64 c.d, .int .i64 c.m, .int .i64 c.s, .int .i64 c.sh, .int .i64 c.p0, .int .i64 c.p1, .int .i64 c.p2, .int .i64 c.cy, .int .i64 c.ex, .int .i64 c.fi, .int .i64 c.la, .int .i64 c.po], .int .i64 d, .int .i64 k] w fun e w' => e = .returned (.tuple #[.int .i64 0, .int .i64 e0]) ∧ Below w.heap.size w w' := by
  have C := CalIn.new w c 24
  have B := balloc (Below.refl _ w) (.cells #[.string c.nm, .int .i64 c.k, .int .i64 c.d, .int .i64 c.m, .int .i64 c.s, .int .i64 c.sh, .int .i64 c.p0, .int .i64 c.p1, .int .i64 c.p2, .int .i64 c.cy, .int .i64 c.ex, .int .i64 c.fi, .int .i64 c.la, .int .i64 c.po] 24)
  replace T := T.alloc (.cells #[.string c.nm, .int .i64 c.k, .int .i64 c.d, .int .i64 c.m, .int .i64 c.s, .int .i64 c.sh, .int .i64 c.p0, .int .i64 c.p1, .int .i64 c.p2, .int .i64 c.cy, .int .i64 c.ex, .int .i64 c.fi, .int .i64 c.la, .int .i64 c.po] 24)
  have cs := fun w => rServed_any c d y e0 w S K O
  have n1 : (e0 != 0) = true := bne_iff_ne.2 h
  clear S h K O
  go_enter Tryz.func24, Tryz.ntmps24
  go_upto_region 1 with fail
  generalize w.alloc (.cells #[.string c.nm, .int .i64 c.k, .int .i64 c.d, .int .i64 c.m, .int .i64 c.s, .int .i64 c.sh, .int .i64 c.p0, .int .i64 c.p1, .int .i64 c.p2, .int .i64 c.cy, .int .i64 c.ex, .int .i64 c.fi, .int .i64 c.la, .int .i64 c.po] 24) = W0 at *
  obtain ⟨_, c0, c1, c2, c3, c4, c5, c6, c7, c8, c9, c10, c11, c12, c13⟩ := id C
  go_wp2_with fail
  refine (cs _).mono ?_
  rintro e w1 ⟨rfl, hb⟩
  replace C := C.kept hb
  replace B := bthen B hb
  replace T := T.kept hb
  clear hb c0 c1 c2 c3 c4 c5 c6 c7 c8 c9 c10 c11 c12 c13 
  obtain ⟨_, c0, c1, c2, c3, c4, c5, c6, c7, c8, c9, c10, c11, c12, c13⟩ := id C
  go_wp2
  go_ret2
  exact ⟨by simp <;> omega, B⟩

set_option maxRecDepth 100000 in
theorem rcday_out (c : CalZ) (d k y : Int) (w : World) (S : ServedA c d y 0) (ns : ¬ Served c (y + k)) (K : ChkSays c) (O : OfSays c) (hm : c.nm.size ≤ maxLen) (T : FTab w) :
    Calls Tryz.prog 24 #[.agg #[.string c.nm, .int .i64 c.k, .int .i64 c.d, .int .i64 c.m, .int .i64 c.s, .int .i64 c.sh, .int .i64 c.p0, .int .i64 c.p1, .int .i64 c.p2, .int .i64 c.cy, .int .i64 c.ex, .int .i64 c.fi, .int .i64 c.la, .int .i64 c.po], .int .i64 d, .int .i64 k] w fun e w' => e = .returned (.tuple #[.int .i64 0, .int .i64 11]) ∧ Below w.heap.size w w' := by
  have C := CalIn.new w c 24
  have B := balloc (Below.refl _ w) (.cells #[.string c.nm, .int .i64 c.k, .int .i64 c.d, .int .i64 c.m, .int .i64 c.s, .int .i64 c.sh, .int .i64 c.p0, .int .i64 c.p1, .int .i64 c.p2, .int .i64 c.cy, .int .i64 c.ex, .int .i64 c.fi, .int .i64 c.la, .int .i64 c.po] 24)
  replace T := T.alloc (.cells #[.string c.nm, .int .i64 c.k, .int .i64 c.d, .int .i64 c.m, .int .i64 c.s, .int .i64 c.sh, .int .i64 c.p0, .int .i64 c.p1, .int .i64 c.p2, .int .i64 c.cy, .int .i64 c.ex, .int .i64 c.fi, .int .i64 c.la, .int .i64 c.po] 24)
  have cs := fun w => rServed_any c d y 0 w S K O
  have cr := fun w => rserved_any c (y + k) false w (.inr ⟨rfl, ns⟩)
  obtain ⟨ok, sy, _, _⟩ := served_to S
  have ty := served_told ok sy
  clear ok sy S ns K O
  by_cases h1 : k < -400
  · have q1 : decide (k < -400) = true := decide_eq_true h1
    go_enter Tryz.func24, Tryz.ntmps24
    go_upto_region 1 with fail
    generalize w.alloc (.cells #[.string c.nm, .int .i64 c.k, .int .i64 c.d, .int .i64 c.m, .int .i64 c.s, .int .i64 c.sh, .int .i64 c.p0, .int .i64 c.p1, .int .i64 c.p2, .int .i64 c.cy, .int .i64 c.ex, .int .i64 c.fi, .int .i64 c.la, .int .i64 c.po] 24) = W0 at *
    obtain ⟨_, c0, c1, c2, c3, c4, c5, c6, c7, c8, c9, c10, c11, c12, c13⟩ := id C
    go_wp2_with fail
    refine (cs _).mono ?_
    rintro e w1 ⟨rfl, hb⟩
    replace C := C.kept hb
    replace B := bthen B hb
    replace T := T.kept hb
    clear hb c0 c1 c2 c3 c4 c5 c6 c7 c8 c9 c10 c11 c12 c13 
    obtain ⟨_, c0, c1, c2, c3, c4, c5, c6, c7, c8, c9, c10, c11, c12, c13⟩ := id C
    go_wp2
    go_ret2
    exact ⟨by simp <;> omega, B⟩
  by_cases h2 : 400 < k
  · have q1 : decide (k < -400) = false := decide_eq_false h1
    have q2 : decide ((400 : Int) < k) = true := decide_eq_true h2
    go_enter Tryz.func24, Tryz.ntmps24
    go_upto_region 1 with fail
    generalize w.alloc (.cells #[.string c.nm, .int .i64 c.k, .int .i64 c.d, .int .i64 c.m, .int .i64 c.s, .int .i64 c.sh, .int .i64 c.p0, .int .i64 c.p1, .int .i64 c.p2, .int .i64 c.cy, .int .i64 c.ex, .int .i64 c.fi, .int .i64 c.la, .int .i64 c.po] 24) = W0 at *
    obtain ⟨_, c0, c1, c2, c3, c4, c5, c6, c7, c8, c9, c10, c11, c12, c13⟩ := id C
    go_wp2_with fail
    refine (cs _).mono ?_
    rintro e w2 ⟨rfl, hb⟩
    replace C := C.kept hb
    replace B := bthen B hb
    replace T := T.kept hb
    clear hb c0 c1 c2 c3 c4 c5 c6 c7 c8 c9 c10 c11 c12 c13 
    obtain ⟨_, c0, c1, c2, c3, c4, c5, c6, c7, c8, c9, c10, c11, c12, c13⟩ := id C
    go_wp2
    go_ret2
    exact ⟨by simp <;> omega, B⟩
  · have q1 : decide (k < -400) = false := decide_eq_false h1
    have q2 : decide ((400 : Int) < k) = false := decide_eq_false h2
    go_enter Tryz.func24, Tryz.ntmps24
    go_upto_region 1 with fail
    generalize w.alloc (.cells #[.string c.nm, .int .i64 c.k, .int .i64 c.d, .int .i64 c.m, .int .i64 c.s, .int .i64 c.sh, .int .i64 c.p0, .int .i64 c.p1, .int .i64 c.p2, .int .i64 c.cy, .int .i64 c.ex, .int .i64 c.fi, .int .i64 c.la, .int .i64 c.po] 24) = W0 at *
    obtain ⟨_, c0, c1, c2, c3, c4, c5, c6, c7, c8, c9, c10, c11, c12, c13⟩ := id C
    go_wp2_with fail
    refine (cs _).mono ?_
    rintro e w3 ⟨rfl, hb⟩
    replace C := C.kept hb
    replace B := bthen B hb
    replace T := T.kept hb
    clear hb c0 c1 c2 c3 c4 c5 c6 c7 c8 c9 c10 c11 c12 c13 
    obtain ⟨_, c0, c1, c2, c3, c4, c5, c6, c7, c8, c9, c10, c11, c12, c13⟩ := id C
    go_wp2_with fail
    refine (cr _).mono ?_
    rintro e w4 ⟨rfl, hb⟩
    replace C := C.kept hb
    replace B := bthen B hb
    replace T := T.kept hb
    clear hb c0 c1 c2 c3 c4 c5 c6 c7 c8 c9 c10 c11 c12 c13 
    obtain ⟨_, c0, c1, c2, c3, c4, c5, c6, c7, c8, c9, c10, c11, c12, c13⟩ := id C
    go_wp2
    go_ret2
    exact ⟨by simp <;> omega, B⟩

set_option maxRecDepth 100000 in
theorem rcday_week (c : CalZ) (d k y v er : Int) (w : World) (S : ServedA c d y 0) (st : Served c (y + k)) (k6 : c.k ≠ 6) (R : WdayA c y (y + k) d v er) (K : ChkSays c) (O : OfSays c) (hm : c.nm.size ≤ maxLen) (T : FTab w) :
    Calls Tryz.prog 24 #[.agg #[.string c.nm, .int .i64 c.k, .int .i64 c.d, .int .i64 c.m, .int .i64 c.s, .int .i64 c.sh, .int .i64 c.p0, .int .i64 c.p1, .int .i64 c.p2, .int .i64 c.cy, .int .i64 c.ex, .int .i64 c.fi, .int .i64 c.la, .int .i64 c.po], .int .i64 d, .int .i64 k] w fun e w' => e = .returned (.tuple #[.int .i64 v, .int .i64 er]) ∧ Below w.heap.size w w' := by
  have C := CalIn.new w c 24
  have B := balloc (Below.refl _ w) (.cells #[.string c.nm, .int .i64 c.k, .int .i64 c.d, .int .i64 c.m, .int .i64 c.s, .int .i64 c.sh, .int .i64 c.p0, .int .i64 c.p1, .int .i64 c.p2, .int .i64 c.cy, .int .i64 c.ex, .int .i64 c.fi, .int .i64 c.la, .int .i64 c.po] 24)
  replace T := T.alloc (.cells #[.string c.nm, .int .i64 c.k, .int .i64 c.d, .int .i64 c.m, .int .i64 c.s, .int .i64 c.sh, .int .i64 c.p0, .int .i64 c.p1, .int .i64 c.p2, .int .i64 c.cy, .int .i64 c.ex, .int .i64 c.fi, .int .i64 c.la, .int .i64 c.po] 24)
  have S0 := S
  obtain ⟨ok, sy, p0, p1⟩ := served_to S
  have cs := fun w => rServed_any c d y 0 w S K O
  have cr := fun w => rserved_any c (y + k) true w (.inl ⟨rfl, st⟩)
  have ty := served_told ok sy
  have tt := served_told ok st
  have yo := ok.2.2.1
  have kb : -400 ≤ k ∧ k ≤ 400 := by
    obtain ⟨s0, s1⟩ := sy
    obtain ⟨q0, q1⟩ := st
    obtain ⟨o0, o1, o2, o3⟩ := yo
    omega
  have q1 : decide (k < -400) = false := decide_eq_false (by omega)
  have q2 : decide ((400 : Int) < k) = false := decide_eq_false (by omega)
  have ww1 : IntKind.i64.wrap (y + k) = y + k := IntWalk.i64_in _ (by omega)
  obtain ⟨t, ht⟩ : ∃ t, t = y + k := ⟨_, rfl⟩
  rw [← ht] at st cr ww1 R tt
  obtain ⟨i, x, i0, i1, Pz, hv, hv0⟩ := R
  have wa := week_at ok k6 sy p0 p1 i0 i1
  have nb := (nweeks_01 ok.1 k6 (y := y) (by omega) (by omega)).1
  have xb := pola_bd ok k6 (by omega) (by omega) (by omega) (by omega) wa.2.2.2.1 (by omega) Pz
  have un : UnitOk c 5 y i := ⟨ok, ⟨by omega, by omega⟩, sy, wa.1.1, wa.1.2.1⟩
  have ib : 1 ≤ i ∧ i ≤ 60 := ⟨wa.2.2.2.1, by omega⟩
  obtain ⟨a, ha⟩ : ∃ a, a = uend c y 5 (i - 1) + 1 := ⟨_, rfl⟩
  obtain ⟨b, hb'⟩ : ∃ b, b = uend c y 5 i := ⟨_, rfl⟩
  obtain ⟨f, hf⟩ : ∃ f, f = yend c (t - 1) + 1 := ⟨_, rfl⟩
  have ca := fun w T => rDay17_any c d 5 5 y i 0 w (daya_of un wa.1.2.2.1 wa.1.2.2.2) K O hm T
  have cp := fun w T => rSpan_any c 5 y i a b 0 w (.inl ⟨un, ha, hb', rfl⟩) K hm T
  have cw := fun w T => rWeek_any c y t i x er w (.inl ⟨ok, k6, sy, st, wa.2.2.2.1, wa.2.2.2.2.1, Pz⟩) K hm T
  have cf := fun w => rStart_any c t f 0 w (.inl ⟨ok, by omega, by omega, hf, rfl⟩) K
  have fb := yend_bd ok.1 (y := t - 1) (by omega) (by omega)
  have yb := yend_bd ok.1 (y := y - 1) (by omega) (by omega)
  have yb2 := yend_bd ok.1 (y := y) (by omega) (by omega)
  have bd : 0 ≤ f ∧ f ≤ 3068037 ∧ 0 ≤ a ∧ a ≤ 3068037 ∧ 0 ≤ d ∧ d ≤ 3068036 := by omega
  obtain ⟨f0, f1, a0, a1, d0, d1⟩ := bd
  obtain ⟨x0, x1⟩ := xb
  have E := pola_er Pz
  have ev : er = 0 → v = f + (x - 1) * 7 + d - a := fun h => by have := hv h; omega
  have Q : (er = 0 ∧ v = f + (x - 1) * 7 + d - a) ∨ ((er != 0) = true ∧ v = 0) := by
    rcases E with h | h
    · exact .inl ⟨h, ev h⟩
    · exact .inr ⟨bne_iff_ne.2 (by omega), hv0 (by omega)⟩
  have d6 : (c.k == 6) = false := beq_eq_false_iff_ne.2 k6
  have HT := Lib.hid ht
  have ww2 : IntKind.i64.wrap (y + k) = t := by rw [← ht]; exact ww1
  clear ok k6 sy p0 p1 i0 i1 Pz hv hv0 wa nb un ha hb' hf fb yb yb2 E ev S S0 K O yo ht ww1 st
  go_enter Tryz.func24, Tryz.ntmps24
  go_upto_region 1 with fail
  generalize w.alloc (.cells #[.string c.nm, .int .i64 c.k, .int .i64 c.d, .int .i64 c.m, .int .i64 c.s, .int .i64 c.sh, .int .i64 c.p0, .int .i64 c.p1, .int .i64 c.p2, .int .i64 c.cy, .int .i64 c.ex, .int .i64 c.fi, .int .i64 c.la, .int .i64 c.po] 24) = W0 at *
  obtain ⟨_, c0, c1, c2, c3, c4, c5, c6, c7, c8, c9, c10, c11, c12, c13⟩ := id C
  go_wp2_with fail
  refine (cs _).mono ?_
  rintro e w1 ⟨rfl, hb⟩
  replace C := C.kept hb
  replace B := bthen B hb
  replace T := T.kept hb
  clear hb c0 c1 c2 c3 c4 c5 c6 c7 c8 c9 c10 c11 c12 c13 
  obtain ⟨_, c0, c1, c2, c3, c4, c5, c6, c7, c8, c9, c10, c11, c12, c13⟩ := id C
  go_wp2_with fail
  refine (cr _).mono ?_
  rintro e w2 ⟨rfl, hb⟩
  replace C := C.kept hb
  replace B := bthen B hb
  replace T := T.kept hb
  clear hb c0 c1 c2 c3 c4 c5 c6 c7 c8 c9 c10 c11 c12 c13 
  obtain ⟨_, c0, c1, c2, c3, c4, c5, c6, c7, c8, c9, c10, c11, c12, c13⟩ := id C
  go_wp2_with fail
  refine (ca _ T).mono ?_
  rintro e w3 ⟨rfl, hb⟩
  replace C := C.kept hb
  replace B := bthen B hb
  replace T := T.kept hb
  clear hb c0 c1 c2 c3 c4 c5 c6 c7 c8 c9 c10 c11 c12 c13 
  obtain ⟨_, c0, c1, c2, c3, c4, c5, c6, c7, c8, c9, c10, c11, c12, c13⟩ := id C
  have U := Go.Proofs.YtkfogmaogfgcgaaGreatDoor.Bx.Tri.new w3 (.int .i64 5) (.int .i64 y) (.int .i64 i) 26
  replace C := C.alloc (.cells #[.int .i64 5, .int .i64 y, .int .i64 i] 26)
  replace T := T.alloc (.cells #[.int .i64 5, .int .i64 y, .int .i64 i] 26)
  replace B := balloc B (.cells #[.int .i64 5, .int .i64 y, .int .i64 i] 26)
  clear c0 c1 c2 c3 c4 c5 c6 c7 c8 c9 c10 c11 c12 c13 
  obtain ⟨_, c0, c1, c2, c3, c4, c5, c6, c7, c8, c9, c10, c11, c12, c13⟩ := id C
  obtain ⟨_, u0, u1, u2, fu0, fu1, fu2⟩ := id U
  go_wp2_with fail
  refine (cp _ T).mono ?_
  rintro e w4 ⟨rfl, hb⟩
  replace C := C.kept hb
  replace B := bthen B hb
  replace T := T.kept hb
  replace U := U.kept hb
  clear hb c0 c1 c2 c3 c4 c5 c6 c7 c8 c9 c10 c11 c12 c13 u0 u1 u2 fu0 fu1 fu2
  obtain ⟨_, c0, c1, c2, c3, c4, c5, c6, c7, c8, c9, c10, c11, c12, c13⟩ := id C
  obtain ⟨_, u0, u1, u2, fu0, fu1, fu2⟩ := id U
  have X := Go.Proofs.YtkfogmaogfgcgaaGreatDoor.Pr.Two.new w4 (.int .i64 a) (.int .i64 b) 34
  replace C := C.alloc (.cells #[.int .i64 a, .int .i64 b] 34)
  replace T := T.alloc (.cells #[.int .i64 a, .int .i64 b] 34)
  replace U := U.alloc (.cells #[.int .i64 a, .int .i64 b] 34)
  replace B := balloc B (.cells #[.int .i64 a, .int .i64 b] 34)
  clear c0 c1 c2 c3 c4 c5 c6 c7 c8 c9 c10 c11 c12 c13 u0 u1 u2 fu0 fu1 fu2
  obtain ⟨_, c0, c1, c2, c3, c4, c5, c6, c7, c8, c9, c10, c11, c12, c13⟩ := id C
  obtain ⟨_, u0, u1, u2, fu0, fu1, fu2⟩ := id U
  obtain ⟨_, k0, k1, fk0, fk1⟩ := id X
  go_wp2_with fail
  refine (cw _ T).mono ?_
  rintro e w5 ⟨rfl, hb⟩
  replace C := C.kept hb
  replace B := bthen B hb
  replace T := T.kept hb
  replace U := U.kept hb
  replace X := X.kept hb
  clear hb c0 c1 c2 c3 c4 c5 c6 c7 c8 c9 c10 c11 c12 c13 u0 u1 u2 fu0 fu1 fu2 k0 k1 fk0 fk1
  obtain ⟨_, c0, c1, c2, c3, c4, c5, c6, c7, c8, c9, c10, c11, c12, c13⟩ := id C
  obtain ⟨_, u0, u1, u2, fu0, fu1, fu2⟩ := id U
  obtain ⟨_, k0, k1, fk0, fk1⟩ := id X
  rcases Q with ⟨rfl, rfl⟩ | ⟨n1, rfl⟩
  · go_wp2_with fail
    refine (cf _).mono ?_
    rintro e w6 ⟨rfl, hb⟩
    replace C := C.kept hb
    replace B := bthen B hb
    replace T := T.kept hb
    replace U := U.kept hb
    replace X := X.kept hb
    clear hb c0 c1 c2 c3 c4 c5 c6 c7 c8 c9 c10 c11 c12 c13 u0 u1 u2 fu0 fu1 fu2 k0 k1 fk0 fk1
    obtain ⟨_, c0, c1, c2, c3, c4, c5, c6, c7, c8, c9, c10, c11, c12, c13⟩ := id C
    obtain ⟨_, u0, u1, u2, fu0, fu1, fu2⟩ := id U
    obtain ⟨_, k0, k1, fk0, fk1⟩ := id X
    go_wp2
    go_ret2
    exact ⟨by simp <;> omega, B⟩
  · skip
    go_wp2
    go_ret2
    exact ⟨by simp <;> omega, B⟩

set_option maxRecDepth 100000 in
theorem rcday_month (c : CalZ) (d k y v : Int) (w : World) (S : ServedA c d y 0) (st : Served c (y + k)) (k6 : c.k = 6) (R : MdayA c y (y + k) d v) (K : ChkSays c) (O : OfSays c) (hm : c.nm.size ≤ maxLen) (T : FTab w) :
    Calls Tryz.prog 24 #[.agg #[.string c.nm, .int .i64 c.k, .int .i64 c.d, .int .i64 c.m, .int .i64 c.s, .int .i64 c.sh, .int .i64 c.p0, .int .i64 c.p1, .int .i64 c.p2, .int .i64 c.cy, .int .i64 c.ex, .int .i64 c.fi, .int .i64 c.la, .int .i64 c.po], .int .i64 d, .int .i64 k] w fun e w' => e = .returned (.tuple #[.int .i64 v, .int .i64 0]) ∧ Below w.heap.size w w' := by
  have C := CalIn.new w c 24
  have B := balloc (Below.refl _ w) (.cells #[.string c.nm, .int .i64 c.k, .int .i64 c.d, .int .i64 c.m, .int .i64 c.s, .int .i64 c.sh, .int .i64 c.p0, .int .i64 c.p1, .int .i64 c.p2, .int .i64 c.cy, .int .i64 c.ex, .int .i64 c.fi, .int .i64 c.la, .int .i64 c.po] 24)
  replace T := T.alloc (.cells #[.string c.nm, .int .i64 c.k, .int .i64 c.d, .int .i64 c.m, .int .i64 c.s, .int .i64 c.sh, .int .i64 c.p0, .int .i64 c.p1, .int .i64 c.p2, .int .i64 c.cy, .int .i64 c.ex, .int .i64 c.fi, .int .i64 c.la, .int .i64 c.po] 24)
  have S0 := S
  obtain ⟨ok, sy, p0, p1⟩ := served_to S
  have cs := fun w => rServed_any c d y 0 w S K O
  have cr := fun w => rserved_any c (y + k) true w (.inl ⟨rfl, st⟩)
  have ty := served_told ok sy
  have tt := served_told ok st
  have yo := ok.2.2.1
  have kb : -400 ≤ k ∧ k ≤ 400 := by
    obtain ⟨s0, s1⟩ := sy
    obtain ⟨q0, q1⟩ := st
    obtain ⟨o0, o1, o2, o3⟩ := yo
    omega
  have q1 : decide (k < -400) = false := decide_eq_false (by omega)
  have q2 : decide ((400 : Int) < k) = false := decide_eq_false (by omega)
  have ww1 : IntKind.i64.wrap (y + k) = y + k := IntWalk.i64_in _ (by omega)
  obtain ⟨t, ht⟩ : ∃ t, t = y + k := ⟨_, rfl⟩
  rw [← ht] at st cr ww1 R tt
  obtain ⟨i, I, hv⟩ := R
  have un : UnitOk c 4 y i := ⟨ok, ⟨by omega, by omega⟩, sy, I.1, I.2.1⟩
  have uc := (ucount_is c y).2.2.2.1
  have uc2 := (ucount_is c t).2.2.2.1
  have vn : UnitOk c 4 t i := ⟨ok, ⟨by omega, by omega⟩, st, I.1, by have := I.2.1; omega⟩
  have pb := per_bd ok.1
  have e0 : ∀ z j, uend c z 4 j = pend c z j := fun z j => uend_4 ..
  have z0 := pend_bd ok.1 (y := y) (p := i - 1) (by omega) (by omega) (by have := I.1; omega) (by have := I.2.1; omega)
  have z1 := pend_bd ok.1 (y := t) (p := i - 1) (by omega) (by omega) (by have := I.1; omega) (by have := I.2.1; omega)
  have z2 := pend_bd ok.1 (y := t) (p := i) (by omega) (by omega) (by have := I.1; omega) (by have := I.2.1; omega)
  obtain ⟨a, ha⟩ : ∃ a, a = uend c y 4 (i - 1) + 1 := ⟨_, rfl⟩
  obtain ⟨b, hb'⟩ : ∃ b, b = uend c y 4 i := ⟨_, rfl⟩
  obtain ⟨f, hf⟩ : ∃ f, f = uend c t 4 (i - 1) + 1 := ⟨_, rfl⟩
  obtain ⟨g, hg⟩ : ∃ g, g = uend c t 4 i := ⟨_, rfl⟩
  have ca := fun w T => rDay17_any c d 4 4 y i 0 w (daya_of un I.2.2.1 I.2.2.2) K O hm T
  have cp := fun w T => rSpan_any c 4 y i a b 0 w (.inl ⟨un, ha, hb', rfl⟩) K hm T
  have cq := fun w T => rSpan_any c 4 t i f g 0 w (.inl ⟨vn, hf, hg, rfl⟩) K hm T
  have yb := yend_bd ok.1 (y := y - 1) (by omega) (by omega)
  have yb2 := yend_bd ok.1 (y := y) (by omega) (by omega)
  simp only [e0] at ha hb' hf hg
  have hv2 : v = min (f + d - a) g := by
    rw [hv, ha, hf, hg]
    omega
  have bd : 0 ≤ f ∧ f ≤ 3068037 ∧ 0 ≤ a ∧ a ≤ 3068037 ∧ 0 ≤ d ∧ d ≤ 3068036 ∧ 0 ≤ g ∧ g ≤ 3068036 := by omega
  obtain ⟨f0, f1, a0, a1, d0, d1, g0, g1⟩ := bd
  have d6 : (c.k == 6) = true := by rw [k6]; rfl
  have HT := Lib.hid ht
  have ww2 : IntKind.i64.wrap (y + k) = t := by rw [← ht]; exact ww1
  have ww3 : IntKind.i64.wrap (f + d) = f + d := IntWalk.i64_in _ (by omega)
  have ww4 : IntKind.i64.wrap (f + d - a) = f + d - a := IntWalk.i64_in _ (by omega)
  clear ok sy st p0 p1 I hv un uc uc2 vn pb e0 z0 z1 z2 ha hb' hf hg yb yb2 S S0 K O yo ht ww1 k6
  go_enter Tryz.func24, Tryz.ntmps24
  go_upto_region 1 with fail
  generalize w.alloc (.cells #[.string c.nm, .int .i64 c.k, .int .i64 c.d, .int .i64 c.m, .int .i64 c.s, .int .i64 c.sh, .int .i64 c.p0, .int .i64 c.p1, .int .i64 c.p2, .int .i64 c.cy, .int .i64 c.ex, .int .i64 c.fi, .int .i64 c.la, .int .i64 c.po] 24) = W0 at *
  obtain ⟨_, c0, c1, c2, c3, c4, c5, c6, c7, c8, c9, c10, c11, c12, c13⟩ := id C
  go_wp2_with fail
  refine (cs _).mono ?_
  rintro e w1 ⟨rfl, hb⟩
  replace C := C.kept hb
  replace B := bthen B hb
  replace T := T.kept hb
  clear hb c0 c1 c2 c3 c4 c5 c6 c7 c8 c9 c10 c11 c12 c13 
  obtain ⟨_, c0, c1, c2, c3, c4, c5, c6, c7, c8, c9, c10, c11, c12, c13⟩ := id C
  go_wp2_with fail
  refine (cr _).mono ?_
  rintro e w2 ⟨rfl, hb⟩
  replace C := C.kept hb
  replace B := bthen B hb
  replace T := T.kept hb
  clear hb c0 c1 c2 c3 c4 c5 c6 c7 c8 c9 c10 c11 c12 c13 
  obtain ⟨_, c0, c1, c2, c3, c4, c5, c6, c7, c8, c9, c10, c11, c12, c13⟩ := id C
  go_wp2_with fail
  refine (ca _ T).mono ?_
  rintro e w3 ⟨rfl, hb⟩
  replace C := C.kept hb
  replace B := bthen B hb
  replace T := T.kept hb
  clear hb c0 c1 c2 c3 c4 c5 c6 c7 c8 c9 c10 c11 c12 c13 
  obtain ⟨_, c0, c1, c2, c3, c4, c5, c6, c7, c8, c9, c10, c11, c12, c13⟩ := id C
  have Q := Bel.new w3
  have C3 := C
  have T3 := T
  have B3 := B
  have U := Go.Proofs.YtkfogmaogfgcgaaGreatDoor.Bx.Tri.new w3 (.int .i64 4) (.int .i64 y) (.int .i64 i) 26
  obtain ⟨_⟩ := id Q
  replace C := C.alloc (.cells #[.int .i64 4, .int .i64 y, .int .i64 i] 26)
  replace T := T.alloc (.cells #[.int .i64 4, .int .i64 y, .int .i64 i] 26)
  replace Q := Q.alloc (.cells #[.int .i64 4, .int .i64 y, .int .i64 i] 26)
  replace B := balloc B (.cells #[.int .i64 4, .int .i64 y, .int .i64 i] 26)
  clear c0 c1 c2 c3 c4 c5 c6 c7 c8 c9 c10 c11 c12 c13 
  obtain ⟨_, c0, c1, c2, c3, c4, c5, c6, c7, c8, c9, c10, c11, c12, c13⟩ := id C
  obtain ⟨_⟩ := id Q
  obtain ⟨_, u0, u1, u2, fu0, fu1, fu2⟩ := id U
  go_wp2_with fail
  refine (cp _ T).mono ?_
  rintro e w4 ⟨rfl, hb⟩
  replace C := C.kept hb
  replace B := bthen B hb
  replace T := T.kept hb
  replace Q := Q.kept hb
  replace U := U.kept hb
  clear hb c0 c1 c2 c3 c4 c5 c6 c7 c8 c9 c10 c11 c12 c13 u0 u1 u2 fu0 fu1 fu2
  obtain ⟨_, c0, c1, c2, c3, c4, c5, c6, c7, c8, c9, c10, c11, c12, c13⟩ := id C
  obtain ⟨_⟩ := id Q
  obtain ⟨_, u0, u1, u2, fu0, fu1, fu2⟩ := id U
  go_upto_region 10 with fail
  have hS := bset Q.b (Nat.le_refl _) 1 (.int .i64 t)
  replace U := U.set1 (.int .i64 t)
  clear u0 u1 u2 fu0 fu1 fu2 C T B Q
  clear c0 c1 c2 c3 c4 c5 c6 c7 c8 c9 c10 c11 c12 c13 
  obtain ⟨wS, hwS⟩ : ∃ wS, w4.setCell ⟨w3.heap.size, 1, none⟩ (.int .i64 t) = wS := ⟨_, rfl⟩
  rw [hwS] at hS U ⊢
  have zS : wS.heap.size = w4.heap.size := by rw [← hwS]; simp
  have C := C3.kept hS
  have T := T3.kept hS
  have B := bthen B3 hS
  clear hwS hS C3 T3 B3
  obtain ⟨_, c0, c1, c2, c3, c4, c5, c6, c7, c8, c9, c10, c11, c12, c13⟩ := id C
  obtain ⟨_, u0, u1, u2, fu0, fu1, fu2⟩ := id U
  have X := Go.Proofs.YtkfogmaogfgcgaaGreatDoor.Pr.Two.new wS (.int .i64 a) (.int .i64 b) 34
  rw [zS] at X
  clear zS
  replace C := C.alloc (.cells #[.int .i64 a, .int .i64 b] 34)
  replace T := T.alloc (.cells #[.int .i64 a, .int .i64 b] 34)
  replace U := U.alloc (.cells #[.int .i64 a, .int .i64 b] 34)
  replace B := balloc B (.cells #[.int .i64 a, .int .i64 b] 34)
  clear c0 c1 c2 c3 c4 c5 c6 c7 c8 c9 c10 c11 c12 c13 u0 u1 u2 fu0 fu1 fu2
  obtain ⟨_, c0, c1, c2, c3, c4, c5, c6, c7, c8, c9, c10, c11, c12, c13⟩ := id C
  obtain ⟨_, u0, u1, u2, fu0, fu1, fu2⟩ := id U
  obtain ⟨_, k0, k1, fk0, fk1⟩ := id X
  go_wp2_with fail
  refine (cq _ T).mono ?_
  rintro e w5 ⟨rfl, hb⟩
  replace C := C.kept hb
  replace B := bthen B hb
  replace T := T.kept hb
  replace U := U.kept hb
  replace X := X.kept hb
  clear hb c0 c1 c2 c3 c4 c5 c6 c7 c8 c9 c10 c11 c12 c13 u0 u1 u2 fu0 fu1 fu2 k0 k1 fk0 fk1
  obtain ⟨_, c0, c1, c2, c3, c4, c5, c6, c7, c8, c9, c10, c11, c12, c13⟩ := id C
  obtain ⟨_, u0, u1, u2, fu0, fu1, fu2⟩ := id U
  obtain ⟨_, k0, k1, fk0, fk1⟩ := id X
  have Y := Go.Proofs.YtkfogmaogfgcgaaGreatDoor.Pr.Two.new w5 (.int .i64 f) (.int .i64 g) 34
  replace C := C.alloc (.cells #[.int .i64 f, .int .i64 g] 34)
  replace T := T.alloc (.cells #[.int .i64 f, .int .i64 g] 34)
  replace U := U.alloc (.cells #[.int .i64 f, .int .i64 g] 34)
  replace X := X.alloc (.cells #[.int .i64 f, .int .i64 g] 34)
  replace B := balloc B (.cells #[.int .i64 f, .int .i64 g] 34)
  clear c0 c1 c2 c3 c4 c5 c6 c7 c8 c9 c10 c11 c12 c13 u0 u1 u2 fu0 fu1 fu2 k0 k1 fk0 fk1
  obtain ⟨_, c0, c1, c2, c3, c4, c5, c6, c7, c8, c9, c10, c11, c12, c13⟩ := id C
  obtain ⟨_, u0, u1, u2, fu0, fu1, fu2⟩ := id U
  obtain ⟨_, k0, k1, fk0, fk1⟩ := id X
  obtain ⟨_, j0, j1, fj0, fj1⟩ := id Y
  go_wp2
  go_ret2
  exact ⟨by simp <;> omega, B⟩

theorem rCDay_any (c : CalZ) (d k v er : Int) (w : World) (R : CDayA c d k v er) (K : ChkSays c) (O : OfSays c) (hm : c.nm.size ≤ maxLen) (T : FTab w) :
    Calls Tryz.prog 24 #[.agg #[.string c.nm, .int .i64 c.k, .int .i64 c.d, .int .i64 c.m, .int .i64 c.s, .int .i64 c.sh, .int .i64 c.p0, .int .i64 c.p1, .int .i64 c.p2, .int .i64 c.cy, .int .i64 c.ex, .int .i64 c.fi, .int .i64 c.la, .int .i64 c.po], .int .i64 d, .int .i64 k] w fun e w' => e = .returned (.tuple #[.int .i64 v, .int .i64 er]) ∧ Below w.heap.size w w' := by
  obtain ⟨y, e, S, Q⟩ := R
  rcases Q with ⟨h, rfl, rfl⟩ | ⟨rfl, ns, rfl, rfl⟩ | ⟨rfl, st, k6, R⟩ | ⟨rfl, st, k6, R, rfl⟩
  · exact rcday_no c d k y er w S h K O hm T
  · exact rcday_out c d k y w S ns K O hm T
  · exact rcday_week c d k y v er w S st k6 R K O hm T
  · exact rcday_month c d k y v w S st k6 R K O hm T

end Go.Proofs.YtkfogmaogfgcgaaGreatDoor.Mr
