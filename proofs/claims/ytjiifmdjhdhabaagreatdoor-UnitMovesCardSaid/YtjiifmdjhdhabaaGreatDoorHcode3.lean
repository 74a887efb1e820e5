/- What endOf, endsFrom, Ends, Weeks, Quarter and Added of package shape come to. -/
import Derived.Test.YtjiifmdjhdhabaaGreatDoorHcode2
import Derived.Test.YtjiifmdjhdhabaaGreatDoorHcount
namespace Go.Proofs.YtjiifmdjhdhabaaGreatDoor.Hp
set_option linter.unusedSimpArgs false
set_option linter.unusedVariables false
open Go.RowKit Go.Proofs.YtjiifmdjhdhabaaGreatDoor.Bn Go.Proofs.YtjiifmdjhdhabaaGreatDoor.Bx Go.Proofs.YtjiifmdjhdhabaaGreatDoor.Cp Go.Proofs.YtjiifmdjhdhabaaGreatDoor.Am Go.Proofs.YtjiifmdjhdhabaaGreatDoor.Fp Go.Proofs.YtjiifmdjhdhabaaGreatDoor.Ap Go.Proofs.YtjiifmdjhdhabaaGreatDoor.Cm Go.Proofs.YtjiifmdjhdhabaaGreatDoor.Em Go.Proofs.YtjiifmdjhdhabaaGreatDoor.Ep Go.Proofs.YtjiifmdjhdhabaaGreatDoor.Rk

set_option maxHeartbeats 1000000

set_option maxRecDepth 100000 in
theorem pendOf_any (c : CalZ) (y p a v : Int) (w : World) (ok : CalOk c) (y0 : 1601 ≤ y) (y1 : y ≤ 9997) (p0 : 1 ≤ p) (p1 : p ≤ per c) (ha : a = pend c y (p - 1) + 1) (hv : v = pend c y p) (hm : c.nm.size ≤ maxLen) (T : FTab w) :
    Calls Tryz.prog 114 #[.agg #[.string c.nm, .int .i64 c.k, .int .i64 c.d, .int .i64 c.m, .int .i64 c.s, .int .i64 c.sh, .int .i64 c.p0, .int .i64 c.p1, .int .i64 c.p2, .int .i64 c.cy, .int .i64 c.ex, .int .i64 c.fi, .int .i64 c.la, .int .i64 c.po], .int .i64 y, .int .i64 p, .int .i64 a] w fun e w' => e = .returned (.int .i64 v) ∧ Below w.heap.size w w' := by
  have C := CalIn.new w c 24
  have B := balloc (Below.refl _ w) (.cells #[.string c.nm, .int .i64 c.k, .int .i64 c.d, .int .i64 c.m, .int .i64 c.s, .int .i64 c.sh, .int .i64 c.p0, .int .i64 c.p1, .int .i64 c.p2, .int .i64 c.cy, .int .i64 c.ex, .int .i64 c.fi, .int .i64 c.la, .int .i64 c.po] 24)
  replace T := T.alloc (.cells #[.string c.nm, .int .i64 c.k, .int .i64 c.d, .int .i64 c.m, .int .i64 c.s, .int .i64 c.sh, .int .i64 c.p0, .int .i64 c.p1, .int .i64 c.p2, .int .i64 c.cy, .int .i64 c.ex, .int .i64 c.fi, .int .i64 c.la, .int .i64 c.po] 24)
  have bd := pend_bd ok.1 y0 y1 (p := p - 1) (by omega) (by omega)
  have bv := pend_bd ok.1 y0 y1 (p := p) (by omega) (by omega)
  have st := (step_bd ok.1 y0 y1 p0 p1).1
  rw [← hv] at bv st
  have ad : pend c y (p - 1) = a - 1 := by omega
  rw [ad] at bd st
  obtain ⟨a0, a1⟩ := bd
  obtain ⟨v0, v1⟩ := bv
  have pp : p ≤ 52 := by have := per_bd ok.1; omega
  rcases pend_step ok.1 y0 y1 p0 p1 with ⟨s4, _, e⟩ | ⟨s5, e, f⟩ | ⟨n4, n5, k6, e, x0, x1⟩
  · have d4 : (c.sh == 4) = true := by rw [s4]; rfl
    have pe : p ≤ 12 := by
      rcases shape_cases ok.1 with h | h | ⟨_, _, h⟩
      · omega
      · omega
      · rcases cut_cases h with h | h | h | h | h <;> omega
    have cl := fun w T => Ep.Last_any y p 7 v 0 w (.inl ⟨⟨by omega, by omega, p0, pe⟩, by omega, by omega, by rw [hv, e], rfl⟩) T
    clear ok hv ha e s4 ad st
    go_enter Tryz.func114, Tryz.ntmps114
    go_upto_region 1 with fail
    generalize w.alloc (.cells #[.string c.nm, .int .i64 c.k, .int .i64 c.d, .int .i64 c.m, .int .i64 c.s, .int .i64 c.sh, .int .i64 c.p0, .int .i64 c.p1, .int .i64 c.p2, .int .i64 c.cy, .int .i64 c.ex, .int .i64 c.fi, .int .i64 c.la, .int .i64 c.po] 24) = W0 at *
    obtain ⟨_, c0, c1, c2, c3, c4, c5, c6, c7, c8, c9, c10, c11, c12, c13⟩ := id C
    go_wp2_with fail
    refine (cl _ T.civ).mono ?_
    rintro e w1 ⟨rfl, hb⟩
    replace C := C.kept hb
    replace B := bthen B hb
    replace T := T.kept hb
    clear hb c0 c1 c2 c3 c4 c5 c6 c7 c8 c9 c10 c11 c12 c13
    obtain ⟨_, c0, c1, c2, c3, c4, c5, c6, c7, c8, c9, c10, c11, c12, c13⟩ := id C
    go_wp2
    go_ret
    exact ⟨rfl, B⟩
  · have d4 : (c.sh == 4) = false := by rw [s5]; rfl
    have d5 : (c.sh == 5) = true := by rw [s5]; rfl
    obtain ⟨Y, hY⟩ : ∃ Y, Y = mon c y p / 12 := ⟨_, rfl⟩
    obtain ⟨M, hM⟩ : ∃ M, M = mon c y p % 12 + 1 := ⟨_, rfl⟩
    obtain ⟨L, hL⟩ : ∃ L, L = mlen Y M := ⟨_, rfl⟩
    rw [← hY, ← hM] at e f
    rw [← hv, ad, ← hL] at e
    rw [ad] at f
    have kb := kind_bd ok.1
    have pe : p ≤ 12 := by
      rcases shape_cases ok.1 with h | h | ⟨_, _, h⟩
      · omega
      · omega
      · rcases cut_cases h with h | h | h | h | h <;> omega
    have ml := mlen_bd Y M
    have mo : MonthOk Y M := by subst hY hM; unfold mon; exact ⟨by omega, by omega, by omega, by omega⟩
    have co := fun w T => Of_b a Y M 1 0 w (.inl ⟨by omega, by omega, ⟨mo, by omega, by omega⟩, by omega, rfl⟩) T
    have cl := fun w T => Length_b Y M L 0 w (.inl ⟨mo, hL, rfl⟩) T
    rw [← hL] at ml
    obtain ⟨m0, m1⟩ := ml
    obtain rfl : v = a + L - 1 := by omega
    clear ok hv ha e f s5 hY hM hL mo kb ad st
    go_enter Tryz.func114, Tryz.ntmps114
    go_upto_region 1 with fail
    generalize w.alloc (.cells #[.string c.nm, .int .i64 c.k, .int .i64 c.d, .int .i64 c.m, .int .i64 c.s, .int .i64 c.sh, .int .i64 c.p0, .int .i64 c.p1, .int .i64 c.p2, .int .i64 c.cy, .int .i64 c.ex, .int .i64 c.fi, .int .i64 c.la, .int .i64 c.po] 24) = W0 at *
    obtain ⟨_, c0, c1, c2, c3, c4, c5, c6, c7, c8, c9, c10, c11, c12, c13⟩ := id C
    go_wp2_with fail
    refine (co _ T.civ).mono ?_
    rintro e w2 ⟨rfl, hb⟩
    replace C := C.kept hb
    replace B := bthen B hb
    replace T := T.kept hb
    clear hb c0 c1 c2 c3 c4 c5 c6 c7 c8 c9 c10 c11 c12 c13
    obtain ⟨_, c0, c1, c2, c3, c4, c5, c6, c7, c8, c9, c10, c11, c12, c13⟩ := id C
    replace C := C.alloc (.cells #[.int .i64 Y, .int .i64 M, .int .i64 1] 88)
    have X := Tri.new w2 (.int .i64 Y) (.int .i64 M) (.int .i64 1) 88
    replace B := balloc B (.cells #[.int .i64 Y, .int .i64 M, .int .i64 1] 88)
    replace T := T.alloc (.cells #[.int .i64 Y, .int .i64 M, .int .i64 1] 88)
    obtain ⟨_, t0, t1, t2, _, _, _⟩ := X
    clear c0 c1 c2 c3 c4 c5 c6 c7 c8 c9 c10 c11 c12 c13
    obtain ⟨_, c0, c1, c2, c3, c4, c5, c6, c7, c8, c9, c10, c11, c12, c13⟩ := id C
    go_wp2_with fail
    refine (cl _ T.civ).mono ?_
    rintro e w3 ⟨rfl, hb⟩
    replace C := C.kept hb
    replace B := bthen B hb
    replace T := T.kept hb
    clear hb c0 c1 c2 c3 c4 c5 c6 c7 c8 c9 c10 c11 c12 c13
    obtain ⟨_, c0, c1, c2, c3, c4, c5, c6, c7, c8, c9, c10, c11, c12, c13⟩ := id C
    go_wp2
    go_ret
    exact ⟨rfl, B⟩
  · have d4 : (c.sh == 4) = false := beq_eq_false_iff_ne.2 n4
    have d5 : (c.sh == 5) = false := beq_eq_false_iff_ne.2 n5
    have cut : CutOk c := by
      rcases shape_cases ok.1 with h | h | ⟨_, _, h⟩
      · omega
      · omega
      · exact h
    obtain ⟨x, hx⟩ : ∃ x, x = wkp c y p := ⟨_, rfl⟩
    have cw := fun w T => weeksOf_any c y p x w ok k6 cut y0 y1 p0 p1 hx hm T
    rw [← hx, ← hv, ad] at e
    have x8 : 0 ≤ x ∧ x ≤ 1000000 := by omega
    obtain ⟨x8, x9⟩ := x8
    obtain rfl : v = a + x * 7 - 1 := by omega
    clear ok hv ha e hx cut n4 n5 ad st
    go_enter Tryz.func114, Tryz.ntmps114
    go_upto_region 1 with fail
    generalize w.alloc (.cells #[.string c.nm, .int .i64 c.k, .int .i64 c.d, .int .i64 c.m, .int .i64 c.s, .int .i64 c.sh, .int .i64 c.p0, .int .i64 c.p1, .int .i64 c.p2, .int .i64 c.cy, .int .i64 c.ex, .int .i64 c.fi, .int .i64 c.la, .int .i64 c.po] 24) = W0 at *
    obtain ⟨_, c0, c1, c2, c3, c4, c5, c6, c7, c8, c9, c10, c11, c12, c13⟩ := id C
    go_wp2_with fail
    refine (cw _ T).mono ?_
    rintro e w4 ⟨rfl, hb⟩
    replace C := C.kept hb
    replace B := bthen B hb
    replace T := T.kept hb
    clear hb c0 c1 c2 c3 c4 c5 c6 c7 c8 c9 c10 c11 c12 c13
    obtain ⟨_, c0, c1, c2, c3, c4, c5, c6, c7, c8, c9, c10, c11, c12, c13⟩ := id C
    go_wp2
    go_ret
    exact ⟨rfl, B⟩

end Go.Proofs.YtjiifmdjhdhabaaGreatDoor.Hp
