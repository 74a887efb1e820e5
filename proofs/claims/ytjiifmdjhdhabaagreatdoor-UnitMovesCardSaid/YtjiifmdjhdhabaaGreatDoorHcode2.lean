/- What weeksOf, endOf and endsFrom of package shape come to. -/
import Derived.Test.YtjiifmdjhdhabaaGreatDoorHcode
import Derived.Deep.AppendLies
import Derived.Maps.AppendAt
namespace Go.Proofs.YtjiifmdjhdhabaaGreatDoor.Hp
set_option linter.unusedSimpArgs false
set_option linter.unusedVariables false
open Go.RowKit Go.Proofs.YtjiifmdjhdhabaaGreatDoor.Bn Go.Proofs.YtjiifmdjhdhabaaGreatDoor.Bx Go.Proofs.YtjiifmdjhdhabaaGreatDoor.Cp Go.Proofs.YtjiifmdjhdhabaaGreatDoor.Am Go.Proofs.YtjiifmdjhdhabaaGreatDoor.Fp Go.Proofs.YtjiifmdjhdhabaaGreatDoor.Ap Go.Proofs.YtjiifmdjhdhabaaGreatDoor.Cm Go.Proofs.YtjiifmdjhdhabaaGreatDoor.Em Go.Proofs.YtjiifmdjhdhabaaGreatDoor.Ep Go.Proofs.YtjiifmdjhdhabaaGreatDoor.Rk

set_option maxHeartbeats 1000000

theorem pat_three {c : CalZ} (cut : CutOk c) (p : Int) : ((p - 1) % 3 = 0 ∧ pat c p = pat c 1) ∨ ((p - 1) % 3 = 1 ∧ pat c p = pat c 2) ∨ ((p - 1) % 3 = 2 ∧ pat c p = pat c 3) := by
  have h : (p - 1) % 3 = 0 ∨ (p - 1) % 3 = 1 ∨ (p - 1) % 3 = 2 := by omega
  unfold pat
  rcases h with h | h | h
  · refine .inl ⟨h, ?_⟩
    rw [if_pos h, if_pos (show ((1 : Int) - 1) % 3 = 0 by decide)]
  · refine .inr (.inl ⟨h, ?_⟩)
    rw [if_neg (show ¬ (p - 1) % 3 = 0 by omega), if_pos h, if_neg (show ¬ ((2 : Int) - 1) % 3 = 0 by decide), if_pos (show ((2 : Int) - 1) % 3 = 1 by decide)]
  · refine .inr (.inr ⟨h, ?_⟩)
    rw [if_neg (show ¬ (p - 1) % 3 = 0 by omega), if_neg (show ¬ (p - 1) % 3 = 1 by omega), if_neg (show ¬ ((3 : Int) - 1) % 3 = 0 by decide), if_neg (show ¬ ((3 : Int) - 1) % 3 = 1 by decide)]

set_option maxRecDepth 100000 in
theorem weeksOf_any (c : CalZ) (y p v : Int) (w : World) (ok : CalOk c) (k6 : c.k ≠ 6) (cut : CutOk c) (y0 : 1601 ≤ y) (y1 : y ≤ 9997) (p0 : 1 ≤ p) (p1 : p ≤ per c) (hv : v = wkp c y p) (hm : c.nm.size ≤ maxLen) (T : FTab w) :
    Calls Tryz.prog 127 #[.agg #[.string c.nm, .int .i64 c.k, .int .i64 c.d, .int .i64 c.m, .int .i64 c.s, .int .i64 c.sh, .int .i64 c.p0, .int .i64 c.p1, .int .i64 c.p2, .int .i64 c.cy, .int .i64 c.ex, .int .i64 c.fi, .int .i64 c.la, .int .i64 c.po], .int .i64 y, .int .i64 p] w fun e w' => e = .returned (.int .i64 v) ∧ Below w.heap.size w w' := by
  have C := CalIn.new w c 24
  have B := balloc (Below.refl _ w) (.cells #[.string c.nm, .int .i64 c.k, .int .i64 c.d, .int .i64 c.m, .int .i64 c.s, .int .i64 c.sh, .int .i64 c.p0, .int .i64 c.p1, .int .i64 c.p2, .int .i64 c.cy, .int .i64 c.ex, .int .i64 c.fi, .int .i64 c.la, .int .i64 c.po] 24)
  replace T := T.alloc (.cells #[.string c.nm, .int .i64 c.k, .int .i64 c.d, .int .i64 c.m, .int .i64 c.s, .int .i64 c.sh, .int .i64 c.p0, .int .i64 c.p1, .int .i64 c.p2, .int .i64 c.cy, .int .i64 c.ex, .int .i64 c.fi, .int .i64 c.la, .int .i64 c.po] 24)
  obtain ⟨x0, h0⟩ : ∃ x, x = pat c 1 := ⟨_, rfl⟩
  obtain ⟨x1, h1⟩ : ∃ x, x = pat c 2 := ⟨_, rfl⟩
  obtain ⟨x2, h2⟩ : ∃ x, x = pat c 3 := ⟨_, rfl⟩
  have cp := fun w => patternOf_any c x0 x1 x2 w cut h0 h1 h2
  have pb := per_bd ok.1
  have nw := (nweeks_01 ok.1 k6 y0 (by omega)).1
  obtain ⟨N, hN⟩ : ∃ N, N = nweeks c y := ⟨_, rfl⟩
  rw [← hN] at nw
  have cw := fun w T => Weeks_any c y N 0 w (.inl ⟨ok, k6, y0, y1, hN, rfl⟩) hm T
  have ps := (pend_step ok.1 y0 y1 p0 p1)
  have x4 : ∀ q, 1 ≤ q → q ≤ 12 → 1 ≤ pat c q ∧ pat c q ≤ 5 := fun q q0 q1 => by
    rcases pend_step (y := y) ok.1 y0 y1 q0 (by omega) with ⟨a, _⟩ | ⟨a, _⟩ | ⟨_, _, _, _, a⟩
    · exfalso; rcases cut_cases cut with h | h | h | h | h <;> omega
    · exfalso; rcases cut_cases cut with h | h | h | h | h <;> omega
    · exact a
  have b0 := x4 1 (by omega) (by omega)
  have b1 := x4 2 (by omega) (by omega)
  have b2 := x4 3 (by omega) (by omega)
  rw [← h0] at b0
  rw [← h1] at b1
  rw [← h2] at b2
  have O : ∃ x r, x = pat c p ∧ ((r = 0 ∧ x = x0) ∨ (r = 1 ∧ x = x1) ∨ (r = 2 ∧ x = x2)) ∧ (p - 1) % 3 = r := by
    rcases pat_three cut p with ⟨a, b⟩ | ⟨a, b⟩ | ⟨a, b⟩
    · exact ⟨_, 0, rfl, .inl ⟨rfl, by rw [b, h0]⟩, a⟩
    · exact ⟨_, 1, rfl, .inr (.inl ⟨rfl, by rw [b, h1]⟩), a⟩
    · exact ⟨_, 2, rfl, .inr (.inr ⟨rfl, by rw [b, h2]⟩), a⟩
  obtain ⟨x, r, hx, hr, hpr⟩ := O
  have V : (p = c.ex ∧ v = x + (N - 52)) ∨ (p ≠ c.ex ∧ v = x) := by
    rw [hv]; unfold wkp; rw [← hx, ← hN]
    by_cases q : p = c.ex
    · rw [if_pos q]; exact .inl ⟨q, rfl⟩
    · rw [if_neg q]; exact .inr ⟨q, by omega⟩
  clear hv hN cut ok ps x4 h0 h1 h2 hx
  have p2 : p ≤ 52 := by omega
  clear pb p1
  rcases hr with ⟨rfl, hx⟩ | ⟨rfl, hx⟩ | ⟨rfl, hx⟩
  all_goals
    replace hx := hx.symm
    subst hx
    rcases V with ⟨q, rfl⟩ | ⟨q, hv⟩
    · have dq : (p == c.ex) = true := by rw [q]; simp
      clear q
      go_enter Tryz.func127, Tryz.ntmps127
      go_upto_region 1 with fail
      generalize w.alloc (.cells #[.string c.nm, .int .i64 c.k, .int .i64 c.d, .int .i64 c.m, .int .i64 c.s, .int .i64 c.sh, .int .i64 c.p0, .int .i64 c.p1, .int .i64 c.p2, .int .i64 c.cy, .int .i64 c.ex, .int .i64 c.fi, .int .i64 c.la, .int .i64 c.po] 24) = W0 at *
      obtain ⟨_, c0, c1, c2, c3, c4, c5, c6, c7, c8, c9, c10, c11, c12, c13⟩ := id C
      go_wp2_with fail
      refine (cp _).mono ?_
      rintro e w1 ⟨rfl, hb⟩
      replace C := C.kept hb
      replace B := bthen B hb
      replace T := T.kept hb
      clear hb c0 c1 c2 c3 c4 c5 c6 c7 c8 c9 c10 c11 c12 c13
      obtain ⟨_, c0, c1, c2, c3, c4, c5, c6, c7, c8, c9, c10, c11, c12, c13⟩ := id C
      replace C := C.alloc (.cells #[.int .i64 x0, .int .i64 x1, .int .i64 x2] 22)
      have X := Tri.new w1 (.int .i64 x0) (.int .i64 x1) (.int .i64 x2) 22
      replace B := balloc B (.cells #[.int .i64 x0, .int .i64 x1, .int .i64 x2] 22)
      replace T := T.alloc (.cells #[.int .i64 x0, .int .i64 x1, .int .i64 x2] 22)
      clear c0 c1 c2 c3 c4 c5 c6 c7 c8 c9 c10 c11 c12 c13
      obtain ⟨_, c0, c1, c2, c3, c4, c5, c6, c7, c8, c9, c10, c11, c12, c13⟩ := id C
      obtain ⟨_, t0, t1, t2, _, _, _⟩ := X
      go_wp2_with fail
      refine (cw _ T).mono ?_
      rintro e w2 ⟨rfl, hb⟩
      replace C := C.kept hb
      replace B := bthen B hb
      replace T := T.kept hb
      clear hb c0 c1 c2 c3 c4 c5 c6 c7 c8 c9 c10 c11 c12 c13
      obtain ⟨_, c0, c1, c2, c3, c4, c5, c6, c7, c8, c9, c10, c11, c12, c13⟩ := id C
      go_wp2
      go_ret
      exact ⟨rfl, B⟩
    · have dq : (p == c.ex) = false := beq_eq_false_iff_ne.2 q
      replace hv := hv.symm
      subst hv
      clear q
      go_enter Tryz.func127, Tryz.ntmps127
      go_upto_region 1 with fail
      generalize w.alloc (.cells #[.string c.nm, .int .i64 c.k, .int .i64 c.d, .int .i64 c.m, .int .i64 c.s, .int .i64 c.sh, .int .i64 c.p0, .int .i64 c.p1, .int .i64 c.p2, .int .i64 c.cy, .int .i64 c.ex, .int .i64 c.fi, .int .i64 c.la, .int .i64 c.po] 24) = W0 at *
      obtain ⟨_, c0, c1, c2, c3, c4, c5, c6, c7, c8, c9, c10, c11, c12, c13⟩ := id C
      go_wp2_with fail
      refine (cp _).mono ?_
      rintro e w3 ⟨rfl, hb⟩
      replace C := C.kept hb
      replace B := bthen B hb
      replace T := T.kept hb
      clear hb c0 c1 c2 c3 c4 c5 c6 c7 c8 c9 c10 c11 c12 c13
      obtain ⟨_, c0, c1, c2, c3, c4, c5, c6, c7, c8, c9, c10, c11, c12, c13⟩ := id C
      replace C := C.alloc (.cells #[.int .i64 x0, .int .i64 x1, .int .i64 x2] 22)
      have X := Tri.new w3 (.int .i64 x0) (.int .i64 x1) (.int .i64 x2) 22
      replace B := balloc B (.cells #[.int .i64 x0, .int .i64 x1, .int .i64 x2] 22)
      clear c0 c1 c2 c3 c4 c5 c6 c7 c8 c9 c10 c11 c12 c13
      obtain ⟨_, c0, c1, c2, c3, c4, c5, c6, c7, c8, c9, c10, c11, c12, c13⟩ := id C
      obtain ⟨_, t0, t1, t2, _, _, _⟩ := X
      go_wp2
      go_ret
      exact ⟨rfl, B⟩

end Go.Proofs.YtjiifmdjhdhabaaGreatDoor.Hp
