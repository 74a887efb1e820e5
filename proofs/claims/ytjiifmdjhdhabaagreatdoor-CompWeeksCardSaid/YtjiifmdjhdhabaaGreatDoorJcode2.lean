/- What Nth, Bounds and Served of package year come to. -/
import Derived.Test.YtjiifmdjhdhabaaGreatDoorJcode
namespace Go.Proofs.YtjiifmdjhdhabaaGreatDoor.Jp
set_option linter.unusedSimpArgs false
set_option linter.unusedVariables false
open Go.RowKit Go.Proofs.YtjiifmdjhdhabaaGreatDoor.Bn Go.Proofs.YtjiifmdjhdhabaaGreatDoor.Bx Go.Proofs.YtjiifmdjhdhabaaGreatDoor.Cp Go.Proofs.YtjiifmdjhdhabaaGreatDoor.Am Go.Proofs.YtjiifmdjhdhabaaGreatDoor.Fp Go.Proofs.YtjiifmdjhdhabaaGreatDoor.Ap Go.Proofs.YtjiifmdjhdhabaaGreatDoor.Cm Go.Proofs.YtjiifmdjhdhabaaGreatDoor.Em Go.Proofs.YtjiifmdjhdhabaaGreatDoor.Ep

set_option maxHeartbeats 1000000

theorem ofa_cases {c : CalZ} {n y er : Int} (R : OfA c n y er) : (er = 0 ∧ CalOk c ∧ 1601 ≤ y ∧ y ≤ 9997 ∧ 0 ≤ n ∧ n ≤ 3068036) ∨ (y = 0 ∧ er = 11) ∨ (y = 0 ∧ er = 4) ∨ (y = 0 ∧ er = 1) := by
  rcases R with ⟨ok, n0, n1, y0, y1, _, _, h⟩ | ⟨_, _, _, _, h2, h3⟩ | ⟨_, _, h2, h3⟩ | ⟨_, h2, h3⟩
  · exact .inl ⟨h, ok, y0, y1, n0, n1⟩
  · exact .inr (.inl ⟨h2, h3⟩)
  · exact .inr (.inr (.inl ⟨h2, h3⟩))
  · exact .inr (.inr (.inr ⟨h2, h3⟩))

theorem Served_any (c : CalZ) (n v er : Int) (w : World) (R : ServedA c n v er) (hm : c.nm.size ≤ maxLen) (T : FTab w) :
    Calls Tryz.prog 55 #[.agg #[.string c.nm, .int .i64 c.k, .int .i64 c.d, .int .i64 c.m, .int .i64 c.s, .int .i64 c.sh, .int .i64 c.p0, .int .i64 c.p1, .int .i64 c.p2, .int .i64 c.cy, .int .i64 c.ex, .int .i64 c.fi, .int .i64 c.la, .int .i64 c.po], .int .i64 n] w fun e w' => e = .returned (.tuple #[.int .i64 v, .int .i64 er]) ∧ Below w.heap.size w w' := by
  obtain ⟨y, e0, R, O⟩ := R
  have co := fun w T => Of_any c n y e0 w R hm T
  have C := CalIn.new w c 24
  have B := balloc (Below.refl _ w) (.cells #[.string c.nm, .int .i64 c.k, .int .i64 c.d, .int .i64 c.m, .int .i64 c.s, .int .i64 c.sh, .int .i64 c.p0, .int .i64 c.p1, .int .i64 c.p2, .int .i64 c.cy, .int .i64 c.ex, .int .i64 c.fi, .int .i64 c.la, .int .i64 c.po] 24)
  have T0 := T.alloc (.cells #[.string c.nm, .int .i64 c.k, .int .i64 c.d, .int .i64 c.m, .int .i64 c.s, .int .i64 c.sh, .int .i64 c.p0, .int .i64 c.p1, .int .i64 c.p2, .int .i64 c.cy, .int .i64 c.ex, .int .i64 c.fi, .int .i64 c.la, .int .i64 c.po] 24)
  have O2 : (e0 = 0 ∧ c.fi ≤ y ∧ y ≤ c.la ∧ v = y ∧ er = 0) ∨ (e0 = 0 ∧ y < c.fi ∧ v = 0 ∧ er = 11) ∨ (e0 = 0 ∧ c.fi ≤ y ∧ c.la < y ∧ v = 0 ∧ er = 11) ∨ (y = 0 ∧ v = 0 ∧ er = 11 ∧ e0 = 11) ∨ (y = 0 ∧ v = 0 ∧ er = 4 ∧ e0 = 4) ∨ (y = 0 ∧ v = 0 ∧ er = 1 ∧ e0 = 1) := by
    have q := ofa_cases R
    rcases O with ⟨h1, h2, h3⟩ | ⟨h1, h2, h3, h4, h5⟩ | ⟨h1, h2, h3, h4⟩
    · rcases q with ⟨h, _⟩ | ⟨h, h'⟩ | ⟨h, h'⟩ | ⟨h, h'⟩
      · exact absurd h h1
      · exact .inr (.inr (.inr (.inl ⟨h, h2, by omega, h'⟩)))
      · exact .inr (.inr (.inr (.inr (.inl ⟨h, h2, by omega, h'⟩))))
      · exact .inr (.inr (.inr (.inr (.inr ⟨h, h2, by omega, h'⟩))))
    · exact .inl ⟨h1, h2, h3, h4, h5⟩
    · by_cases k : c.fi ≤ y
      · exact .inr (.inr (.inl ⟨h1, k, by omega, h3, h4⟩))
      · exact .inr (.inl ⟨h1, by omega, h3, h4⟩)
  clear O R
  rcases O2 with ⟨rfl, h1, h2, rfl, rfl⟩ | ⟨rfl, h1, rfl, rfl⟩ | ⟨rfl, h1, h2, rfl, rfl⟩ | ⟨rfl, rfl, rfl, rfl⟩ | ⟨rfl, rfl, rfl, rfl⟩ | ⟨rfl, rfl, rfl, rfl⟩
  all_goals
    go_enter Tryz.func55, Tryz.ntmps55
    go_upto_region 1 with fail
    generalize w.alloc (.cells #[.string c.nm, .int .i64 c.k, .int .i64 c.d, .int .i64 c.m, .int .i64 c.s, .int .i64 c.sh, .int .i64 c.p0, .int .i64 c.p1, .int .i64 c.p2, .int .i64 c.cy, .int .i64 c.ex, .int .i64 c.fi, .int .i64 c.la, .int .i64 c.po] 24) = W0 at *
    obtain ⟨_, c0, c1, c2, c3, c4, c5, c6, c7, c8, c9, c10, c11, c12, c13⟩ := id C
    go_wp2_with fail
    refine (co _ T0).mono ?_
    rintro e w1 ⟨rfl, hb⟩
    have C1 := C.kept hb
    have B1 := bthen B hb
    clear hb C B T0 c0 c1 c2 c3 c4 c5 c6 c7 c8 c9 c10 c11 c12 c13
    obtain ⟨_, c0, c1, c2, c3, c4, c5, c6, c7, c8, c9, c10, c11, c12, c13⟩ := id C1
    go_wp2
    go_ret2
    exact ⟨rfl, B1⟩

end Go.Proofs.YtjiifmdjhdhabaaGreatDoor.Jp
