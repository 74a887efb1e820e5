/- What Check of the reference of layer 11 comes to for the other kinds. -/
import Derived.Test.YtjiifmdjhdhabaaGreatDoorFrsh
import Derived.Test.YtjiifmdjhdhabaaGreatDoorJF
namespace Go.Proofs.YtjiifmdjhdhabaaGreatDoor.Fr
set_option linter.unusedSimpArgs false
set_option linter.unusedVariables false
open Go.RowKit Go.Proofs.YtjiifmdjhdhabaaGreatDoor.Bn Go.Proofs.YtjiifmdjhdhabaaGreatDoor.Am Go.Proofs.YtjiifmdjhdhabaaGreatDoor.Fp
open Go.Proofs.YtjiifmdjhdhabaaGreatDoor.Zm (name)
open Go.Proofs.YtjiifmdjhdhabaaGreatDoor.Zr (by_)

set_option maxHeartbeats 4000000

set_option maxRecDepth 100000 in
theorem rkind_k3 (c : CalZ) (er : Int) (w : World) (k1 : (c.k == 1) = false) (k2 : (c.k == 2) = false) (k5 : (c.k == 5) = false) (k3 : (c.k == 3) = true)
    (h1 : 1602 ≤ c.fi) (h2 : c.la ≤ 9996) (h3 : c.fi ≤ c.la) (h4 : decide (400 ≤ c.la - c.fi) = false) (g1 : 1 ≤ c.po) (g2 : c.po ≤ 4) (g3 : (c.po == 4) = false) (g4 : (c.k == 6) = false) (hr : er = if decide (CalSame ⟨⟨#[]⟩, c.k, c.d, c.m, c.s, c.sh, c.p0, c.p1, c.p2, c.cy, c.ex, 0, 0, 0⟩ ⟨⟨#[]⟩, 3, 6, 1, 1, 1, 4, 5, 4, 0, 12, 0, 0, 0⟩) = true then 0 else 1)
    (cN : ∀ w, Calls Tryz.prog 64 #[.string c.nm] w fun e w' => e = .returned (.bool true) ∧ Below w.heap.size w w') :
    Calls Tryz.prog 32 #[.agg #[.string c.nm, .int .i64 c.k, .int .i64 c.d, .int .i64 c.m, .int .i64 c.s, .int .i64 c.sh, .int .i64 c.p0, .int .i64 c.p1, .int .i64 c.p2, .int .i64 c.cy, .int .i64 c.ex, .int .i64 c.fi, .int .i64 c.la, .int .i64 c.po]] w fun e w' => e = .returned (.int .i64 er) ∧ Below w.heap.size w w' := by
  have C := CalIn.new w c 24
  have B := balloc (Below.refl _ w) (.cells #[.string c.nm, .int .i64 c.k, .int .i64 c.d, .int .i64 c.m, .int .i64 c.s, .int .i64 c.sh, .int .i64 c.p0, .int .i64 c.p1, .int .i64 c.p2, .int .i64 c.cy, .int .i64 c.ex, .int .i64 c.fi, .int .i64 c.la, .int .i64 c.po] 24)
  go_enter Tryz.func32, Tryz.ntmps32
  go_upto_region 1 with fail
  generalize w.alloc (.cells #[.string c.nm, .int .i64 c.k, .int .i64 c.d, .int .i64 c.m, .int .i64 c.s, .int .i64 c.sh, .int .i64 c.p0, .int .i64 c.p1, .int .i64 c.p2, .int .i64 c.cy, .int .i64 c.ex, .int .i64 c.fi, .int .i64 c.la, .int .i64 c.po] 24) = W0 at *
  obtain ⟨_, c0, c1, c2, c3, c4, c5, c6, c7, c8, c9, c10, c11, c12, c13⟩ := id C
  go_wp2_with fail
  refine (cN _).mono ?_
  rintro e w1 ⟨rfl, hb⟩
  replace C := C.kept hb
  replace B := bthen B hb
  clear hb c0 c1 c2 c3 c4 c5 c6 c7 c8 c9 c10 c11 c12 c13
  obtain ⟨_, c0, c1, c2, c3, c4, c5, c6, c7, c8, c9, c10, c11, c12, c13⟩ := id C
  go_upto_region 11 with fail
  have K := Box.new w1 #[.string ⟨#[]⟩, .int .i64 c.k, .int .i64 c.d, .int .i64 c.m, .int .i64 c.s, .int .i64 c.sh, .int .i64 c.p0, .int .i64 c.p1, .int .i64 c.p2, .int .i64 c.cy, .int .i64 c.ex, .int .i64 0, .int .i64 0, .int .i64 0] 24
  replace C := C.alloc (.cells #[.string ⟨#[]⟩, .int .i64 c.k, .int .i64 c.d, .int .i64 c.m, .int .i64 c.s, .int .i64 c.sh, .int .i64 c.p0, .int .i64 c.p1, .int .i64 c.p2, .int .i64 c.cy, .int .i64 c.ex, .int .i64 0, .int .i64 0, .int .i64 0] 24)
  replace B := balloc B (.cells #[.string ⟨#[]⟩, .int .i64 c.k, .int .i64 c.d, .int .i64 c.m, .int .i64 c.s, .int .i64 c.sh, .int .i64 c.p0, .int .i64 c.p1, .int .i64 c.p2, .int .i64 c.cy, .int .i64 c.ex, .int .i64 0, .int .i64 0, .int .i64 0] 24)
  generalize w1.alloc (.cells #[.string ⟨#[]⟩, .int .i64 c.k, .int .i64 c.d, .int .i64 c.m, .int .i64 c.s, .int .i64 c.sh, .int .i64 c.p0, .int .i64 c.p1, .int .i64 c.p2, .int .i64 c.cy, .int .i64 c.ex, .int .i64 0, .int .i64 0, .int .i64 0] 24) = W2 at *
  clear c0 c1 c2 c3 c4 c5 c6 c7 c8 c9 c10 c11 c12 c13
  obtain ⟨_, c0, c1, c2, c3, c4, c5, c6, c7, c8, c9, c10, c11, c12, c13⟩ := id C
  have b0 := K.cell 0 _ rfl
  have b1 := K.cell 1 _ rfl
  have b2 := K.cell 2 _ rfl
  have b3 := K.cell 3 _ rfl
  have b4 := K.cell 4 _ rfl
  have b5 := K.cell 5 _ rfl
  have b6 := K.cell 6 _ rfl
  have b7 := K.cell 7 _ rfl
  have b8 := K.cell 8 _ rfl
  have b9 := K.cell 9 _ rfl
  have b10 := K.cell 10 _ rfl
  have b11 := K.cell 11 _ rfl
  have b12 := K.cell 12 _ rfl
  have b13 := K.cell 13 _ rfl
  have q := fun w => cal_eql ⟨⟨#[]⟩, c.k, c.d, c.m, c.s, c.sh, c.p0, c.p1, c.p2, c.cy, c.ex, 0, 0, 0⟩ ⟨⟨#[]⟩, 3, 6, 1, 1, 1, 4, 5, 4, 0, 12, 0, 0, 0⟩ rfl w
  obtain ⟨v, hv⟩ : ∃ v, decide (CalSame ⟨⟨#[]⟩, c.k, c.d, c.m, c.s, c.sh, c.p0, c.p1, c.p2, c.cy, c.ex, 0, 0, 0⟩ ⟨⟨#[]⟩, 3, 6, 1, 1, 1, 4, 5, 4, 0, 12, 0, 0, 0⟩) = v := ⟨_, rfl⟩
  rw [hv] at q hr
  clear hv
  dsimp only at *
  cases v with
  | false =>
    simp at hr
    subst hr
    go_wp2
    go_ret
    exact ⟨rfl, B⟩
  | true =>
    simp at hr
    subst hr
    go_wp2
    go_ret
    exact ⟨rfl, B⟩

set_option maxRecDepth 100000 in
theorem rkind_k4 (c : CalZ) (er : Int) (w : World) (k1 : (c.k == 1) = false) (k2 : (c.k == 2) = false) (k5 : (c.k == 5) = false) (k3 : (c.k == 3) = false) (k4 : (c.k == 4) = true)
    (h1 : 1602 ≤ c.fi) (h2 : c.la ≤ 9996) (h3 : c.fi ≤ c.la) (h4 : decide (400 ≤ c.la - c.fi) = false) (g1 : 1 ≤ c.po) (g2 : c.po ≤ 4) (g3 : (c.po == 4) = false) (g4 : (c.k == 6) = false) (hr : er = if decide (CalSame ⟨⟨#[]⟩, c.k, c.d, c.m, c.s, c.sh, c.p0, c.p1, c.p2, c.cy, c.ex, 0, 0, 0⟩ ⟨⟨#[]⟩, 4, 7, 12, 0, 4, 0, 0, 0, 0, 12, 0, 0, 0⟩) = true then 0 else 1)
    (cN : ∀ w, Calls Tryz.prog 64 #[.string c.nm] w fun e w' => e = .returned (.bool true) ∧ Below w.heap.size w w') :
    Calls Tryz.prog 32 #[.agg #[.string c.nm, .int .i64 c.k, .int .i64 c.d, .int .i64 c.m, .int .i64 c.s, .int .i64 c.sh, .int .i64 c.p0, .int .i64 c.p1, .int .i64 c.p2, .int .i64 c.cy, .int .i64 c.ex, .int .i64 c.fi, .int .i64 c.la, .int .i64 c.po]] w fun e w' => e = .returned (.int .i64 er) ∧ Below w.heap.size w w' := by
  have C := CalIn.new w c 24
  have B := balloc (Below.refl _ w) (.cells #[.string c.nm, .int .i64 c.k, .int .i64 c.d, .int .i64 c.m, .int .i64 c.s, .int .i64 c.sh, .int .i64 c.p0, .int .i64 c.p1, .int .i64 c.p2, .int .i64 c.cy, .int .i64 c.ex, .int .i64 c.fi, .int .i64 c.la, .int .i64 c.po] 24)
  go_enter Tryz.func32, Tryz.ntmps32
  go_upto_region 1 with fail
  generalize w.alloc (.cells #[.string c.nm, .int .i64 c.k, .int .i64 c.d, .int .i64 c.m, .int .i64 c.s, .int .i64 c.sh, .int .i64 c.p0, .int .i64 c.p1, .int .i64 c.p2, .int .i64 c.cy, .int .i64 c.ex, .int .i64 c.fi, .int .i64 c.la, .int .i64 c.po] 24) = W0 at *
  obtain ⟨_, c0, c1, c2, c3, c4, c5, c6, c7, c8, c9, c10, c11, c12, c13⟩ := id C
  go_wp2_with fail
  refine (cN _).mono ?_
  rintro e w1 ⟨rfl, hb⟩
  replace C := C.kept hb
  replace B := bthen B hb
  clear hb c0 c1 c2 c3 c4 c5 c6 c7 c8 c9 c10 c11 c12 c13
  obtain ⟨_, c0, c1, c2, c3, c4, c5, c6, c7, c8, c9, c10, c11, c12, c13⟩ := id C
  go_upto_region 11 with fail
  have K := Box.new w1 #[.string ⟨#[]⟩, .int .i64 c.k, .int .i64 c.d, .int .i64 c.m, .int .i64 c.s, .int .i64 c.sh, .int .i64 c.p0, .int .i64 c.p1, .int .i64 c.p2, .int .i64 c.cy, .int .i64 c.ex, .int .i64 0, .int .i64 0, .int .i64 0] 24
  replace C := C.alloc (.cells #[.string ⟨#[]⟩, .int .i64 c.k, .int .i64 c.d, .int .i64 c.m, .int .i64 c.s, .int .i64 c.sh, .int .i64 c.p0, .int .i64 c.p1, .int .i64 c.p2, .int .i64 c.cy, .int .i64 c.ex, .int .i64 0, .int .i64 0, .int .i64 0] 24)
  replace B := balloc B (.cells #[.string ⟨#[]⟩, .int .i64 c.k, .int .i64 c.d, .int .i64 c.m, .int .i64 c.s, .int .i64 c.sh, .int .i64 c.p0, .int .i64 c.p1, .int .i64 c.p2, .int .i64 c.cy, .int .i64 c.ex, .int .i64 0, .int .i64 0, .int .i64 0] 24)
  generalize w1.alloc (.cells #[.string ⟨#[]⟩, .int .i64 c.k, .int .i64 c.d, .int .i64 c.m, .int .i64 c.s, .int .i64 c.sh, .int .i64 c.p0, .int .i64 c.p1, .int .i64 c.p2, .int .i64 c.cy, .int .i64 c.ex, .int .i64 0, .int .i64 0, .int .i64 0] 24) = W2 at *
  clear c0 c1 c2 c3 c4 c5 c6 c7 c8 c9 c10 c11 c12 c13
  obtain ⟨_, c0, c1, c2, c3, c4, c5, c6, c7, c8, c9, c10, c11, c12, c13⟩ := id C
  have b0 := K.cell 0 _ rfl
  have b1 := K.cell 1 _ rfl
  have b2 := K.cell 2 _ rfl
  have b3 := K.cell 3 _ rfl
  have b4 := K.cell 4 _ rfl
  have b5 := K.cell 5 _ rfl
  have b6 := K.cell 6 _ rfl
  have b7 := K.cell 7 _ rfl
  have b8 := K.cell 8 _ rfl
  have b9 := K.cell 9 _ rfl
  have b10 := K.cell 10 _ rfl
  have b11 := K.cell 11 _ rfl
  have b12 := K.cell 12 _ rfl
  have b13 := K.cell 13 _ rfl
  have q := fun w => cal_eql ⟨⟨#[]⟩, c.k, c.d, c.m, c.s, c.sh, c.p0, c.p1, c.p2, c.cy, c.ex, 0, 0, 0⟩ ⟨⟨#[]⟩, 4, 7, 12, 0, 4, 0, 0, 0, 0, 12, 0, 0, 0⟩ rfl w
  obtain ⟨v, hv⟩ : ∃ v, decide (CalSame ⟨⟨#[]⟩, c.k, c.d, c.m, c.s, c.sh, c.p0, c.p1, c.p2, c.cy, c.ex, 0, 0, 0⟩ ⟨⟨#[]⟩, 4, 7, 12, 0, 4, 0, 0, 0, 0, 12, 0, 0, 0⟩) = v := ⟨_, rfl⟩
  rw [hv] at q hr
  clear hv
  dsimp only at *
  cases v with
  | false =>
    simp at hr
    subst hr
    go_wp2
    go_ret
    exact ⟨rfl, B⟩
  | true =>
    simp at hr
    subst hr
    go_wp2
    go_ret
    exact ⟨rfl, B⟩

set_option maxRecDepth 100000 in
theorem rkind_k6 (c : CalZ) (er : Int) (w : World) (k1 : (c.k == 1) = false) (k2 : (c.k == 2) = false) (k5 : (c.k == 5) = false) (k3 : (c.k == 3) = false) (k4 : (c.k == 4) = false) (k6 : (c.k == 6) = true)
    (h1 : 1602 ≤ c.fi) (h2 : c.la ≤ 9996) (h3 : c.fi ≤ c.la) (h4 : decide (400 ≤ c.la - c.fi) = false) (g1 : 1 ≤ c.po) (g2 : c.po ≤ 4) (g3 : (c.po == 4) = true) (hr : er = if (decide (1 ≤ c.m) && (decide (c.m ≤ 12) && (((c.s == 0) || (c.s == 1)) && decide (CalSame ⟨⟨#[]⟩, c.k, c.d, c.m, c.s, c.sh, c.p0, c.p1, c.p2, c.cy, c.ex, 0, 0, 0⟩ ⟨⟨#[]⟩, 6, 0, c.m, c.s, 5, 0, 0, 0, 0, 0, 0, 0, 0⟩)))) = true then 0 else 1)
    (cN : ∀ w, Calls Tryz.prog 64 #[.string c.nm] w fun e w' => e = .returned (.bool true) ∧ Below w.heap.size w w') :
    Calls Tryz.prog 32 #[.agg #[.string c.nm, .int .i64 c.k, .int .i64 c.d, .int .i64 c.m, .int .i64 c.s, .int .i64 c.sh, .int .i64 c.p0, .int .i64 c.p1, .int .i64 c.p2, .int .i64 c.cy, .int .i64 c.ex, .int .i64 c.fi, .int .i64 c.la, .int .i64 c.po]] w fun e w' => e = .returned (.int .i64 er) ∧ Below w.heap.size w w' := by
  have C := CalIn.new w c 24
  have B := balloc (Below.refl _ w) (.cells #[.string c.nm, .int .i64 c.k, .int .i64 c.d, .int .i64 c.m, .int .i64 c.s, .int .i64 c.sh, .int .i64 c.p0, .int .i64 c.p1, .int .i64 c.p2, .int .i64 c.cy, .int .i64 c.ex, .int .i64 c.fi, .int .i64 c.la, .int .i64 c.po] 24)
  go_enter Tryz.func32, Tryz.ntmps32
  go_upto_region 1 with fail
  generalize w.alloc (.cells #[.string c.nm, .int .i64 c.k, .int .i64 c.d, .int .i64 c.m, .int .i64 c.s, .int .i64 c.sh, .int .i64 c.p0, .int .i64 c.p1, .int .i64 c.p2, .int .i64 c.cy, .int .i64 c.ex, .int .i64 c.fi, .int .i64 c.la, .int .i64 c.po] 24) = W0 at *
  obtain ⟨_, c0, c1, c2, c3, c4, c5, c6, c7, c8, c9, c10, c11, c12, c13⟩ := id C
  go_wp2_with fail
  refine (cN _).mono ?_
  rintro e w1 ⟨rfl, hb⟩
  replace C := C.kept hb
  replace B := bthen B hb
  clear hb c0 c1 c2 c3 c4 c5 c6 c7 c8 c9 c10 c11 c12 c13
  obtain ⟨_, c0, c1, c2, c3, c4, c5, c6, c7, c8, c9, c10, c11, c12, c13⟩ := id C
  go_upto_region 11 with fail
  have K := Box.new w1 #[.string ⟨#[]⟩, .int .i64 c.k, .int .i64 c.d, .int .i64 c.m, .int .i64 c.s, .int .i64 c.sh, .int .i64 c.p0, .int .i64 c.p1, .int .i64 c.p2, .int .i64 c.cy, .int .i64 c.ex, .int .i64 0, .int .i64 0, .int .i64 0] 24
  replace C := C.alloc (.cells #[.string ⟨#[]⟩, .int .i64 c.k, .int .i64 c.d, .int .i64 c.m, .int .i64 c.s, .int .i64 c.sh, .int .i64 c.p0, .int .i64 c.p1, .int .i64 c.p2, .int .i64 c.cy, .int .i64 c.ex, .int .i64 0, .int .i64 0, .int .i64 0] 24)
  replace B := balloc B (.cells #[.string ⟨#[]⟩, .int .i64 c.k, .int .i64 c.d, .int .i64 c.m, .int .i64 c.s, .int .i64 c.sh, .int .i64 c.p0, .int .i64 c.p1, .int .i64 c.p2, .int .i64 c.cy, .int .i64 c.ex, .int .i64 0, .int .i64 0, .int .i64 0] 24)
  generalize w1.alloc (.cells #[.string ⟨#[]⟩, .int .i64 c.k, .int .i64 c.d, .int .i64 c.m, .int .i64 c.s, .int .i64 c.sh, .int .i64 c.p0, .int .i64 c.p1, .int .i64 c.p2, .int .i64 c.cy, .int .i64 c.ex, .int .i64 0, .int .i64 0, .int .i64 0] 24) = W2 at *
  clear c0 c1 c2 c3 c4 c5 c6 c7 c8 c9 c10 c11 c12 c13
  obtain ⟨_, c0, c1, c2, c3, c4, c5, c6, c7, c8, c9, c10, c11, c12, c13⟩ := id C
  have b0 := K.cell 0 _ rfl
  have b1 := K.cell 1 _ rfl
  have b2 := K.cell 2 _ rfl
  have b3 := K.cell 3 _ rfl
  have b4 := K.cell 4 _ rfl
  have b5 := K.cell 5 _ rfl
  have b6 := K.cell 6 _ rfl
  have b7 := K.cell 7 _ rfl
  have b8 := K.cell 8 _ rfl
  have b9 := K.cell 9 _ rfl
  have b10 := K.cell 10 _ rfl
  have b11 := K.cell 11 _ rfl
  have b12 := K.cell 12 _ rfl
  have b13 := K.cell 13 _ rfl
  have q := fun w => cal_eql ⟨⟨#[]⟩, c.k, c.d, c.m, c.s, c.sh, c.p0, c.p1, c.p2, c.cy, c.ex, 0, 0, 0⟩ ⟨⟨#[]⟩, 6, 0, c.m, c.s, 5, 0, 0, 0, 0, 0, 0, 0, 0⟩ rfl w
  obtain ⟨v, hv⟩ : ∃ v, decide (CalSame ⟨⟨#[]⟩, c.k, c.d, c.m, c.s, c.sh, c.p0, c.p1, c.p2, c.cy, c.ex, 0, 0, 0⟩ ⟨⟨#[]⟩, 6, 0, c.m, c.s, 5, 0, 0, 0, 0, 0, 0, 0, 0⟩) = v := ⟨_, rfl⟩
  rw [hv] at q hr
  clear hv
  dsimp only at *
  cases m0 : decide (1 ≤ c.m)
  case false =>
    rw [m0] at hr
    simp at hr
    subst hr
    go_wp2
    go_ret
    exact ⟨rfl, B⟩
  rw [m0] at hr
  cases m1 : decide (c.m ≤ 12)
  case false =>
    rw [m1] at hr
    simp at hr
    subst hr
    go_wp2
    go_ret
    exact ⟨rfl, B⟩
  rw [m1] at hr
  cases s0 : (c.s == 0)
  case true =>
    rw [s0] at hr
    cases v with
    | false =>
      simp at hr
      subst hr
      go_wp2
      go_ret
      exact ⟨rfl, B⟩
    | true =>
      simp at hr
      subst hr
      go_wp2
      go_ret
      exact ⟨rfl, B⟩
  cases s1 : (c.s == 1)
  case true =>
    rw [s0, s1] at hr
    cases v with
    | false =>
      simp at hr
      subst hr
      go_wp2
      go_ret
      exact ⟨rfl, B⟩
    | true =>
      simp at hr
      subst hr
      go_wp2
      go_ret
      exact ⟨rfl, B⟩
  rw [s0, s1] at hr
  simp at hr
  subst hr
  go_wp2
  go_ret
  exact ⟨rfl, B⟩

set_option maxRecDepth 100000 in
theorem rkind_no (c : CalZ) (er : Int) (w : World) (k1 : (c.k == 1) = false) (k2 : (c.k == 2) = false) (k5 : (c.k == 5) = false) (k3 : (c.k == 3) = false) (k4 : (c.k == 4) = false) (k6 : (c.k == 6) = false)
    (h1 : 1602 ≤ c.fi) (h2 : c.la ≤ 9996) (h3 : c.fi ≤ c.la) (h4 : decide (400 ≤ c.la - c.fi) = false) (g1 : 1 ≤ c.po) (g2 : c.po ≤ 4) (g3 : (c.po == 4) = false) (hr : er = 1)
    (cN : ∀ w, Calls Tryz.prog 64 #[.string c.nm] w fun e w' => e = .returned (.bool true) ∧ Below w.heap.size w w') :
    Calls Tryz.prog 32 #[.agg #[.string c.nm, .int .i64 c.k, .int .i64 c.d, .int .i64 c.m, .int .i64 c.s, .int .i64 c.sh, .int .i64 c.p0, .int .i64 c.p1, .int .i64 c.p2, .int .i64 c.cy, .int .i64 c.ex, .int .i64 c.fi, .int .i64 c.la, .int .i64 c.po]] w fun e w' => e = .returned (.int .i64 er) ∧ Below w.heap.size w w' := by
  have C := CalIn.new w c 24
  have B := balloc (Below.refl _ w) (.cells #[.string c.nm, .int .i64 c.k, .int .i64 c.d, .int .i64 c.m, .int .i64 c.s, .int .i64 c.sh, .int .i64 c.p0, .int .i64 c.p1, .int .i64 c.p2, .int .i64 c.cy, .int .i64 c.ex, .int .i64 c.fi, .int .i64 c.la, .int .i64 c.po] 24)
  go_enter Tryz.func32, Tryz.ntmps32
  go_upto_region 1 with fail
  generalize w.alloc (.cells #[.string c.nm, .int .i64 c.k, .int .i64 c.d, .int .i64 c.m, .int .i64 c.s, .int .i64 c.sh, .int .i64 c.p0, .int .i64 c.p1, .int .i64 c.p2, .int .i64 c.cy, .int .i64 c.ex, .int .i64 c.fi, .int .i64 c.la, .int .i64 c.po] 24) = W0 at *
  obtain ⟨_, c0, c1, c2, c3, c4, c5, c6, c7, c8, c9, c10, c11, c12, c13⟩ := id C
  go_wp2_with fail
  refine (cN _).mono ?_
  rintro e w1 ⟨rfl, hb⟩
  replace C := C.kept hb
  replace B := bthen B hb
  clear hb c0 c1 c2 c3 c4 c5 c6 c7 c8 c9 c10 c11 c12 c13
  obtain ⟨_, c0, c1, c2, c3, c4, c5, c6, c7, c8, c9, c10, c11, c12, c13⟩ := id C
  go_upto_region 11 with fail
  have K := Box.new w1 #[.string ⟨#[]⟩, .int .i64 c.k, .int .i64 c.d, .int .i64 c.m, .int .i64 c.s, .int .i64 c.sh, .int .i64 c.p0, .int .i64 c.p1, .int .i64 c.p2, .int .i64 c.cy, .int .i64 c.ex, .int .i64 0, .int .i64 0, .int .i64 0] 24
  replace C := C.alloc (.cells #[.string ⟨#[]⟩, .int .i64 c.k, .int .i64 c.d, .int .i64 c.m, .int .i64 c.s, .int .i64 c.sh, .int .i64 c.p0, .int .i64 c.p1, .int .i64 c.p2, .int .i64 c.cy, .int .i64 c.ex, .int .i64 0, .int .i64 0, .int .i64 0] 24)
  replace B := balloc B (.cells #[.string ⟨#[]⟩, .int .i64 c.k, .int .i64 c.d, .int .i64 c.m, .int .i64 c.s, .int .i64 c.sh, .int .i64 c.p0, .int .i64 c.p1, .int .i64 c.p2, .int .i64 c.cy, .int .i64 c.ex, .int .i64 0, .int .i64 0, .int .i64 0] 24)
  generalize w1.alloc (.cells #[.string ⟨#[]⟩, .int .i64 c.k, .int .i64 c.d, .int .i64 c.m, .int .i64 c.s, .int .i64 c.sh, .int .i64 c.p0, .int .i64 c.p1, .int .i64 c.p2, .int .i64 c.cy, .int .i64 c.ex, .int .i64 0, .int .i64 0, .int .i64 0] 24) = W2 at *
  clear c0 c1 c2 c3 c4 c5 c6 c7 c8 c9 c10 c11 c12 c13
  obtain ⟨_, c0, c1, c2, c3, c4, c5, c6, c7, c8, c9, c10, c11, c12, c13⟩ := id C
  subst hr
  go_wp2
  go_ret
  exact ⟨rfl, B⟩

end Go.Proofs.YtjiifmdjhdhabaaGreatDoor.Fr
