/- What Periods of the reference of layer 11, and Quarter of that of layer 15, come to; ShapeQuarters' walk. -/
import Derived.Test.YtjiifmdjhdhabaaDoorHlive
import Derived.Test.YtjiifmdjhdhabaaDoorFrcheck
namespace Go.Proofs.YtjiifmdjhdhabaaDoor.Hl
set_option linter.unusedSimpArgs false
set_option linter.unusedVariables false
open Go.Proofs.YtjiifmdjhdhabaaDoor.Hp Go.RowKit Go.Proofs.YtjiifmdjhdhabaaDoor.Bn Go.Proofs.YtjiifmdjhdhabaaDoor.Bx Go.Proofs.YtjiifmdjhdhabaaDoor.Cp Go.Proofs.YtjiifmdjhdhabaaDoor.Am Go.Proofs.YtjiifmdjhdhabaaDoor.Fp Go.Proofs.YtjiifmdjhdhabaaDoor.Ap Go.Proofs.YtjiifmdjhdhabaaDoor.Cm Go.Proofs.YtjiifmdjhdhabaaDoor.Em Go.Proofs.YtjiifmdjhdhabaaDoor.Ep Go.Proofs.YtjiifmdjhdhabaaDoor.Rk

set_option maxHeartbeats 2000000

set_option maxRecDepth 100000 in
theorem rPeriods_any (c : CalZ) (v er : Int) (w : World) (R : PersA c v er) (hm : c.nm.size ≤ maxLen) (T : FTab w) :
    Calls Tryd.prog 22 #[.agg #[.string c.nm, .int .i64 c.k, .int .i64 c.d, .int .i64 c.m, .int .i64 c.s, .int .i64 c.sh, .int .i64 c.p0, .int .i64 c.p1, .int .i64 c.p2, .int .i64 c.cy, .int .i64 c.ex, .int .i64 c.fi, .int .i64 c.la, .int .i64 c.po]] w fun e w' => e = .returned (.tuple #[.int .i64 v, .int .i64 er]) ∧ Below w.heap.size w w' := by
  have C := CalIn.new w c 24
  have B := balloc (Below.refl _ w) (.cells #[.string c.nm, .int .i64 c.k, .int .i64 c.d, .int .i64 c.m, .int .i64 c.s, .int .i64 c.sh, .int .i64 c.p0, .int .i64 c.p1, .int .i64 c.p2, .int .i64 c.cy, .int .i64 c.ex, .int .i64 c.fi, .int .i64 c.la, .int .i64 c.po] 24)
  replace T := T.alloc (.cells #[.string c.nm, .int .i64 c.k, .int .i64 c.d, .int .i64 c.m, .int .i64 c.s, .int .i64 c.sh, .int .i64 c.p0, .int .i64 c.p1, .int .i64 c.p2, .int .i64 c.cy, .int .i64 c.ex, .int .i64 c.fi, .int .i64 c.la, .int .i64 c.po] 24)
  rcases R with ⟨ok, hv, rfl⟩ | ⟨no, rfl, rfl⟩
  · have ck := fun w => Go.Proofs.YtjiifmdjhdhabaaDoor.Fr.rCheck_any c 0 w (.inl ⟨ok, rfl⟩) hm
    have cp := fun w => Go.Proofs.YtjiifmdjhdhabaaDoor.Fr.many_any c v w (by rw [Go.Proofs.YtjiifmdjhdhabaaDoor.Fr.many_per ok.1]; exact hv)
    clear ok hv
    go_enter Tryd.func22, Tryd.ntmps22
    go_upto_region 1 with fail
    generalize w.alloc (.cells #[.string c.nm, .int .i64 c.k, .int .i64 c.d, .int .i64 c.m, .int .i64 c.s, .int .i64 c.sh, .int .i64 c.p0, .int .i64 c.p1, .int .i64 c.p2, .int .i64 c.cy, .int .i64 c.ex, .int .i64 c.fi, .int .i64 c.la, .int .i64 c.po] 24) = W0 at *
    obtain ⟨_, c0, c1, c2, c3, c4, c5, c6, c7, c8, c9, c10, c11, c12, c13⟩ := id C
    go_wp2_with fail
    refine (ck _).mono ?_
    rintro e w1 ⟨rfl, hb⟩
    replace C := C.kept hb
    replace B := bthen B hb
    replace T := T.kept hb
    clear hb c0 c1 c2 c3 c4 c5 c6 c7 c8 c9 c10 c11 c12 c13
    obtain ⟨_, c0, c1, c2, c3, c4, c5, c6, c7, c8, c9, c10, c11, c12, c13⟩ := id C
    go_wp2_with fail
    refine (cp _).mono ?_
    rintro e w2 ⟨rfl, hb⟩
    replace C := C.kept hb
    replace B := bthen B hb
    replace T := T.kept hb
    clear hb c0 c1 c2 c3 c4 c5 c6 c7 c8 c9 c10 c11 c12 c13
    obtain ⟨_, c0, c1, c2, c3, c4, c5, c6, c7, c8, c9, c10, c11, c12, c13⟩ := id C
    go_wp2
    go_ret2
    exact ⟨rfl, B⟩
  · have ck := fun w => Go.Proofs.YtjiifmdjhdhabaaDoor.Fr.rCheck_any c 1 w (.inr ⟨no, rfl⟩) hm
    clear no
    go_enter Tryd.func22, Tryd.ntmps22
    go_upto_region 1 with fail
    generalize w.alloc (.cells #[.string c.nm, .int .i64 c.k, .int .i64 c.d, .int .i64 c.m, .int .i64 c.s, .int .i64 c.sh, .int .i64 c.p0, .int .i64 c.p1, .int .i64 c.p2, .int .i64 c.cy, .int .i64 c.ex, .int .i64 c.fi, .int .i64 c.la, .int .i64 c.po] 24) = W0 at *
    obtain ⟨_, c0, c1, c2, c3, c4, c5, c6, c7, c8, c9, c10, c11, c12, c13⟩ := id C
    go_wp2_with fail
    refine (ck _).mono ?_
    rintro e w3 ⟨rfl, hb⟩
    replace C := C.kept hb
    replace B := bthen B hb
    replace T := T.kept hb
    clear hb c0 c1 c2 c3 c4 c5 c6 c7 c8 c9 c10 c11 c12 c13
    obtain ⟨_, c0, c1, c2, c3, c4, c5, c6, c7, c8, c9, c10, c11, c12, c13⟩ := id C
    go_wp2
    go_ret2
    exact ⟨rfl, B⟩

end Go.Proofs.YtjiifmdjhdhabaaDoor.Hl
