/- What Added of package shape comes to. -/
import Derived.Test.YtjiifmdjhdhabaaGreatDoorHcode5
namespace Go.Proofs.YtjiifmdjhdhabaaGreatDoor.Hp
set_option linter.unusedSimpArgs false
set_option linter.unusedVariables false
open Go.RowKit Go.Proofs.YtjiifmdjhdhabaaGreatDoor.Bn Go.Proofs.YtjiifmdjhdhabaaGreatDoor.Bx Go.Proofs.YtjiifmdjhdhabaaGreatDoor.Cp Go.Proofs.YtjiifmdjhdhabaaGreatDoor.Am Go.Proofs.YtjiifmdjhdhabaaGreatDoor.Fp Go.Proofs.YtjiifmdjhdhabaaGreatDoor.Ap Go.Proofs.YtjiifmdjhdhabaaGreatDoor.Cm Go.Proofs.YtjiifmdjhdhabaaGreatDoor.Em Go.Proofs.YtjiifmdjhdhabaaGreatDoor.Ep Go.Proofs.YtjiifmdjhdhabaaGreatDoor.Rk

set_option maxHeartbeats 2000000

set_option maxRecDepth 100000 in
theorem Added_any (c : CalZ) (y v er : Int) (w : World) (R : AddedA c y v er) (hm : c.nm.size ≤ maxLen) (T : FTab w) :
    Calls Tryz.prog 93 #[.agg #[.string c.nm, .int .i64 c.k, .int .i64 c.d, .int .i64 c.m, .int .i64 c.s, .int .i64 c.sh, .int .i64 c.p0, .int .i64 c.p1, .int .i64 c.p2, .int .i64 c.cy, .int .i64 c.ex, .int .i64 c.fi, .int .i64 c.la, .int .i64 c.po], .int .i64 y] w fun e w' => e = .returned (.tuple #[.int .i64 v, .int .i64 er]) ∧ Below w.heap.size w w' := by
  have C := CalIn.new w c 24
  have B := balloc (Below.refl _ w) (.cells #[.string c.nm, .int .i64 c.k, .int .i64 c.d, .int .i64 c.m, .int .i64 c.s, .int .i64 c.sh, .int .i64 c.p0, .int .i64 c.p1, .int .i64 c.p2, .int .i64 c.cy, .int .i64 c.ex, .int .i64 c.fi, .int .i64 c.la, .int .i64 c.po] 24)
  replace T := T.alloc (.cells #[.string c.nm, .int .i64 c.k, .int .i64 c.d, .int .i64 c.m, .int .i64 c.s, .int .i64 c.sh, .int .i64 c.p0, .int .i64 c.p1, .int .i64 c.p2, .int .i64 c.cy, .int .i64 c.ex, .int .i64 c.fi, .int .i64 c.la, .int .i64 c.po] 24)
  rcases R with ⟨ok, k6, y0, y1, ⟨n52, rfl⟩ | ⟨n53, hv⟩, rfl⟩ | ⟨ok, k6, hy, rfl, rfl⟩ | ⟨no, rfl, rfl⟩
  · have cw := fun w T => Weeks_any c y 52 0 w (.inl ⟨ok, k6, y0, y1, n52.symm, rfl⟩) hm T
    clear ok k6 n52
    go_enter Tryz.func93, Tryz.ntmps93
    go_upto_region 1 with fail
    generalize w.alloc (.cells #[.string c.nm, .int .i64 c.k, .int .i64 c.d, .int .i64 c.m, .int .i64 c.s, .int .i64 c.sh, .int .i64 c.p0, .int .i64 c.p1, .int .i64 c.p2, .int .i64 c.cy, .int .i64 c.ex, .int .i64 c.fi, .int .i64 c.la, .int .i64 c.po] 24) = W0 at *
    obtain ⟨_, c0, c1, c2, c3, c4, c5, c6, c7, c8, c9, c10, c11, c12, c13⟩ := id C
    go_wp2_with fail
    refine (cw _ T).mono ?_
    rintro e w1 ⟨rfl, hb⟩
    replace C := C.kept hb
    replace B := bthen B hb
    replace T := T.kept hb
    clear hb c0 c1 c2 c3 c4 c5 c6 c7 c8 c9 c10 c11 c12 c13
    obtain ⟨_, c0, c1, c2, c3, c4, c5, c6, c7, c8, c9, c10, c11, c12, c13⟩ := id C
    go_wp2
    go_ret2
    exact ⟨rfl, B⟩
  · have cw := fun w T => Weeks_any c y 53 0 w (.inl ⟨ok, k6, y0, y1, n53.symm, rfl⟩) hm T
    obtain ⟨a, ha⟩ : ∃ a, a = pend c y 0 + 1 := ⟨_, rfl⟩
    have pb := per_bd ok.1
    have bd := pend_bd ok.1 y0 y1 (p := 0) (by omega) (by omega)
    have cs := fun w T => Start_any c y a 0 w (.inl ⟨ok, y0, y1, by rw [ha, pend_zero], rfl⟩) hm T
    obtain ⟨n, hn⟩ : ∃ n : Nat, (n : Int) = per c := ⟨(per c).toNat, by omega⟩
    have ce := fun w T => endsFrom_any c y a n w ok y0 y1 ha hn hm T
    have ex := pb.2.2 k6
    obtain ⟨x, hx⟩ : ∃ x : Nat, (x : Int) = c.ex - 1 := ⟨(c.ex - 1).toNat, by omega⟩
    obtain ⟨u, hu⟩ : ∃ u, u = fend c y x := ⟨_, rfl⟩
    have bu := pend_bd ok.1 y0 y1 (p := c.ex) (by omega) ex.2
    have eu : u = pend c y c.ex := by rw [hu]; unfold fend; rw [hx, show c.ex - 1 + 1 = c.ex by omega]
    have mo := pend_mono ok.1 y0 y1 (a := 0) (b := c.ex) (by omega) (by omega) ex.2
    have ws := wsum_end ok.1 k6 y0 y1 c.ex.toNat (by omega)
    rw [show ((c.ex.toNat : Nat) : Int) = c.ex by omega] at ws
    rw [← eu] at bu mo ws hv
    have cc := fun w => count_any a u v w (by omega) (by omega) (by omega) bu.2
    have hw : IntKind.i64.wrap (c.ex - 1) = (x : Int) := by rw [IntWalk.i64_in _ (by omega)]; omega
    have xn : x < n := by omega
    have xn2 : (x : Int) < (n : Int) := by omega
    have x0 : (0 : Int) ≤ (x : Int) := by omega
    have hu' : some (Value.int .i64 (fend c y x)) = some (Value.int .i64 u) := by rw [hu]
    clear ok k6 n53 ha hn pb bd ex hx hu bu eu mo ws hv
    go_enter Tryz.func93, Tryz.ntmps93
    go_upto_region 1 with fail
    generalize w.alloc (.cells #[.string c.nm, .int .i64 c.k, .int .i64 c.d, .int .i64 c.m, .int .i64 c.s, .int .i64 c.sh, .int .i64 c.p0, .int .i64 c.p1, .int .i64 c.p2, .int .i64 c.cy, .int .i64 c.ex, .int .i64 c.fi, .int .i64 c.la, .int .i64 c.po] 24) = W0 at *
    obtain ⟨_, c0, c1, c2, c3, c4, c5, c6, c7, c8, c9, c10, c11, c12, c13⟩ := id C
    go_wp2_with fail
    refine (cw _ T).mono ?_
    rintro e w2 ⟨rfl, hb⟩
    replace C := C.kept hb
    replace B := bthen B hb
    replace T := T.kept hb
    clear hb c0 c1 c2 c3 c4 c5 c6 c7 c8 c9 c10 c11 c12 c13
    obtain ⟨_, c0, c1, c2, c3, c4, c5, c6, c7, c8, c9, c10, c11, c12, c13⟩ := id C
    go_wp2_with fail
    refine (cs _ T).mono ?_
    rintro e w3 ⟨rfl, hb⟩
    replace C := C.kept hb
    replace B := bthen B hb
    replace T := T.kept hb
    clear hb c0 c1 c2 c3 c4 c5 c6 c7 c8 c9 c10 c11 c12 c13
    obtain ⟨_, c0, c1, c2, c3, c4, c5, c6, c7, c8, c9, c10, c11, c12, c13⟩ := id C
    have CE : ∀ W, Below w3.heap.size w3 W → Calls Tryz.prog 99 #[.agg #[.string c.nm, .int .i64 c.k, .int .i64 c.d, .int .i64 c.m, .int .i64 c.s, .int .i64 c.sh, .int .i64 c.p0, .int .i64 c.p1, .int .i64 c.p2, .int .i64 c.cy, .int .i64 c.ex, .int .i64 c.fi, .int .i64 c.la, .int .i64 c.po], .int .i64 y, .int .i64 a] W (IntsOne W n (fend c y)) := fun W h => ce W (T.kept h)
    clear ce cs cw
    go_wp2
    go_region_with (first | (go_at_call 99; (refine (CE _ (by first | (with_reducible assumption) | (with_reducible exact Below.refl _ _) | (with_reducible exact (Below.refl _ _).drew))).mono ?_; rintro e w5 ⟨g, cap, rfl, R, hg, hb⟩; have hB := bthen (w := w3) (by first | (with_reducible assumption) | (with_reducible exact Below.refl _ _) | (with_reducible exact (Below.refl _ _).drew)) hb; have rc := (R.c x xn).trans hu'; have Ck := C.kept hB; obtain ⟨_, c0, c1, c2, c3, c4, c5, c6, c7, c8, c9, c10, c11, c12, c13⟩ := id Ck; clear hb R Ck)) | (go_at_call 100; (refine (cc _).mono ?_; rintro e w6 ⟨rfl, hb⟩; have hB2 := bthen (w := w3) (by first | (with_reducible assumption) | (with_reducible exact Below.refl _ _) | (with_reducible exact (Below.refl _ _).drew)) hb; clear hb)))
    all_goals go_wp2
    all_goals
      go_ret2
      exact ⟨rfl, bthen B hB2⟩
  · have cw := fun w T => Weeks_any c y 0 11 w (.inr (.inl ⟨ok, k6, hy, rfl, rfl⟩)) hm T
    clear ok k6 hy
    go_enter Tryz.func93, Tryz.ntmps93
    go_upto_region 1 with fail
    generalize w.alloc (.cells #[.string c.nm, .int .i64 c.k, .int .i64 c.d, .int .i64 c.m, .int .i64 c.s, .int .i64 c.sh, .int .i64 c.p0, .int .i64 c.p1, .int .i64 c.p2, .int .i64 c.cy, .int .i64 c.ex, .int .i64 c.fi, .int .i64 c.la, .int .i64 c.po] 24) = W0 at *
    obtain ⟨_, c0, c1, c2, c3, c4, c5, c6, c7, c8, c9, c10, c11, c12, c13⟩ := id C
    go_wp2_with fail
    refine (cw _ T).mono ?_
    rintro e w4 ⟨rfl, hb⟩
    replace C := C.kept hb
    replace B := bthen B hb
    replace T := T.kept hb
    clear hb c0 c1 c2 c3 c4 c5 c6 c7 c8 c9 c10 c11 c12 c13
    obtain ⟨_, c0, c1, c2, c3, c4, c5, c6, c7, c8, c9, c10, c11, c12, c13⟩ := id C
    go_wp2
    go_ret2
    exact ⟨rfl, B⟩
  · have cw := fun w T => Weeks_any c y 0 1 w (.inr (.inr ⟨no, rfl, rfl⟩)) hm T
    clear no
    go_enter Tryz.func93, Tryz.ntmps93
    go_upto_region 1 with fail
    generalize w.alloc (.cells #[.string c.nm, .int .i64 c.k, .int .i64 c.d, .int .i64 c.m, .int .i64 c.s, .int .i64 c.sh, .int .i64 c.p0, .int .i64 c.p1, .int .i64 c.p2, .int .i64 c.cy, .int .i64 c.ex, .int .i64 c.fi, .int .i64 c.la, .int .i64 c.po] 24) = W0 at *
    obtain ⟨_, c0, c1, c2, c3, c4, c5, c6, c7, c8, c9, c10, c11, c12, c13⟩ := id C
    go_wp2_with fail
    refine (cw _ T).mono ?_
    rintro e w5 ⟨rfl, hb⟩
    replace C := C.kept hb
    replace B := bthen B hb
    replace T := T.kept hb
    clear hb c0 c1 c2 c3 c4 c5 c6 c7 c8 c9 c10 c11 c12 c13
    obtain ⟨_, c0, c1, c2, c3, c4, c5, c6, c7, c8, c9, c10, c11, c12, c13⟩ := id C
    go_wp2
    go_ret2
    exact ⟨rfl, B⟩

end Go.Proofs.YtjiifmdjhdhabaaGreatDoor.Hp
