/- What Nth, Bounds and Served of package year come to. -/
import Derived.Test.YtmagdlcikcgelaaDoorJcode
namespace Go.Proofs.YtmagdlcikcgelaaDoor.Jp
set_option linter.unusedSimpArgs false
set_option linter.unusedVariables false
open Go.RowKit Go.Proofs.YtmagdlcikcgelaaDoor.Bn Go.Proofs.YtmagdlcikcgelaaDoor.Bx Go.Proofs.YtmagdlcikcgelaaDoor.Cp Go.Proofs.YtmagdlcikcgelaaDoor.Am Go.Proofs.YtmagdlcikcgelaaDoor.Fp Go.Proofs.YtmagdlcikcgelaaDoor.Ap Go.Proofs.YtmagdlcikcgelaaDoor.Cm Go.Proofs.YtmagdlcikcgelaaDoor.Em Go.Proofs.YtmagdlcikcgelaaDoor.Ep

set_option maxHeartbeats 1000000

theorem ofa_cases {c : CalZ} {n y er : Int} (R : OfA c n y er) : (er = 0 ∧ CalOk c ∧ 1601 ≤ y ∧ y ≤ 9997 ∧ 0 ≤ n ∧ n ≤ 3068036) ∨ (y = 0 ∧ er = 11) ∨ (y = 0 ∧ er = 4) ∨ (y = 0 ∧ er = 1) := by
  rcases R with ⟨ok, n0, n1, y0, y1, _, _, h⟩ | ⟨_, _, _, _, h2, h3⟩ | ⟨_, _, h2, h3⟩ | ⟨_, h2, h3⟩
  · exact .inl ⟨h, ok, y0, y1, n0, n1⟩
  · exact .inr (.inl ⟨h2, h3⟩)
  · exact .inr (.inr (.inl ⟨h2, h3⟩))
  · exact .inr (.inr (.inr ⟨h2, h3⟩))

theorem Served_any (c : CalZ) (n v er : Int) (w : World) (R : ServedA c n v er) (hm : c.nm.size ≤ maxLen) (T : FTab w) :
    Calls Tryd.prog 20 #[.agg #[.string c.nm, .int .i64 c.k, .int .i64 c.d, .int .i64 c.m, .int .i64 c.s, .int .i64 c.sh, .int .i64 c.p0, .int .i64 c.p1, .int .i64 c.p2, .int .i64 c.cy, .int .i64 c.ex, .int .i64 c.fi, .int .i64 c.la, .int .i64 c.po], .int .i64 n] w fun e w' => e = .returned (.tuple #[.int .i64 v, .int .i64 er]) ∧ Below w.heap.size w w' := by
  obtain ⟨y, e0, R, O⟩ := R
  have co := fun w T => Of_any c n y e0 w R hm T
  have C := CalIn.new w c 24
  have B := balloc (Below.refl _ w) (.cells #[.string c.nm, .int .i64 c.k, .int .i64 c.d, .int .i64 c.m, .int .i64 c.s, .int .i64 c.sh, .int .i64 c.p0, .int .i64 c.p1, .int .i64 c.p2, .int .i64 c.cy, .int .i64 c.ex, .int .i64 c.fi, .int .i64 c.la, .int .i64 c.po] 24)
  have T0 := T.alloc (.cells #[.string c.nm, .int .i64 c.k, .int .i64 c.d, .int .i64 c.m, .int .i64 c.s, .int .i64 c.sh, .int .i64 c.p0, .int .i64 c.p1, .int .i64 c.p2, .int .i64 c.cy, .int .i64 c.ex, .int .i64 c.fi, .int .i64 c.la, .int .i64 c.po] 24)
  have O2 : (e0 = 0 ∧ c.fi ≤ y ∧ y ≤ c.la ∧ v = y ∧ er = 0) ∨ (e0 = 0 ∧ y < c.fi ∧ v = 0 ∧ er = 11) ∨ (e0 = 0 ∧ c.fi ≤ y ∧ c.la < y ∧ v = 0 ∧ er = 11) ∨ (y = 0 ∧ v = 0 ∧ er = 11 ∧ e0 = 11) ∨ (y = 0 ∧ v = 0 ∧ er = 4 ∧ e0 = 4) ∨ (y = 0 ∧ v = 0 ∧ er = 1 ∧ e0 = 1) := by
    have q := ofa_cases R
    rcases O with ⟨h1, h2, h3⟩ | ⟨h1, h2, h3, h4, h5⟩ | ⟨h1, h2, h3, h4⟩
    · rcases q with ⟨h, _⟩ | ⟨h, h'⟩ | ⟨h, h'⟩ | ⟨h, h'⟩
      · exact absurd h h1
      · exact .inr (.inr (.inr (.inl ⟨h, h2, by omega, h'⟩)))
      · exact .inr (.inr (.inr (.inr (.inl ⟨h, h2, by omega, h'⟩))))
      · exact .inr (.inr (.inr (.inr (.inr ⟨h, h2, by omega, h'⟩))))
    · exact .inl ⟨h1, h2, h3, h4, h5⟩
    · by_cases k : c.fi ≤ y
      · exact .inr (.inr (.inl ⟨h1, k, by omega, h3, h4⟩))
      · exact .inr (.inl ⟨h1, by omega, h3, h4⟩)
  clear O R
  rcases O2 with ⟨rfl, h1, h2, rfl, rfl⟩ | ⟨rfl, h1, rfl, rfl⟩ | ⟨rfl, h1, h2, rfl, rfl⟩ | ⟨rfl, rfl, rfl, rfl⟩ | ⟨rfl, rfl, rfl, rfl⟩ | ⟨rfl, rfl, rfl, rfl⟩
  all_goals
    go_enter Tryd.func20, Tryd.ntmps20
    go_upto_region 1 with fail
    generalize w.alloc (.cells #[.string c.nm, .int .i64 c.k, .int .i64 c.d, .int .i64 c.m, .int .i64 c.s, .int .i64 c.sh, .int .i64 c.p0, .int .i64 c.p1, .int .i64 c.p2, .int .i64 c.cy, .int .i64 c.ex, .int .i64 c.fi, .int .i64 c.la, .int .i64 c.po] 24) = W0 at *
    obtain ⟨_, c0, c1, c2, c3, c4, c5, c6, c7, c8, c9, c10, c11, c12, c13⟩ := id C
    go_wp2_with fail
    refine (co _ T0).mono ?_
    rintro e w1 ⟨rfl, hb⟩
    have C1 := C.kept hb
    have B1 := bthen B hb
    clear hb C B T0 c0 c1 c2 c3 c4 c5 c6 c7 c8 c9 c10 c11 c12 c13
    obtain ⟨_, c0, c1, c2, c3, c4, c5, c6, c7, c8, c9, c10, c11, c12, c13⟩ := id C1
    go_wp2
    go_ret2
    exact ⟨rfl, B1⟩

set_option maxRecDepth 100000 in
theorem Bounds_any (c : CalZ) (a b er : Int) (w : World) (R : BoundsA c a b er) (hm : c.nm.size ≤ maxLen) (T : FTab w) :
    Calls Tryd.prog 19 #[.agg #[.string c.nm, .int .i64 c.k, .int .i64 c.d, .int .i64 c.m, .int .i64 c.s, .int .i64 c.sh, .int .i64 c.p0, .int .i64 c.p1, .int .i64 c.p2, .int .i64 c.cy, .int .i64 c.ex, .int .i64 c.fi, .int .i64 c.la, .int .i64 c.po]] w fun e w' => e = .returned (.tuple #[.agg #[.int .i64 a, .int .i64 b], .int .i64 er]) ∧ Below w.heap.size w w' := by
  have C := (CalIn.new w c 24).alloc (.cells #[.int .i64 0, .int .i64 0] 32)
  have K := Go.Proofs.YtmagdlcikcgelaaDoor.Pr.Two.new (w.alloc (.cells #[.string c.nm, .int .i64 c.k, .int .i64 c.d, .int .i64 c.m, .int .i64 c.s, .int .i64 c.sh, .int .i64 c.p0, .int .i64 c.p1, .int .i64 c.p2, .int .i64 c.cy, .int .i64 c.ex, .int .i64 c.fi, .int .i64 c.la, .int .i64 c.po] 24)) (.int .i64 0) (.int .i64 0) 32
  have B := balloc (balloc (Below.refl _ w) (.cells #[.string c.nm, .int .i64 c.k, .int .i64 c.d, .int .i64 c.m, .int .i64 c.s, .int .i64 c.sh, .int .i64 c.p0, .int .i64 c.p1, .int .i64 c.p2, .int .i64 c.cy, .int .i64 c.ex, .int .i64 c.fi, .int .i64 c.la, .int .i64 c.po] 24)) (.cells #[.int .i64 0, .int .i64 0] 32)
  have T0 := (T.alloc (.cells #[.string c.nm, .int .i64 c.k, .int .i64 c.d, .int .i64 c.m, .int .i64 c.s, .int .i64 c.sh, .int .i64 c.p0, .int .i64 c.p1, .int .i64 c.p2, .int .i64 c.cy, .int .i64 c.ex, .int .i64 c.fi, .int .i64 c.la, .int .i64 c.po] 24)).alloc (.cells #[.int .i64 0, .int .i64 0] 32)
  have zz : ((w.alloc (.cells #[.string c.nm, .int .i64 c.k, .int .i64 c.d, .int .i64 c.m, .int .i64 c.s, .int .i64 c.sh, .int .i64 c.p0, .int .i64 c.p1, .int .i64 c.p2, .int .i64 c.cy, .int .i64 c.ex, .int .i64 c.fi, .int .i64 c.la, .int .i64 c.po] 24)).alloc (.cells #[.int .i64 0, .int .i64 0] 32)).heap.size = w.heap.size + 2 := by simp
  simp only [World.size_alloc] at K
  rcases R with ⟨ok, ha, hb', rfl⟩ | ⟨no, rfl, rfl, rfl⟩
  · have ck := fun w T => Check_any c 0 w (.inl ⟨ok, rfl⟩) hm T
    obtain ⟨u, hu⟩ : ∃ u, u = yend c (c.fi - 1) := ⟨_, rfl⟩
    have yo := ok.2.2.1
    have yo0 := yo.1
    have yo1 := yo.2.1
    have yo2 := yo.2.2.1
    have cf := fun w T => lastOf_any c (c.fi - 1) u w ok (by omega) (by omega) hu hm T
    have cl := fun w T => lastOf_any c c.la b w ok (by omega) (by omega) hb' hm T
    have bd := yend_bd ok.1 (y := c.fi - 1) (by omega) (by omega)
    rw [← hu] at ha bd
    obtain ⟨u0, u1⟩ := bd
    subst ha
    clear hu hb' ok yo
    go_enter Tryd.func19, Tryd.ntmps19
    go_upto_region 1 with fail
    generalize (w.alloc (.cells #[.string c.nm, .int .i64 c.k, .int .i64 c.d, .int .i64 c.m, .int .i64 c.s, .int .i64 c.sh, .int .i64 c.p0, .int .i64 c.p1, .int .i64 c.p2, .int .i64 c.cy, .int .i64 c.ex, .int .i64 c.fi, .int .i64 c.la, .int .i64 c.po] 24)).alloc (.cells #[.int .i64 0, .int .i64 0] 32) = W0 at *
    obtain ⟨_, c0, c1, c2, c3, c4, c5, c6, c7, c8, c9, c10, c11, c12, c13⟩ := id C
    go_wp2_with fail
    refine (ck _ T0).mono ?_
    rintro e W1 ⟨rfl, hb⟩
    have zz1 : w.heap.size + 2 ≤ W1.heap.size := by have := hb.size; omega
    replace C := C.kept hb
    replace K := K.kept hb
    have B1 := bthen B hb
    have T1 := T0.kept hb
    clear hb B T0 ck zz T1 c0 c1 c2 c3 c4 c5 c6 c7 c8 c9 c10 c11 c12 c13
    have CFF : ∀ W, Below (w.heap.size + 1) W1 W → Calls Tryd.prog 44 #[.agg #[.string c.nm, .int .i64 c.k, .int .i64 c.d, .int .i64 c.m, .int .i64 c.s, .int .i64 c.sh, .int .i64 c.p0, .int .i64 c.p1, .int .i64 c.p2, .int .i64 c.cy, .int .i64 c.ex, .int .i64 c.fi, .int .i64 c.la, .int .i64 c.po], .int .i64 (c.fi - 1)] W fun e w' => e = .returned (.int .i64 u) ∧ Below W.heap.size W w' := fun W h => cf W (T.kept (B1.trans (h.mono (by omega))))
    have CLL : ∀ W, Below (w.heap.size + 1) W1 W → Calls Tryd.prog 44 #[.agg #[.string c.nm, .int .i64 c.k, .int .i64 c.d, .int .i64 c.m, .int .i64 c.s, .int .i64 c.sh, .int .i64 c.p0, .int .i64 c.p1, .int .i64 c.p2, .int .i64 c.cy, .int .i64 c.ex, .int .i64 c.fi, .int .i64 c.la, .int .i64 c.po], .int .i64 c.la] W fun e w' => e = .returned (.int .i64 b) ∧ Below W.heap.size W w' := fun W h => cl W (T.kept (B1.trans (h.mono (by omega))))
    have H : Hid (∀ W, Below (w.heap.size + 1) W1 W → (Below (w.heap.size + 1) W1 W ∧ W.cell? ⟨w.heap.size, 0, none⟩ = some (.string c.nm) ∧ W.cell? ⟨w.heap.size, 1, none⟩ = some (.int .i64 c.k) ∧ W.cell? ⟨w.heap.size, 2, none⟩ = some (.int .i64 c.d) ∧ W.cell? ⟨w.heap.size, 3, none⟩ = some (.int .i64 c.m) ∧ W.cell? ⟨w.heap.size, 4, none⟩ = some (.int .i64 c.s) ∧ W.cell? ⟨w.heap.size, 5, none⟩ = some (.int .i64 c.sh) ∧ W.cell? ⟨w.heap.size, 6, none⟩ = some (.int .i64 c.p0) ∧ W.cell? ⟨w.heap.size, 7, none⟩ = some (.int .i64 c.p1) ∧ W.cell? ⟨w.heap.size, 8, none⟩ = some (.int .i64 c.p2) ∧ W.cell? ⟨w.heap.size, 9, none⟩ = some (.int .i64 c.cy) ∧ W.cell? ⟨w.heap.size, 10, none⟩ = some (.int .i64 c.ex) ∧ W.cell? ⟨w.heap.size, 11, none⟩ = some (.int .i64 c.fi) ∧ W.cell? ⟨w.heap.size, 12, none⟩ = some (.int .i64 c.la) ∧ W.cell? ⟨w.heap.size, 13, none⟩ = some (.int .i64 c.po))) := Lib.hid (fun W h => by
      have Q := C.upto (w1 := W) (by omega) h (by omega)
      exact ⟨h, Q.c0, Q.c1, Q.c2, Q.c3, Q.c4, Q.c5, Q.c6, Q.c7, Q.c8, Q.c9, Q.c10, Q.c11, Q.c12, Q.c13⟩)
    obtain ⟨_, c0, c1, c2, c3, c4, c5, c6, c7, c8, c9, c10, c11, c12, c13⟩ := id C
    obtain ⟨_, k0, k1, g0, g1⟩ := id K
    have hw : IntKind.i64.wrap (c.fi - 1) = c.fi - 1 := by rw [IntWalk.i64_in _ (by omega)]
    have hw2 : IntKind.i64.wrap (u + 1) = u + 1 := by rw [IntWalk.i64_in _ (by omega)]
    clear cf cl
    go_wp2
    go_region_held3 (fun w' => Below (w.heap.size + 1) W1 w' ∧ w'.cell? ⟨w.heap.size, 0, none⟩ = some (.string c.nm) ∧ w'.cell? ⟨w.heap.size, 1, none⟩ = some (.int .i64 c.k) ∧ w'.cell? ⟨w.heap.size, 2, none⟩ = some (.int .i64 c.d) ∧ w'.cell? ⟨w.heap.size, 3, none⟩ = some (.int .i64 c.m) ∧ w'.cell? ⟨w.heap.size, 4, none⟩ = some (.int .i64 c.s) ∧ w'.cell? ⟨w.heap.size, 5, none⟩ = some (.int .i64 c.sh) ∧ w'.cell? ⟨w.heap.size, 6, none⟩ = some (.int .i64 c.p0) ∧ w'.cell? ⟨w.heap.size, 7, none⟩ = some (.int .i64 c.p1) ∧ w'.cell? ⟨w.heap.size, 8, none⟩ = some (.int .i64 c.p2) ∧ w'.cell? ⟨w.heap.size, 9, none⟩ = some (.int .i64 c.cy) ∧ w'.cell? ⟨w.heap.size, 10, none⟩ = some (.int .i64 c.ex) ∧ w'.cell? ⟨w.heap.size, 11, none⟩ = some (.int .i64 c.fi) ∧ w'.cell? ⟨w.heap.size, 12, none⟩ = some (.int .i64 c.la) ∧ w'.cell? ⟨w.heap.size, 13, none⟩ = some (.int .i64 c.po))
      ((refine H.out _ ?_; repeat (first | (with_reducible assumption) | (with_reducible exact Below.refl _ _) | (with_reducible refine Below.drew ?_) | ((with_reducible refine Below.setCell ?_ ?_ _); rotate_left; exact Nat.le_refl _))))
      (first
        | (go_at_call 44; first
            | ((with_reducible refine (CFF _ (by first | (with_reducible assumption) | (with_reducible exact Below.refl _ _) | (with_reducible exact (Below.refl _ _).drew))).mono ?_); rintro e w5 ⟨rfl, hb⟩; have K2 := Go.Proofs.YtmagdlcikcgelaaDoor.Pr.Two.kept (by first | (with_reducible assumption) | (with_reducible exact K.drew)) hb; obtain ⟨_, h1, h2, h3, h4⟩ := id K2; have hB := Below.trans (B := w.heap.size + 1) (a := W1) (by first | (with_reducible assumption) | (with_reducible exact Below.refl _ _) | (with_reducible exact (Below.refl _ _).drew)) (hb.mono (by first | omega | (simp only [World.size_drew]; omega))); have hz := hB.size; clear hb)
            | ((with_reducible refine (CLL _ (by first | (with_reducible assumption) | (with_reducible exact Below.refl _ _) | (with_reducible exact (Below.refl _ _).drew))).mono ?_); rintro e w5 ⟨rfl, hb⟩; have K2 := Go.Proofs.YtmagdlcikcgelaaDoor.Pr.Two.kept (by first | (with_reducible assumption) | (with_reducible exact K.drew)) hb; obtain ⟨_, h1, h2, h3, h4⟩ := id K2; have hB := Below.trans (B := w.heap.size + 1) (a := W1) (by first | (with_reducible assumption) | (with_reducible exact Below.refl _ _) | (with_reducible exact (Below.refl _ _).drew)) (hb.mono (by first | omega | (simp only [World.size_drew]; omega))); have hz := hB.size; clear hb)))
    all_goals go_wp2
    all_goals
      refine bodyPost_ret (v := .tuple #[.agg #[.int .i64 (u + 1), .int .i64 b], .int .i64 0]) (by simp [results, Tryd.results19, go_sem, *]) rfl ⟨rfl, ?_⟩
      exact bset (bset (B1.trans (hB.mono (by omega))) (by omega) _ _) (by omega) _ _
  · have ck := fun w T => Check_any c 1 w (.inr ⟨no, rfl⟩) hm T
    clear no
    go_enter Tryd.func19, Tryd.ntmps19
    go_upto_region 1 with fail
    generalize (w.alloc (.cells #[.string c.nm, .int .i64 c.k, .int .i64 c.d, .int .i64 c.m, .int .i64 c.s, .int .i64 c.sh, .int .i64 c.p0, .int .i64 c.p1, .int .i64 c.p2, .int .i64 c.cy, .int .i64 c.ex, .int .i64 c.fi, .int .i64 c.la, .int .i64 c.po] 24)).alloc (.cells #[.int .i64 0, .int .i64 0] 32) = W0 at *
    obtain ⟨_, c0, c1, c2, c3, c4, c5, c6, c7, c8, c9, c10, c11, c12, c13⟩ := id C
    go_wp2_with fail
    refine (ck _ T0).mono ?_
    rintro e w1 ⟨rfl, hb⟩
    replace K := K.kept hb
    obtain ⟨_, k0, k1, g0, g1⟩ := id K
    go_wp2
    refine bodyPost_ret (v := .tuple #[.agg #[.int .i64 0, .int .i64 0], .int .i64 1]) (by simp [results, Tryd.results19, go_sem, k0, k1]) rfl ⟨rfl, ?_⟩
    exact bset (bset (bthen B hb) (by omega) _ _) (by omega) _ _

end Go.Proofs.YtmagdlcikcgelaaDoor.Jp
