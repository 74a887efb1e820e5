/- What check, End, Start, Days and Weeks of package anchor come to. -/
import Derived.Test.YtjiifmdjhdhabaaGreatDoorAend
namespace Go.Proofs.YtjiifmdjhdhabaaGreatDoor.Ap
set_option linter.unusedSimpArgs false
set_option linter.unusedVariables false
open Go.RowKit Go.Proofs.YtjiifmdjhdhabaaGreatDoor.Bn Go.Proofs.YtjiifmdjhdhabaaGreatDoor.Cp Go.Proofs.YtjiifmdjhdhabaaGreatDoor.Am Go.Proofs.YtjiifmdjhdhabaaGreatDoor.Fp

set_option maxHeartbeats 1000000

/-- what check answers -/
def ChkY (c : CalZ) (y f er : Int) : Prop := (CalOk c ∧ f ≤ y ∧ y ≤ 9997 ∧ er = 0) ∨ (CalOk c ∧ ¬ (f ≤ y ∧ y ≤ 9997) ∧ er = 11) ∨ (¬ CalOk c ∧ er = 1)

set_option maxRecDepth 100000 in
theorem check_any (c : CalZ) (y f er : Int) (w : World) (R : ChkY c y f er) (hm : c.nm.size ≤ maxLen) (T : FTab w) :
    Calls Tryz.prog 53 #[.agg #[.string c.nm, .int .i64 c.k, .int .i64 c.d, .int .i64 c.m, .int .i64 c.s, .int .i64 c.sh, .int .i64 c.p0, .int .i64 c.p1, .int .i64 c.p2, .int .i64 c.cy, .int .i64 c.ex, .int .i64 c.fi, .int .i64 c.la, .int .i64 c.po], .int .i64 y, .int .i64 f] w fun e w' => e = .returned (.int .i64 er) ∧ Below w.heap.size w w' := by
  have C := CalIn.new w c 24
  have B := balloc (Below.refl _ w) (.cells #[.string c.nm, .int .i64 c.k, .int .i64 c.d, .int .i64 c.m, .int .i64 c.s, .int .i64 c.sh, .int .i64 c.p0, .int .i64 c.p1, .int .i64 c.p2, .int .i64 c.cy, .int .i64 c.ex, .int .i64 c.fi, .int .i64 c.la, .int .i64 c.po] 24)
  have T0 := T.alloc (.cells #[.string c.nm, .int .i64 c.k, .int .i64 c.d, .int .i64 c.m, .int .i64 c.s, .int .i64 c.sh, .int .i64 c.p0, .int .i64 c.p1, .int .i64 c.p2, .int .i64 c.cy, .int .i64 c.ex, .int .i64 c.fi, .int .i64 c.la, .int .i64 c.po] 24)
  have O : (∃ h, h = 0 ∧ ChkA c h ∧ f ≤ y ∧ y ≤ 9997 ∧ er = 0) ∨ (∃ h, h = 0 ∧ ChkA c h ∧ y < f ∧ er = 11) ∨ (∃ h, h = 0 ∧ ChkA c h ∧ f ≤ y ∧ 9997 < y ∧ er = 11) ∨ (∃ h, h = 1 ∧ ChkA c h ∧ er = 1) := by
    rcases R with ⟨ok, h1, h2, rfl⟩ | ⟨ok, h, rfl⟩ | ⟨no, rfl⟩
    · exact .inl ⟨0, rfl, .inl ⟨ok, rfl⟩, h1, h2, rfl⟩
    · by_cases k : f ≤ y
      · exact .inr (.inr (.inl ⟨0, rfl, .inl ⟨ok, rfl⟩, k, by omega, rfl⟩))
      · exact .inr (.inl ⟨0, rfl, .inl ⟨ok, rfl⟩, by omega, rfl⟩)
    · exact .inr (.inr (.inr ⟨1, rfl, .inr ⟨no, rfl⟩, rfl⟩))
  clear R
  rcases O with ⟨h, rfl, ch, h1, h2, rfl⟩ | ⟨h, rfl, ch, h1, rfl⟩ | ⟨h, rfl, ch, h1, h2, rfl⟩ | ⟨h, rfl, ch, rfl⟩
  all_goals
    have cc := fun w T => Check_any c _ w ch hm T
    clear ch
    go_enter Tryz.func53, Tryz.ntmps53
    go_upto_region 1 with fail
    generalize w.alloc (.cells #[.string c.nm, .int .i64 c.k, .int .i64 c.d, .int .i64 c.m, .int .i64 c.s, .int .i64 c.sh, .int .i64 c.p0, .int .i64 c.p1, .int .i64 c.p2, .int .i64 c.cy, .int .i64 c.ex, .int .i64 c.fi, .int .i64 c.la, .int .i64 c.po] 24) = W0 at *
    obtain ⟨_, c0, c1, c2, c3, c4, c5, c6, c7, c8, c9, c10, c11, c12, c13⟩ := id C
    go_wp2_with fail
    refine (cc _ T0).mono ?_
    rintro e w1 ⟨rfl, hb⟩
    go_wp2
    go_ret
    exact ⟨rfl, bthen B hb⟩

set_option maxRecDepth 100000 in
theorem End_any (c : CalZ) (y v er : Int) (w : World) (R : EndA c y v er) (hm : c.nm.size ≤ maxLen) (T : FTab w) :
    Calls Tryz.prog 85 #[.agg #[.string c.nm, .int .i64 c.k, .int .i64 c.d, .int .i64 c.m, .int .i64 c.s, .int .i64 c.sh, .int .i64 c.p0, .int .i64 c.p1, .int .i64 c.p2, .int .i64 c.cy, .int .i64 c.ex, .int .i64 c.fi, .int .i64 c.la, .int .i64 c.po], .int .i64 y] w fun e w' => e = .returned (.tuple #[.int .i64 v, .int .i64 er]) ∧ Below w.heap.size w w' := by
  have C := CalIn.new w c 24
  have B := balloc (Below.refl _ w) (.cells #[.string c.nm, .int .i64 c.k, .int .i64 c.d, .int .i64 c.m, .int .i64 c.s, .int .i64 c.sh, .int .i64 c.p0, .int .i64 c.p1, .int .i64 c.p2, .int .i64 c.cy, .int .i64 c.ex, .int .i64 c.fi, .int .i64 c.la, .int .i64 c.po] 24)
  have T0 := T.alloc (.cells #[.string c.nm, .int .i64 c.k, .int .i64 c.d, .int .i64 c.m, .int .i64 c.s, .int .i64 c.sh, .int .i64 c.p0, .int .i64 c.p1, .int .i64 c.p2, .int .i64 c.cy, .int .i64 c.ex, .int .i64 c.fi, .int .i64 c.la, .int .i64 c.po] 24)
  rcases R with ⟨ok, h1, h2, hv, rfl⟩ | ⟨ok, h, rfl, rfl⟩ | ⟨no, rfl, rfl⟩
  · have ck := fun w T => check_any c y 1600 0 w (.inl ⟨ok, h1, h2, rfl⟩) hm T
    have ce := fun w T => end_any c y v w ok.1 h1 h2 hv T
    clear hv
    clear ok
    go_enter Tryz.func85, Tryz.ntmps85
    go_upto_region 1 with fail
    generalize w.alloc (.cells #[.string c.nm, .int .i64 c.k, .int .i64 c.d, .int .i64 c.m, .int .i64 c.s, .int .i64 c.sh, .int .i64 c.p0, .int .i64 c.p1, .int .i64 c.p2, .int .i64 c.cy, .int .i64 c.ex, .int .i64 c.fi, .int .i64 c.la, .int .i64 c.po] 24) = W0 at *
    obtain ⟨_, c0, c1, c2, c3, c4, c5, c6, c7, c8, c9, c10, c11, c12, c13⟩ := id C
    go_wp2_with fail
    refine (ck _ T0).mono ?_
    rintro e w1 ⟨rfl, hb⟩
    have C1 := C.kept hb
    have B1 := bthen B hb
    have T1 := T0.kept hb
    clear hb c0 c1 c2 c3 c4 c5 c6 c7 c8 c9 c10 c11 c12 c13 C B T0 T
    obtain ⟨_, c0, c1, c2, c3, c4, c5, c6, c7, c8, c9, c10, c11, c12, c13⟩ := id C1
    go_wp2_with fail
    refine (ce _ T1.civ).mono ?_
    rintro e w2 ⟨rfl, hb⟩
    go_wp2
    go_ret2
    exact ⟨rfl, bthen B1 hb⟩
  all_goals
    have ck := fun w T => check_any c y 1600 _ w (by first | exact .inr (.inl ⟨ok, h, rfl⟩) | exact .inr (.inr ⟨no, rfl⟩)) hm T
    go_enter Tryz.func85, Tryz.ntmps85
    go_upto_region 1 with fail
    generalize w.alloc (.cells #[.string c.nm, .int .i64 c.k, .int .i64 c.d, .int .i64 c.m, .int .i64 c.s, .int .i64 c.sh, .int .i64 c.p0, .int .i64 c.p1, .int .i64 c.p2, .int .i64 c.cy, .int .i64 c.ex, .int .i64 c.fi, .int .i64 c.la, .int .i64 c.po] 24) = W0 at *
    obtain ⟨_, c0, c1, c2, c3, c4, c5, c6, c7, c8, c9, c10, c11, c12, c13⟩ := id C
    go_wp2_with fail
    refine (ck _ T0).mono ?_
    rintro e w1 ⟨rfl, hb⟩
    go_wp2
    go_ret2
    exact ⟨rfl, bthen B hb⟩

set_option maxRecDepth 100000 in
theorem Start_any (c : CalZ) (y v er : Int) (w : World) (R : StartA c y v er) (hm : c.nm.size ≤ maxLen) (T : FTab w) :
    Calls Tryz.prog 27 #[.agg #[.string c.nm, .int .i64 c.k, .int .i64 c.d, .int .i64 c.m, .int .i64 c.s, .int .i64 c.sh, .int .i64 c.p0, .int .i64 c.p1, .int .i64 c.p2, .int .i64 c.cy, .int .i64 c.ex, .int .i64 c.fi, .int .i64 c.la, .int .i64 c.po], .int .i64 y] w fun e w' => e = .returned (.tuple #[.int .i64 v, .int .i64 er]) ∧ Below w.heap.size w w' := by
  have C := CalIn.new w c 24
  have B := balloc (Below.refl _ w) (.cells #[.string c.nm, .int .i64 c.k, .int .i64 c.d, .int .i64 c.m, .int .i64 c.s, .int .i64 c.sh, .int .i64 c.p0, .int .i64 c.p1, .int .i64 c.p2, .int .i64 c.cy, .int .i64 c.ex, .int .i64 c.fi, .int .i64 c.la, .int .i64 c.po] 24)
  have T0 := T.alloc (.cells #[.string c.nm, .int .i64 c.k, .int .i64 c.d, .int .i64 c.m, .int .i64 c.s, .int .i64 c.sh, .int .i64 c.p0, .int .i64 c.p1, .int .i64 c.p2, .int .i64 c.cy, .int .i64 c.ex, .int .i64 c.fi, .int .i64 c.la, .int .i64 c.po] 24)
  rcases R with ⟨ok, h1, h2, hv, rfl⟩ | ⟨ok, h, rfl, rfl⟩ | ⟨no, rfl, rfl⟩
  · have ck := fun w T => check_any c y 1601 0 w (.inl ⟨ok, h1, h2, rfl⟩) hm T
    obtain ⟨u, hu⟩ : ∃ u, u = yend c (y - 1) := ⟨_, rfl⟩
    have ce := fun w T => end_any c (y - 1) u w ok.1 (by omega) (by omega) hu T
    have bd := yend_bd ok.1 (y := y - 1) (by omega) (by omega)
    rw [← hu] at hv bd
    obtain ⟨u0, u1⟩ := bd
    subst hv
    clear hu
    clear ok
    go_enter Tryz.func27, Tryz.ntmps27
    go_upto_region 1 with fail
    generalize w.alloc (.cells #[.string c.nm, .int .i64 c.k, .int .i64 c.d, .int .i64 c.m, .int .i64 c.s, .int .i64 c.sh, .int .i64 c.p0, .int .i64 c.p1, .int .i64 c.p2, .int .i64 c.cy, .int .i64 c.ex, .int .i64 c.fi, .int .i64 c.la, .int .i64 c.po] 24) = W0 at *
    obtain ⟨_, c0, c1, c2, c3, c4, c5, c6, c7, c8, c9, c10, c11, c12, c13⟩ := id C
    go_wp2_with fail
    refine (ck _ T0).mono ?_
    rintro e w1 ⟨rfl, hb⟩
    have C1 := C.kept hb
    have B1 := bthen B hb
    have T1 := T0.kept hb
    clear hb c0 c1 c2 c3 c4 c5 c6 c7 c8 c9 c10 c11 c12 c13 C B T0 T
    obtain ⟨_, c0, c1, c2, c3, c4, c5, c6, c7, c8, c9, c10, c11, c12, c13⟩ := id C1
    go_wp2_with fail
    refine (ce _ T1.civ).mono ?_
    rintro e w2 ⟨rfl, hb⟩
    go_wp2
    go_ret2
    exact ⟨rfl, bthen B1 hb⟩
  all_goals
    have ck := fun w T => check_any c y 1601 _ w (by first | exact .inr (.inl ⟨ok, h, rfl⟩) | exact .inr (.inr ⟨no, rfl⟩)) hm T
    go_enter Tryz.func27, Tryz.ntmps27
    go_upto_region 1 with fail
    generalize w.alloc (.cells #[.string c.nm, .int .i64 c.k, .int .i64 c.d, .int .i64 c.m, .int .i64 c.s, .int .i64 c.sh, .int .i64 c.p0, .int .i64 c.p1, .int .i64 c.p2, .int .i64 c.cy, .int .i64 c.ex, .int .i64 c.fi, .int .i64 c.la, .int .i64 c.po] 24) = W0 at *
    obtain ⟨_, c0, c1, c2, c3, c4, c5, c6, c7, c8, c9, c10, c11, c12, c13⟩ := id C
    go_wp2_with fail
    refine (ck _ T0).mono ?_
    rintro e w1 ⟨rfl, hb⟩
    go_wp2
    go_ret2
    exact ⟨rfl, bthen B hb⟩

set_option maxRecDepth 100000 in
theorem Days_any (c : CalZ) (y v er : Int) (w : World) (R : DaysA c y v er) (hm : c.nm.size ≤ maxLen) (T : FTab w) :
    Calls Tryz.prog 92 #[.agg #[.string c.nm, .int .i64 c.k, .int .i64 c.d, .int .i64 c.m, .int .i64 c.s, .int .i64 c.sh, .int .i64 c.p0, .int .i64 c.p1, .int .i64 c.p2, .int .i64 c.cy, .int .i64 c.ex, .int .i64 c.fi, .int .i64 c.la, .int .i64 c.po], .int .i64 y] w fun e w' => e = .returned (.tuple #[.int .i64 v, .int .i64 er]) ∧ Below w.heap.size w w' := by
  have C := CalIn.new w c 24
  have B := balloc (Below.refl _ w) (.cells #[.string c.nm, .int .i64 c.k, .int .i64 c.d, .int .i64 c.m, .int .i64 c.s, .int .i64 c.sh, .int .i64 c.p0, .int .i64 c.p1, .int .i64 c.p2, .int .i64 c.cy, .int .i64 c.ex, .int .i64 c.fi, .int .i64 c.la, .int .i64 c.po] 24)
  have T0 := T.alloc (.cells #[.string c.nm, .int .i64 c.k, .int .i64 c.d, .int .i64 c.m, .int .i64 c.s, .int .i64 c.sh, .int .i64 c.p0, .int .i64 c.p1, .int .i64 c.p2, .int .i64 c.cy, .int .i64 c.ex, .int .i64 c.fi, .int .i64 c.la, .int .i64 c.po] 24)
  rcases R with ⟨ok, h1, h2, hv, rfl⟩ | ⟨ok, h, rfl, rfl⟩ | ⟨no, rfl, rfl⟩
  · have ck := fun w T => check_any c y 1601 0 w (.inl ⟨ok, h1, h2, rfl⟩) hm T
    obtain ⟨u, hu⟩ : ∃ u, u = yend c (y - 1) := ⟨_, rfl⟩
    obtain ⟨z, hz⟩ : ∃ z, z = yend c y := ⟨_, rfl⟩
    have ce := fun w T => end_any c (y - 1) u w ok.1 (by omega) (by omega) hu T
    have cz := fun w T => end_any c y z w ok.1 (by omega) h2 hz T
    have bd := yend_bd ok.1 (y := y - 1) (by omega) (by omega)
    have bz := yend_bd ok.1 (y := y) (by omega) h2
    rw [← hu] at hv bd
    rw [← hz] at hv bz
    obtain ⟨u0, u1⟩ := bd
    obtain ⟨z0, z1⟩ := bz
    subst hv
    clear hu hz
    clear ok
    go_enter Tryz.func92, Tryz.ntmps92
    go_upto_region 1 with fail
    generalize w.alloc (.cells #[.string c.nm, .int .i64 c.k, .int .i64 c.d, .int .i64 c.m, .int .i64 c.s, .int .i64 c.sh, .int .i64 c.p0, .int .i64 c.p1, .int .i64 c.p2, .int .i64 c.cy, .int .i64 c.ex, .int .i64 c.fi, .int .i64 c.la, .int .i64 c.po] 24) = W0 at *
    obtain ⟨_, c0, c1, c2, c3, c4, c5, c6, c7, c8, c9, c10, c11, c12, c13⟩ := id C
    go_wp2_with fail
    refine (ck _ T0).mono ?_
    rintro e w1 ⟨rfl, hb⟩
    have C1 := C.kept hb
    have B1 := bthen B hb
    have T1 := T0.kept hb
    clear hb c0 c1 c2 c3 c4 c5 c6 c7 c8 c9 c10 c11 c12 c13 C B T0 T
    obtain ⟨_, c0, c1, c2, c3, c4, c5, c6, c7, c8, c9, c10, c11, c12, c13⟩ := id C1
    have CE : ∀ W, Below w1.heap.size w1 W → Calls Tryz.prog 54 #[.agg #[.string c.nm, .int .i64 c.k, .int .i64 c.d, .int .i64 c.m, .int .i64 c.s, .int .i64 c.sh, .int .i64 c.p0, .int .i64 c.p1, .int .i64 c.p2, .int .i64 c.cy, .int .i64 c.ex, .int .i64 c.fi, .int .i64 c.la, .int .i64 c.po], .int .i64 (y - 1)] W fun e w' => e = .returned (.int .i64 u) ∧ Below W.heap.size W w' := fun W h => ce W (T1.kept h).civ
    have CZ : ∀ W, Below w1.heap.size w1 W → Calls Tryz.prog 54 #[.agg #[.string c.nm, .int .i64 c.k, .int .i64 c.d, .int .i64 c.m, .int .i64 c.s, .int .i64 c.sh, .int .i64 c.p0, .int .i64 c.p1, .int .i64 c.p2, .int .i64 c.cy, .int .i64 c.ex, .int .i64 c.fi, .int .i64 c.la, .int .i64 c.po], .int .i64 y] W fun e w' => e = .returned (.int .i64 z) ∧ Below W.heap.size W w' := fun W h => cz W (T1.kept h).civ
    have H : Hid (∀ W, Below w1.heap.size w1 W → (Below w1.heap.size w1 W ∧ W.cell? ⟨w.heap.size, 0, none⟩ = some (.string c.nm) ∧ W.cell? ⟨w.heap.size, 1, none⟩ = some (.int .i64 c.k) ∧ W.cell? ⟨w.heap.size, 2, none⟩ = some (.int .i64 c.d) ∧ W.cell? ⟨w.heap.size, 3, none⟩ = some (.int .i64 c.m) ∧ W.cell? ⟨w.heap.size, 4, none⟩ = some (.int .i64 c.s) ∧ W.cell? ⟨w.heap.size, 5, none⟩ = some (.int .i64 c.sh) ∧ W.cell? ⟨w.heap.size, 6, none⟩ = some (.int .i64 c.p0) ∧ W.cell? ⟨w.heap.size, 7, none⟩ = some (.int .i64 c.p1) ∧ W.cell? ⟨w.heap.size, 8, none⟩ = some (.int .i64 c.p2) ∧ W.cell? ⟨w.heap.size, 9, none⟩ = some (.int .i64 c.cy) ∧ W.cell? ⟨w.heap.size, 10, none⟩ = some (.int .i64 c.ex) ∧ W.cell? ⟨w.heap.size, 11, none⟩ = some (.int .i64 c.fi) ∧ W.cell? ⟨w.heap.size, 12, none⟩ = some (.int .i64 c.la) ∧ W.cell? ⟨w.heap.size, 13, none⟩ = some (.int .i64 c.po))) := Lib.hid (fun W h => ⟨h, (C1.kept h).c0, (C1.kept h).c1, (C1.kept h).c2, (C1.kept h).c3, (C1.kept h).c4, (C1.kept h).c5, (C1.kept h).c6, (C1.kept h).c7, (C1.kept h).c8, (C1.kept h).c9, (C1.kept h).c10, (C1.kept h).c11, (C1.kept h).c12, (C1.kept h).c13⟩)
    clear C1 ce cz T1
    have hw : IntKind.i64.wrap (y - 1) = y - 1 := by rw [IntWalk.i64_in _ (by omega)]
    have hw2 : IntKind.i64.wrap (z - u) = z - u := by rw [IntWalk.i64_in _ (by omega)]
    go_wp2
    go_region_held3 (fun w' => Below w1.heap.size w1 w' ∧ w'.cell? ⟨w.heap.size, 0, none⟩ = some (.string c.nm) ∧ w'.cell? ⟨w.heap.size, 1, none⟩ = some (.int .i64 c.k) ∧ w'.cell? ⟨w.heap.size, 2, none⟩ = some (.int .i64 c.d) ∧ w'.cell? ⟨w.heap.size, 3, none⟩ = some (.int .i64 c.m) ∧ w'.cell? ⟨w.heap.size, 4, none⟩ = some (.int .i64 c.s) ∧ w'.cell? ⟨w.heap.size, 5, none⟩ = some (.int .i64 c.sh) ∧ w'.cell? ⟨w.heap.size, 6, none⟩ = some (.int .i64 c.p0) ∧ w'.cell? ⟨w.heap.size, 7, none⟩ = some (.int .i64 c.p1) ∧ w'.cell? ⟨w.heap.size, 8, none⟩ = some (.int .i64 c.p2) ∧ w'.cell? ⟨w.heap.size, 9, none⟩ = some (.int .i64 c.cy) ∧ w'.cell? ⟨w.heap.size, 10, none⟩ = some (.int .i64 c.ex) ∧ w'.cell? ⟨w.heap.size, 11, none⟩ = some (.int .i64 c.fi) ∧ w'.cell? ⟨w.heap.size, 12, none⟩ = some (.int .i64 c.la) ∧ w'.cell? ⟨w.heap.size, 13, none⟩ = some (.int .i64 c.po))
      ((refine H.out _ ?_; first | (with_reducible assumption) | (with_reducible exact Below.refl _ _) | (with_reducible exact (Below.refl _ _).drew)))
      (first
        | (go_at_call 54; first
            | ((with_reducible refine (CZ _ (by first | (with_reducible assumption) | (with_reducible exact Below.refl _ _) | (with_reducible exact (Below.refl _ _).drew))).mono ?_); rintro e w5 ⟨rfl, hb⟩; have hB := bthen (w := w1) (by first | (with_reducible assumption) | (with_reducible exact Below.refl _ _) | (with_reducible exact (Below.refl _ _).drew)) hb; clear hb)
            | ((with_reducible refine (CE _ (by first | (with_reducible assumption) | (with_reducible exact Below.refl _ _) | (with_reducible exact (Below.refl _ _).drew))).mono ?_); rintro e w5 ⟨rfl, hb⟩; have hB := bthen (w := w1) (by first | (with_reducible assumption) | (with_reducible exact Below.refl _ _) | (with_reducible exact (Below.refl _ _).drew)) hb; clear hb)))
    all_goals go_wp2
    all_goals
      go_ret2
      exact ⟨rfl, bthen B1 hB⟩
  all_goals
    have ck := fun w T => check_any c y 1601 _ w (by first | exact .inr (.inl ⟨ok, h, rfl⟩) | exact .inr (.inr ⟨no, rfl⟩)) hm T
    go_enter Tryz.func92, Tryz.ntmps92
    go_upto_region 1 with fail
    generalize w.alloc (.cells #[.string c.nm, .int .i64 c.k, .int .i64 c.d, .int .i64 c.m, .int .i64 c.s, .int .i64 c.sh, .int .i64 c.p0, .int .i64 c.p1, .int .i64 c.p2, .int .i64 c.cy, .int .i64 c.ex, .int .i64 c.fi, .int .i64 c.la, .int .i64 c.po] 24) = W0 at *
    obtain ⟨_, c0, c1, c2, c3, c4, c5, c6, c7, c8, c9, c10, c11, c12, c13⟩ := id C
    go_wp2_with fail
    refine (ck _ T0).mono ?_
    rintro e w1 ⟨rfl, hb⟩
    go_wp2
    go_ret2
    exact ⟨rfl, bthen B hb⟩

set_option maxRecDepth 100000 in
theorem Weeks_any (c : CalZ) (y v er : Int) (w : World) (R : WeeksA c y v er) (hm : c.nm.size ≤ maxLen) (T : FTab w) :
    Calls Tryz.prog 58 #[.agg #[.string c.nm, .int .i64 c.k, .int .i64 c.d, .int .i64 c.m, .int .i64 c.s, .int .i64 c.sh, .int .i64 c.p0, .int .i64 c.p1, .int .i64 c.p2, .int .i64 c.cy, .int .i64 c.ex, .int .i64 c.fi, .int .i64 c.la, .int .i64 c.po], .int .i64 y] w fun e w' => e = .returned (.tuple #[.int .i64 v, .int .i64 er]) ∧ Below w.heap.size w w' := by
  have C := CalIn.new w c 24
  have B := balloc (Below.refl _ w) (.cells #[.string c.nm, .int .i64 c.k, .int .i64 c.d, .int .i64 c.m, .int .i64 c.s, .int .i64 c.sh, .int .i64 c.p0, .int .i64 c.p1, .int .i64 c.p2, .int .i64 c.cy, .int .i64 c.ex, .int .i64 c.fi, .int .i64 c.la, .int .i64 c.po] 24)
  have T0 := T.alloc (.cells #[.string c.nm, .int .i64 c.k, .int .i64 c.d, .int .i64 c.m, .int .i64 c.s, .int .i64 c.sh, .int .i64 c.p0, .int .i64 c.p1, .int .i64 c.p2, .int .i64 c.cy, .int .i64 c.ex, .int .i64 c.fi, .int .i64 c.la, .int .i64 c.po] 24)
  by_cases k6 : c.k = 6
  · obtain ⟨rfl, rfl⟩ : v = 0 ∧ er = 1 := by
      rcases R with ⟨_, h, _⟩ | ⟨_, h, _⟩ | ⟨_, h1, h2⟩
      · exact absurd k6 h
      · exact absurd k6 h
      · exact ⟨h1, h2⟩
    clear R
    have d6 : (c.k == 6) = true := by rw [k6]; rfl
    clear k6
    go_enter Tryz.func58, Tryz.ntmps58
    go_upto_region 1 with fail
    generalize w.alloc (.cells #[.string c.nm, .int .i64 c.k, .int .i64 c.d, .int .i64 c.m, .int .i64 c.s, .int .i64 c.sh, .int .i64 c.p0, .int .i64 c.p1, .int .i64 c.p2, .int .i64 c.cy, .int .i64 c.ex, .int .i64 c.fi, .int .i64 c.la, .int .i64 c.po] 24) = W0 at *
    obtain ⟨_, c0, c1, c2, c3, c4, c5, c6, c7, c8, c9, c10, c11, c12, c13⟩ := id C
    go_wp2
    go_ret2
    exact ⟨rfl, B⟩
  · have d6 : (c.k == 6) = false := beq_eq_false_iff_ne.2 k6
    obtain ⟨d, q, D, hq, d0, d1⟩ : ∃ d, ∃ _ : True, DaysA c y d er ∧ d / 7 = v ∧ 0 ≤ d ∧ d ≤ 400 := by
      rcases R with ⟨ok, _, h1, h2, hv, rfl⟩ | ⟨ok, _, h, rfl, rfl⟩ | ⟨no, rfl, rfl⟩
      · have s := yend_step ok.1 (y := y - 1) (by omega) (by omega)
        rw [show y - 1 + 1 = y by omega] at s
        exact ⟨_, trivial, .inl ⟨ok, h1, h2, rfl, rfl⟩, hv.symm, by omega, by omega⟩
      · exact ⟨0, trivial, .inr (.inl ⟨ok, h, rfl, rfl⟩), rfl, by omega, by omega⟩
      · exact ⟨0, trivial, .inr (.inr ⟨no.resolve_right k6, rfl, rfl⟩), rfl, by omega, by omega⟩
    have cd := fun w T => Days_any c y d er w D hm T
    clear D R k6
    subst hq
    go_enter Tryz.func58, Tryz.ntmps58
    go_upto_region 1 with fail
    generalize w.alloc (.cells #[.string c.nm, .int .i64 c.k, .int .i64 c.d, .int .i64 c.m, .int .i64 c.s, .int .i64 c.sh, .int .i64 c.p0, .int .i64 c.p1, .int .i64 c.p2, .int .i64 c.cy, .int .i64 c.ex, .int .i64 c.fi, .int .i64 c.la, .int .i64 c.po] 24) = W0 at *
    obtain ⟨_, c0, c1, c2, c3, c4, c5, c6, c7, c8, c9, c10, c11, c12, c13⟩ := id C
    go_wp2_with fail
    refine (cd _ T0).mono ?_
    rintro e w1 ⟨rfl, hb⟩
    go_wp2
    go_ret2
    exact ⟨rfl, bthen B hb⟩

end Go.Proofs.YtjiifmdjhdhabaaGreatDoor.Ap
