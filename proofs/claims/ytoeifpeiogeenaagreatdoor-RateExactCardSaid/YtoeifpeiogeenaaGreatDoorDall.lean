/- What units, All and Meets of package find come to. -/
import Derived.Test.YtoeifpeiogeenaaGreatDoorDcode
import Derived.Test.YtoeifpeiogeenaaGreatDoorDunits
import Derived.Test.YtoeifpeiogeenaaGreatDoorDcoll
namespace Go.Proofs.YtoeifpeiogeenaaGreatDoor.Dp
set_option linter.unusedSimpArgs false
set_option linter.unusedVariables false
open Go.RowKit Go.Proofs.YtoeifpeiogeenaaGreatDoor.Bn Go.Proofs.YtoeifpeiogeenaaGreatDoor.Bx Go.Proofs.YtoeifpeiogeenaaGreatDoor.Cp Go.Proofs.YtoeifpeiogeenaaGreatDoor.Am Go.Proofs.YtoeifpeiogeenaaGreatDoor.Fp Go.Proofs.YtoeifpeiogeenaaGreatDoor.Ap Go.Proofs.YtoeifpeiogeenaaGreatDoor.Cm Go.Proofs.YtoeifpeiogeenaaGreatDoor.Em Go.Proofs.YtoeifpeiogeenaaGreatDoor.Ep Go.Proofs.YtoeifpeiogeenaaGreatDoor.Rk Go.Proofs.YtoeifpeiogeenaaGreatDoor.Hp Go.Proofs.YtoeifpeiogeenaaGreatDoor.Ip Go.Proofs.YtoeifpeiogeenaaGreatDoor.Jp Go.Proofs.YtoeifpeiogeenaaGreatDoor.Ui

set_option maxHeartbeats 4000000

set_option maxRecDepth 100000 in
theorem units_any (c : CalZ) (L y0 i0 y n : Int) (w : World) :
    Calls Tryz.prog 59 #[.agg #[.string c.nm, .int .i64 c.k, .int .i64 c.d, .int .i64 c.m, .int .i64 c.s, .int .i64 c.sh, .int .i64 c.p0, .int .i64 c.p1, .int .i64 c.p2, .int .i64 c.cy, .int .i64 c.ex, .int .i64 c.fi, .int .i64 c.la, .int .i64 c.po], .agg #[.int .i64 L, .int .i64 y0, .int .i64 i0], .agg #[.int .i64 L, .int .i64 y, .int .i64 n]] w fun e w' => ∃ bc b1 b2 : Nat,
      e = .returned (.func (.func 101) #[] #[.pointer (some ⟨b1, 0, none⟩), .pointer (some ⟨b2, 0, none⟩), .pointer (some ⟨bc, 0, none⟩)]) ∧ CalIn w' bc c ∧ Tri w' b1 (.int .i64 L) (.int .i64 y0) (.int .i64 i0) ∧ Tri w' b2 (.int .i64 L) (.int .i64 y) (.int .i64 n) ∧ Below w.heap.size w w' := by
  have C := CalIn.new w c 24
  have U := Tri.new (w.alloc (.cells #[.string c.nm, .int .i64 c.k, .int .i64 c.d, .int .i64 c.m, .int .i64 c.s, .int .i64 c.sh, .int .i64 c.p0, .int .i64 c.p1, .int .i64 c.p2, .int .i64 c.cy, .int .i64 c.ex, .int .i64 c.fi, .int .i64 c.la, .int .i64 c.po] 24)) (.int .i64 L) (.int .i64 y0) (.int .i64 i0) 26
  have V := Tri.new ((w.alloc (.cells #[.string c.nm, .int .i64 c.k, .int .i64 c.d, .int .i64 c.m, .int .i64 c.s, .int .i64 c.sh, .int .i64 c.p0, .int .i64 c.p1, .int .i64 c.p2, .int .i64 c.cy, .int .i64 c.ex, .int .i64 c.fi, .int .i64 c.la, .int .i64 c.po] 24)).alloc (.cells #[.int .i64 L, .int .i64 y0, .int .i64 i0] 26)) (.int .i64 L) (.int .i64 y) (.int .i64 n) 26
  have B := balloc (balloc (balloc (Below.refl _ w) (.cells #[.string c.nm, .int .i64 c.k, .int .i64 c.d, .int .i64 c.m, .int .i64 c.s, .int .i64 c.sh, .int .i64 c.p0, .int .i64 c.p1, .int .i64 c.p2, .int .i64 c.cy, .int .i64 c.ex, .int .i64 c.fi, .int .i64 c.la, .int .i64 c.po] 24)) (.cells #[.int .i64 L, .int .i64 y0, .int .i64 i0] 26)) (.cells #[.int .i64 L, .int .i64 y, .int .i64 n] 26)
  replace C := (C.alloc (.cells #[.int .i64 L, .int .i64 y0, .int .i64 i0] 26)).alloc (.cells #[.int .i64 L, .int .i64 y, .int .i64 n] 26)
  replace U := U.alloc (.cells #[.int .i64 L, .int .i64 y, .int .i64 n] 26)
  rw [World.size_alloc] at U
  rw [World.size_alloc, World.size_alloc] at V
  go_enter Tryz.func59, Tryz.ntmps59
  go_wp2
  go_ret
  exact ⟨_, _, _, by first | rfl | simp, C, U, V, B⟩

theorem collect_any (c : CalZ) (L y0 i0 y n : Int) (N : Nat) (way : UWay c L y0 i0 y n N) (bc b1 b2 : Nat) (w : World) (C : CalIn w bc c) (F1 : Tri w b1 (.int .i64 L) (.int .i64 y0) (.int .i64 i0)) (F2 : Tri w b2 (.int .i64 L) (.int .i64 y) (.int .i64 n))
    (hm : c.nm.size ≤ maxLen) (T : FTab w) :
    Calls Tryz.prog 58 #[.func (.func 101) #[] #[.pointer (some ⟨b1, 0, none⟩), .pointer (some ⟨b2, 0, none⟩), .pointer (some ⟨bc, 0, none⟩)]] w (RowOut w (ulist c L (y0, i0) (N + 1))) := by
  have ly := served_told way.u.1 way.u.2.2.1
  have ly2 := served_told way.v.1 way.v.2.2.1
  have nb := (ucount_bd (L := L) (y := y) way.u.1.1 (by omega) (by omega)).2
  have n1 := way.v.2.2.2.2
  have i1 := way.u.2.2.2.1
  have ln := way.len
  have yo := way.u.1.2.2.1.2.2.2
  have s1 := way.u.2.2.1.1
  have s2 := way.v.2.2.1.2
  refine (callsIn_wide.1 (collect_in (ulist c L (y0, i0) (N + 1)) (by rw [ulist_len]; omega) _ _ (enters_of Tryz.func101 (by kernel_rfl) rfl) w (fun w1 hb => units1_in c L y0 i0 y n N way bc b1 b2 w w1 hb C F1 F2 T 2 (by omega)
    (fun z s w T => dcount_any c L z _ w way.u.1 way.u.2.1 s rfl hm T)))).mono ?_
  rintro e w' ⟨v, rfl, ho, hn, hb⟩
  obtain ⟨g, cap, rfl, hg, _⟩ := ho.form (by rw [ulist_len]; omega)
  exact ⟨g, cap, rfl, Urow.of_owns ho (by rw [ulist_len]; omega), by omega, hb, own_cap ho⟩

theorem till_of {c : CalZ} {L a b y0 i0 y n : Int} (Da : DayA c a L L y0 i0 0) (Db : DayA c b L L y n 0) (hab : a ≤ b) : Till y n (y0, i0) := by
  obtain ⟨u, a0, a1, _, _⟩ := daya_to Da
  obtain ⟨v, b0, b1, _, _⟩ := daya_to Db
  have yu := unit_year u a0 a1
  have yv := unit_year v b0 b1
  unfold Till
  simp only
  by_cases q : y0 < y
  · exact .inl q
  by_cases q2 : y0 = y
  · subst q2
    refine .inr ⟨rfl, ?_⟩
    by_cases q3 : i0 ≤ n
    · exact q3
    · have := uend_mono (y := y0) (L := L) u.1.1 (by omega) (by omega) u.2.1 (a := n) (b := i0 - 1) (by have := v.2.2.2.1; omega) (by omega) (by have := u.2.2.2.2; omega)
      omega
  · have q4 : y ≤ y0 - 1 := by omega
    by_cases q5 : y = y0 - 1
    · rw [← q5] at yu; omega
    · have := yend_lt (c := c) u.1.1 (a := y) (b := y0 - 1) (by omega) (by omega) (by omega); omega

/-- what check, and the two look-ups, say of a span -/
def MeetsA (c : CalZ) (L a b er : Int) : Prop :=
  (¬ (CalOk c ∧ LevOk L) ∧ er = 1) ∨ (CalOk c ∧ LevOk L ∧ b < a ∧ er = 1) ∨ (CalOk c ∧ LevOk L ∧ a ≤ b ∧ er ≠ 0 ∧ DayA c a L 0 0 0 er) ∨ (CalOk c ∧ LevOk L ∧ a ≤ b ∧ er ≠ 0 ∧ (∃ y0 i0, DayA c a L L y0 i0 0) ∧ DayA c b L 0 0 0 er)

set_option maxRecDepth 100000 in
theorem Meets_ok (c : CalZ) (L a b y0 i0 y n : Int) (N : Nat) (w : World) (way : UWay c L y0 i0 y n N) (Da : DayA c a L L y0 i0 0) (Db : DayA c b L L y n 0) (hab : a ≤ b) (hm : c.nm.size ≤ maxLen) (T : FTab w) :
    Calls Tryz.prog 28 #[.agg #[.string c.nm, .int .i64 c.k, .int .i64 c.d, .int .i64 c.m, .int .i64 c.s, .int .i64 c.sh, .int .i64 c.p0, .int .i64 c.p1, .int .i64 c.p2, .int .i64 c.cy, .int .i64 c.ex, .int .i64 c.fi, .int .i64 c.la, .int .i64 c.po], .int .i64 L, .agg #[.int .i64 a, .int .i64 b]] w (UnitsTo w (ulist c L (y0, i0) (N + 1))) := by
  have C := CalIn.new w c 24
  have S := Go.Proofs.YtoeifpeiogeenaaGreatDoor.Pr.Two.new (w.alloc (.cells #[.string c.nm, .int .i64 c.k, .int .i64 c.d, .int .i64 c.m, .int .i64 c.s, .int .i64 c.sh, .int .i64 c.p0, .int .i64 c.p1, .int .i64 c.p2, .int .i64 c.cy, .int .i64 c.ex, .int .i64 c.fi, .int .i64 c.la, .int .i64 c.po] 24)) (.int .i64 a) (.int .i64 b) 43
  rw [World.size_alloc] at S
  replace C := C.alloc (.cells #[.int .i64 a, .int .i64 b] 43)
  have B := balloc (balloc (Below.refl _ w) (.cells #[.string c.nm, .int .i64 c.k, .int .i64 c.d, .int .i64 c.m, .int .i64 c.s, .int .i64 c.sh, .int .i64 c.p0, .int .i64 c.p1, .int .i64 c.p2, .int .i64 c.cy, .int .i64 c.ex, .int .i64 c.fi, .int .i64 c.la, .int .i64 c.po] 24)) (.cells #[.int .i64 a, .int .i64 b] 43)
  replace T := (T.alloc (.cells #[.string c.nm, .int .i64 c.k, .int .i64 c.d, .int .i64 c.m, .int .i64 c.s, .int .i64 c.sh, .int .i64 c.p0, .int .i64 c.p1, .int .i64 c.p2, .int .i64 c.cy, .int .i64 c.ex, .int .i64 c.fi, .int .i64 c.la, .int .i64 c.po] 24)).alloc (.cells #[.int .i64 a, .int .i64 b] 43)
  have ck := fun w T => fcheck_any c L 0 w (.inl ⟨way.u.1, way.u.2.1, rfl⟩) hm T
  have ca := fun w T => Day_any c a L L y0 i0 0 w Da hm T
  have cb := fun w T => Day_any c b L L y n 0 w Db hm T
  have col := fun bc b1 b2 w C F1 F2 T => collect_any c L y0 i0 y n N way bc b1 b2 w C F1 F2 hm T
  clear way Da Db
  go_enter Tryz.func28, Tryz.ntmps28
  go_upto_region 1 with fail
  generalize (w.alloc (.cells #[.string c.nm, .int .i64 c.k, .int .i64 c.d, .int .i64 c.m, .int .i64 c.s, .int .i64 c.sh, .int .i64 c.p0, .int .i64 c.p1, .int .i64 c.p2, .int .i64 c.cy, .int .i64 c.ex, .int .i64 c.fi, .int .i64 c.la, .int .i64 c.po] 24)).alloc (.cells #[.int .i64 a, .int .i64 b] 43) = W0 at *
  obtain ⟨_, c0, c1, c2, c3, c4, c5, c6, c7, c8, c9, c10, c11, c12, c13⟩ := id C
  obtain ⟨_, s0, s1, fs0, fs1⟩ := id S
  go_wp2_with fail
  refine (ck _ T).mono ?_
  rintro e w1 ⟨rfl, hb⟩
  replace C := C.kept hb
  replace B := bthen B hb
  replace T := T.kept hb
  replace S := S.kept hb
  clear hb c0 c1 c2 c3 c4 c5 c6 c7 c8 c9 c10 c11 c12 c13 s0 s1 fs0 fs1
  obtain ⟨_, c0, c1, c2, c3, c4, c5, c6, c7, c8, c9, c10, c11, c12, c13⟩ := id C
  obtain ⟨_, s0, s1, fs0, fs1⟩ := id S
  go_wp2_with fail
  refine (ca _ T).mono ?_
  rintro e w2 ⟨rfl, hb⟩
  replace C := C.kept hb
  replace B := bthen B hb
  replace T := T.kept hb
  replace S := S.kept hb
  clear hb c0 c1 c2 c3 c4 c5 c6 c7 c8 c9 c10 c11 c12 c13 s0 s1 fs0 fs1
  obtain ⟨_, c0, c1, c2, c3, c4, c5, c6, c7, c8, c9, c10, c11, c12, c13⟩ := id C
  obtain ⟨_, s0, s1, fs0, fs1⟩ := id S
  have U := Go.Proofs.YtoeifpeiogeenaaGreatDoor.Bx.Tri.new w2 (.int .i64 L) (.int .i64 y0) (.int .i64 i0) 26
  replace C := C.alloc (.cells #[.int .i64 L, .int .i64 y0, .int .i64 i0] 26)
  replace T := T.alloc (.cells #[.int .i64 L, .int .i64 y0, .int .i64 i0] 26)
  replace S := S.alloc (.cells #[.int .i64 L, .int .i64 y0, .int .i64 i0] 26)
  replace B := balloc B (.cells #[.int .i64 L, .int .i64 y0, .int .i64 i0] 26)
  clear c0 c1 c2 c3 c4 c5 c6 c7 c8 c9 c10 c11 c12 c13 s0 s1 fs0 fs1
  obtain ⟨_, c0, c1, c2, c3, c4, c5, c6, c7, c8, c9, c10, c11, c12, c13⟩ := id C
  obtain ⟨_, s0, s1, fs0, fs1⟩ := id S
  obtain ⟨_, u0, u1, u2, fu0, fu1, fu2⟩ := id U
  go_wp2_with fail
  refine (cb _ T).mono ?_
  rintro e w3 ⟨rfl, hb⟩
  replace C := C.kept hb
  replace B := bthen B hb
  replace T := T.kept hb
  replace S := S.kept hb
  replace U := U.kept hb
  clear hb c0 c1 c2 c3 c4 c5 c6 c7 c8 c9 c10 c11 c12 c13 s0 s1 fs0 fs1 u0 u1 u2 fu0 fu1 fu2
  obtain ⟨_, c0, c1, c2, c3, c4, c5, c6, c7, c8, c9, c10, c11, c12, c13⟩ := id C
  obtain ⟨_, s0, s1, fs0, fs1⟩ := id S
  obtain ⟨_, u0, u1, u2, fu0, fu1, fu2⟩ := id U
  have V := Go.Proofs.YtoeifpeiogeenaaGreatDoor.Bx.Tri.new w3 (.int .i64 L) (.int .i64 y) (.int .i64 n) 26
  replace C := C.alloc (.cells #[.int .i64 L, .int .i64 y, .int .i64 n] 26)
  replace T := T.alloc (.cells #[.int .i64 L, .int .i64 y, .int .i64 n] 26)
  replace S := S.alloc (.cells #[.int .i64 L, .int .i64 y, .int .i64 n] 26)
  replace U := U.alloc (.cells #[.int .i64 L, .int .i64 y, .int .i64 n] 26)
  replace B := balloc B (.cells #[.int .i64 L, .int .i64 y, .int .i64 n] 26)
  clear c0 c1 c2 c3 c4 c5 c6 c7 c8 c9 c10 c11 c12 c13 s0 s1 fs0 fs1 u0 u1 u2 fu0 fu1 fu2
  obtain ⟨_, c0, c1, c2, c3, c4, c5, c6, c7, c8, c9, c10, c11, c12, c13⟩ := id C
  obtain ⟨_, s0, s1, fs0, fs1⟩ := id S
  obtain ⟨_, u0, u1, u2, fu0, fu1, fu2⟩ := id U
  obtain ⟨_, v0, v1, v2, fv0, fv1, fv2⟩ := id V
  go_wp2_with fail
  refine (units_any c L y0 i0 y n _).mono ?_
  rintro e w5 ⟨bc, b1, b2, rfl, C5, U5, V5, hb⟩
  replace B := bthen B hb
  replace T := T.kept hb
  go_wp2_with fail
  refine (col bc b1 b2 _ C5 U5 V5 T).mono ?_
  rintro e w6 ⟨g, cap, rfl, R, hg, hb6, hcap⟩
  have sz := B.size
  replace B := bthen B hb6
  go_wp2
  go_ret2
  exact ⟨g, cap, by simp, R, by omega, B, hcap⟩

set_option maxRecDepth 100000 in
theorem Meets_er (c : CalZ) (L a b er : Int) (w : World) (R : MeetsA c L a b er) (hm : c.nm.size ≤ maxLen) (T : FTab w) :
    Calls Tryz.prog 28 #[.agg #[.string c.nm, .int .i64 c.k, .int .i64 c.d, .int .i64 c.m, .int .i64 c.s, .int .i64 c.sh, .int .i64 c.p0, .int .i64 c.p1, .int .i64 c.p2, .int .i64 c.cy, .int .i64 c.ex, .int .i64 c.fi, .int .i64 c.la, .int .i64 c.po], .int .i64 L, .agg #[.int .i64 a, .int .i64 b]] w fun e w' => e = .returned (.tuple #[.slice none 0 0, .int .i64 er]) ∧ Below w.heap.size w w' := by
  have C := CalIn.new w c 24
  have S := Go.Proofs.YtoeifpeiogeenaaGreatDoor.Pr.Two.new (w.alloc (.cells #[.string c.nm, .int .i64 c.k, .int .i64 c.d, .int .i64 c.m, .int .i64 c.s, .int .i64 c.sh, .int .i64 c.p0, .int .i64 c.p1, .int .i64 c.p2, .int .i64 c.cy, .int .i64 c.ex, .int .i64 c.fi, .int .i64 c.la, .int .i64 c.po] 24)) (.int .i64 a) (.int .i64 b) 43
  rw [World.size_alloc] at S
  replace C := C.alloc (.cells #[.int .i64 a, .int .i64 b] 43)
  have B := balloc (balloc (Below.refl _ w) (.cells #[.string c.nm, .int .i64 c.k, .int .i64 c.d, .int .i64 c.m, .int .i64 c.s, .int .i64 c.sh, .int .i64 c.p0, .int .i64 c.p1, .int .i64 c.p2, .int .i64 c.cy, .int .i64 c.ex, .int .i64 c.fi, .int .i64 c.la, .int .i64 c.po] 24)) (.cells #[.int .i64 a, .int .i64 b] 43)
  replace T := (T.alloc (.cells #[.string c.nm, .int .i64 c.k, .int .i64 c.d, .int .i64 c.m, .int .i64 c.s, .int .i64 c.sh, .int .i64 c.p0, .int .i64 c.p1, .int .i64 c.p2, .int .i64 c.cy, .int .i64 c.ex, .int .i64 c.fi, .int .i64 c.la, .int .i64 c.po] 24)).alloc (.cells #[.int .i64 a, .int .i64 b] 43)
  rcases R with ⟨no, rfl⟩ | ⟨ok, l, lt, rfl⟩ | ⟨ok, l, le, ne, Da⟩ | ⟨ok, l, le, ne, ⟨y0, i0, Da⟩, Db⟩
  · have ck := fun w T => fcheck_any c L 1 w (by
      by_cases ok : CalOk c
      · exact .inr (.inl ⟨ok, fun l => no ⟨ok, l⟩, rfl⟩)
      · exact .inr (.inr ⟨ok, rfl⟩)) hm T
    clear no
    go_enter Tryz.func28, Tryz.ntmps28
    go_upto_region 1 with fail
    generalize (w.alloc (.cells #[.string c.nm, .int .i64 c.k, .int .i64 c.d, .int .i64 c.m, .int .i64 c.s, .int .i64 c.sh, .int .i64 c.p0, .int .i64 c.p1, .int .i64 c.p2, .int .i64 c.cy, .int .i64 c.ex, .int .i64 c.fi, .int .i64 c.la, .int .i64 c.po] 24)).alloc (.cells #[.int .i64 a, .int .i64 b] 43) = W0 at *
    obtain ⟨_, c0, c1, c2, c3, c4, c5, c6, c7, c8, c9, c10, c11, c12, c13⟩ := id C
    obtain ⟨_, s0, s1, fs0, fs1⟩ := id S
    go_wp2_with fail
    refine (ck _ T).mono ?_
    rintro e w1 ⟨rfl, hb⟩
    replace C := C.kept hb
    replace B := bthen B hb
    replace T := T.kept hb
    replace S := S.kept hb
    clear hb c0 c1 c2 c3 c4 c5 c6 c7 c8 c9 c10 c11 c12 c13 s0 s1 fs0 fs1
    obtain ⟨_, c0, c1, c2, c3, c4, c5, c6, c7, c8, c9, c10, c11, c12, c13⟩ := id C
    obtain ⟨_, s0, s1, fs0, fs1⟩ := id S
    go_wp2
    go_ret2
    exact ⟨by simp, B⟩
  · have ck := fun w T => fcheck_any c L 0 w (.inl ⟨ok, l, rfl⟩) hm T
    clear ok l
    go_enter Tryz.func28, Tryz.ntmps28
    go_upto_region 1 with fail
    generalize (w.alloc (.cells #[.string c.nm, .int .i64 c.k, .int .i64 c.d, .int .i64 c.m, .int .i64 c.s, .int .i64 c.sh, .int .i64 c.p0, .int .i64 c.p1, .int .i64 c.p2, .int .i64 c.cy, .int .i64 c.ex, .int .i64 c.fi, .int .i64 c.la, .int .i64 c.po] 24)).alloc (.cells #[.int .i64 a, .int .i64 b] 43) = W0 at *
    obtain ⟨_, c0, c1, c2, c3, c4, c5, c6, c7, c8, c9, c10, c11, c12, c13⟩ := id C
    obtain ⟨_, s0, s1, fs0, fs1⟩ := id S
    go_wp2_with fail
    refine (ck _ T).mono ?_
    rintro e w2 ⟨rfl, hb⟩
    replace C := C.kept hb
    replace B := bthen B hb
    replace T := T.kept hb
    replace S := S.kept hb
    clear hb c0 c1 c2 c3 c4 c5 c6 c7 c8 c9 c10 c11 c12 c13 s0 s1 fs0 fs1
    obtain ⟨_, c0, c1, c2, c3, c4, c5, c6, c7, c8, c9, c10, c11, c12, c13⟩ := id C
    obtain ⟨_, s0, s1, fs0, fs1⟩ := id S
    go_wp2
    go_ret2
    exact ⟨by simp, B⟩
  · have ck := fun w T => fcheck_any c L 0 w (.inl ⟨ok, l, rfl⟩) hm T
    have ca := fun w T => Day_any c a L 0 0 0 er w Da hm T
    have n1 : (er != 0) = true := bne_iff_ne.2 ne
    clear ok l ne Da
    go_enter Tryz.func28, Tryz.ntmps28
    go_upto_region 1 with fail
    generalize (w.alloc (.cells #[.string c.nm, .int .i64 c.k, .int .i64 c.d, .int .i64 c.m, .int .i64 c.s, .int .i64 c.sh, .int .i64 c.p0, .int .i64 c.p1, .int .i64 c.p2, .int .i64 c.cy, .int .i64 c.ex, .int .i64 c.fi, .int .i64 c.la, .int .i64 c.po] 24)).alloc (.cells #[.int .i64 a, .int .i64 b] 43) = W0 at *
    obtain ⟨_, c0, c1, c2, c3, c4, c5, c6, c7, c8, c9, c10, c11, c12, c13⟩ := id C
    obtain ⟨_, s0, s1, fs0, fs1⟩ := id S
    go_wp2_with fail
    refine (ck _ T).mono ?_
    rintro e w3 ⟨rfl, hb⟩
    replace C := C.kept hb
    replace B := bthen B hb
    replace T := T.kept hb
    replace S := S.kept hb
    clear hb c0 c1 c2 c3 c4 c5 c6 c7 c8 c9 c10 c11 c12 c13 s0 s1 fs0 fs1
    obtain ⟨_, c0, c1, c2, c3, c4, c5, c6, c7, c8, c9, c10, c11, c12, c13⟩ := id C
    obtain ⟨_, s0, s1, fs0, fs1⟩ := id S
    go_wp2_with fail
    refine (ca _ T).mono ?_
    rintro e w4 ⟨rfl, hb⟩
    replace C := C.kept hb
    replace B := bthen B hb
    replace T := T.kept hb
    replace S := S.kept hb
    clear hb c0 c1 c2 c3 c4 c5 c6 c7 c8 c9 c10 c11 c12 c13 s0 s1 fs0 fs1
    obtain ⟨_, c0, c1, c2, c3, c4, c5, c6, c7, c8, c9, c10, c11, c12, c13⟩ := id C
    obtain ⟨_, s0, s1, fs0, fs1⟩ := id S
    go_wp2
    go_ret2
    exact ⟨by simp, balloc B _⟩
  · have ck := fun w T => fcheck_any c L 0 w (.inl ⟨ok, l, rfl⟩) hm T
    have ca := fun w T => Day_any c a L L y0 i0 0 w Da hm T
    have cb := fun w T => Day_any c b L 0 0 0 er w Db hm T
    have n1 : (er != 0) = true := bne_iff_ne.2 ne
    clear ok l ne Da Db
    go_enter Tryz.func28, Tryz.ntmps28
    go_upto_region 1 with fail
    generalize (w.alloc (.cells #[.string c.nm, .int .i64 c.k, .int .i64 c.d, .int .i64 c.m, .int .i64 c.s, .int .i64 c.sh, .int .i64 c.p0, .int .i64 c.p1, .int .i64 c.p2, .int .i64 c.cy, .int .i64 c.ex, .int .i64 c.fi, .int .i64 c.la, .int .i64 c.po] 24)).alloc (.cells #[.int .i64 a, .int .i64 b] 43) = W0 at *
    obtain ⟨_, c0, c1, c2, c3, c4, c5, c6, c7, c8, c9, c10, c11, c12, c13⟩ := id C
    obtain ⟨_, s0, s1, fs0, fs1⟩ := id S
    go_wp2_with fail
    refine (ck _ T).mono ?_
    rintro e w5 ⟨rfl, hb⟩
    replace C := C.kept hb
    replace B := bthen B hb
    replace T := T.kept hb
    replace S := S.kept hb
    clear hb c0 c1 c2 c3 c4 c5 c6 c7 c8 c9 c10 c11 c12 c13 s0 s1 fs0 fs1
    obtain ⟨_, c0, c1, c2, c3, c4, c5, c6, c7, c8, c9, c10, c11, c12, c13⟩ := id C
    obtain ⟨_, s0, s1, fs0, fs1⟩ := id S
    go_wp2_with fail
    refine (ca _ T).mono ?_
    rintro e w6 ⟨rfl, hb⟩
    replace C := C.kept hb
    replace B := bthen B hb
    replace T := T.kept hb
    replace S := S.kept hb
    clear hb c0 c1 c2 c3 c4 c5 c6 c7 c8 c9 c10 c11 c12 c13 s0 s1 fs0 fs1
    obtain ⟨_, c0, c1, c2, c3, c4, c5, c6, c7, c8, c9, c10, c11, c12, c13⟩ := id C
    obtain ⟨_, s0, s1, fs0, fs1⟩ := id S
    have U := Go.Proofs.YtoeifpeiogeenaaGreatDoor.Bx.Tri.new w6 (.int .i64 L) (.int .i64 y0) (.int .i64 i0) 26
    replace C := C.alloc (.cells #[.int .i64 L, .int .i64 y0, .int .i64 i0] 26)
    replace T := T.alloc (.cells #[.int .i64 L, .int .i64 y0, .int .i64 i0] 26)
    replace S := S.alloc (.cells #[.int .i64 L, .int .i64 y0, .int .i64 i0] 26)
    replace B := balloc B (.cells #[.int .i64 L, .int .i64 y0, .int .i64 i0] 26)
    clear c0 c1 c2 c3 c4 c5 c6 c7 c8 c9 c10 c11 c12 c13 s0 s1 fs0 fs1
    obtain ⟨_, c0, c1, c2, c3, c4, c5, c6, c7, c8, c9, c10, c11, c12, c13⟩ := id C
    obtain ⟨_, s0, s1, fs0, fs1⟩ := id S
    obtain ⟨_, u0, u1, u2, fu0, fu1, fu2⟩ := id U
    go_wp2_with fail
    refine (cb _ T).mono ?_
    rintro e w7 ⟨rfl, hb⟩
    replace C := C.kept hb
    replace B := bthen B hb
    replace T := T.kept hb
    replace S := S.kept hb
    replace U := U.kept hb
    clear hb c0 c1 c2 c3 c4 c5 c6 c7 c8 c9 c10 c11 c12 c13 s0 s1 fs0 fs1 u0 u1 u2 fu0 fu1 fu2
    obtain ⟨_, c0, c1, c2, c3, c4, c5, c6, c7, c8, c9, c10, c11, c12, c13⟩ := id C
    obtain ⟨_, s0, s1, fs0, fs1⟩ := id S
    obtain ⟨_, u0, u1, u2, fu0, fu1, fu2⟩ := id U
    go_wp2
    go_ret2
    exact ⟨by simp, balloc B _⟩

end Go.Proofs.YtoeifpeiogeenaaGreatDoor.Dp
