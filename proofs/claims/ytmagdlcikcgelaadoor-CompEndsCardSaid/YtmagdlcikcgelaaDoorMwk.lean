/- What Week of package comp comes to. -/
import Derived.Test.YtmagdlcikcgelaaDoorMweek
namespace Go.Proofs.YtmagdlcikcgelaaDoor.Mp
set_option linter.unusedSimpArgs false
set_option linter.unusedVariables false
open Go.RowKit Go.Maps Go.Proofs.YtmagdlcikcgelaaDoor.Bn Go.Proofs.YtmagdlcikcgelaaDoor.Bx Go.Proofs.YtmagdlcikcgelaaDoor.Cp Go.Proofs.YtmagdlcikcgelaaDoor.Am Go.Proofs.YtmagdlcikcgelaaDoor.Fp Go.Proofs.YtmagdlcikcgelaaDoor.Ap Go.Proofs.YtmagdlcikcgelaaDoor.Cm Go.Proofs.YtmagdlcikcgelaaDoor.Em Go.Proofs.YtmagdlcikcgelaaDoor.Ep Go.Proofs.YtmagdlcikcgelaaDoor.Rk Go.Proofs.YtmagdlcikcgelaaDoor.Hp Go.Proofs.YtmagdlcikcgelaaDoor.Dp

set_option maxHeartbeats 16000000

theorem polD_1 (s : Nat) : (polD s).atKey (.int .i64 1) (.held .nilFunc) = .held pol1V := by rfl
theorem polD_2 (s : Nat) : (polD s).atKey (.int .i64 2) (.held .nilFunc) = .held (pol2V s) := by rfl
theorem polD_3 (s : Nat) : (polD s).atKey (.int .i64 3) (.held .nilFunc) = .held (pol3V s) := by rfl
theorem cweek_er {c : CalZ} {y t w v er : Int} (h : CWeekA c y t w v er) (k : er ≠ 0) : v = 0 ∧ (er = 1 ∨ er = 11 ∨ er = 12 ∨ er = 13) := by
  rcases h with ⟨_, _, _, _, _, _, p⟩ | ⟨_, _, _, h1, h2⟩ | ⟨_, _, _, _, _, h1, h2⟩ | ⟨_, _, h1, h2⟩ | ⟨_, h1, h2⟩
  · rcases pola_er p with h | ⟨h, h0, _⟩
    · exact absurd h k
    · exact ⟨h0, by omega⟩
  all_goals exact ⟨h1, by omega⟩

set_option maxRecDepth 100000 in
theorem week_1 (c : CalZ) (y t x v : Int) (hv : v = x) (w : World) (ok : CalOk c) (k6 : c.k ≠ 6) (sy : Served c y) (st : Served c t) (x0 : 1 ≤ x) (x1 : x ≤ nweeks c y) (po : c.po = 1) (hm : c.nm.size ≤ maxLen) (T : FTab w) :
    Calls Tryd.prog 56 #[.agg #[.string c.nm, .int .i64 c.k, .int .i64 c.d, .int .i64 c.m, .int .i64 c.s, .int .i64 c.sh, .int .i64 c.p0, .int .i64 c.p1, .int .i64 c.p2, .int .i64 c.cy, .int .i64 c.ex, .int .i64 c.fi, .int .i64 c.la, .int .i64 c.po], .int .i64 y, .int .i64 t, .int .i64 x] w fun e w' => e = .returned (.tuple #[.int .i64 v, .int .i64 0]) ∧ Below w.heap.size w w' := by
  have C := CalIn.new w c 24
  have B := balloc (Below.refl _ w) (.cells #[.string c.nm, .int .i64 c.k, .int .i64 c.d, .int .i64 c.m, .int .i64 c.s, .int .i64 c.sh, .int .i64 c.p0, .int .i64 c.p1, .int .i64 c.p2, .int .i64 c.cy, .int .i64 c.ex, .int .i64 c.fi, .int .i64 c.la, .int .i64 c.po] 24)
  replace T := T.alloc (.cells #[.string c.nm, .int .i64 c.k, .int .i64 c.d, .int .i64 c.m, .int .i64 c.s, .int .i64 c.sh, .int .i64 c.p0, .int .i64 c.p1, .int .i64 c.p2, .int .i64 c.cy, .int .i64 c.ex, .int .i64 c.fi, .int .i64 c.la, .int .i64 c.po] 24)
  have ck := fun w T => Check_any c 0 w (.inl ⟨ok, rfl⟩) hm T
  have cy := fun w => isServed_any c y true w (decide_eq_true sy).symm
  have ct := fun w => isServed_any c t true w (decide_eq_true st).symm
  have by' := served_told ok sy
  have bt := served_told ok st
  have d6 : (c.k == 6) = false := beq_eq_false_iff_ne.2 k6
  obtain ⟨n, hn⟩ : ∃ n, n = nweeks c y := ⟨_, rfl⟩
  obtain ⟨m, hm'⟩ : ∃ m, m = nweeks c t := ⟨_, rfl⟩
  have nb := (nweeks_01 ok.1 k6 (y := y) (by omega) (by omega)).1
  have cn := fun w T => weeksOf_any c y n w ok k6 (by omega) (by omega) hn hm T
  have cp := fun w => policies_any c y t w
  rw [← hn] at x1 nb
  have x2 : x ≤ 60 := by omega
  have hpo := Lib.hid po
  have q1 := fun w => pol1_any x w
  subst hv
  clear po ok k6 sy st hn hm' nb by' bt
  go_enter Tryd.func56, Tryd.ntmps56
  go_upto_region 1 with fail
  generalize w.alloc (.cells #[.string c.nm, .int .i64 c.k, .int .i64 c.d, .int .i64 c.m, .int .i64 c.s, .int .i64 c.sh, .int .i64 c.p0, .int .i64 c.p1, .int .i64 c.p2, .int .i64 c.cy, .int .i64 c.ex, .int .i64 c.fi, .int .i64 c.la, .int .i64 c.po] 24) = W0 at *
  obtain ⟨_, c0, c1, c2, c3, c4, c5, c6, c7, c8, c9, c10, c11, c12, c13⟩ := id C
  go_wp2_with fail
  refine (ck _ T).mono ?_
  rintro e w1 ⟨rfl, hb⟩
  replace C := C.kept hb
  replace B := bthen B hb
  replace T := T.kept hb
  clear hb c0 c1 c2 c3 c4 c5 c6 c7 c8 c9 c10 c11 c12 c13
  obtain ⟨_, c0, c1, c2, c3, c4, c5, c6, c7, c8, c9, c10, c11, c12, c13⟩ := id C
  go_wp2_with fail
  refine (cy _).mono ?_
  rintro e w2 ⟨rfl, hb⟩
  replace C := C.kept hb
  replace B := bthen B hb
  replace T := T.kept hb
  clear hb c0 c1 c2 c3 c4 c5 c6 c7 c8 c9 c10 c11 c12 c13
  obtain ⟨_, c0, c1, c2, c3, c4, c5, c6, c7, c8, c9, c10, c11, c12, c13⟩ := id C
  go_wp2_with fail
  refine (ct _).mono ?_
  rintro e w3 ⟨rfl, hb⟩
  replace C := C.kept hb
  replace B := bthen B hb
  replace T := T.kept hb
  clear hb c0 c1 c2 c3 c4 c5 c6 c7 c8 c9 c10 c11 c12 c13
  obtain ⟨_, c0, c1, c2, c3, c4, c5, c6, c7, c8, c9, c10, c11, c12, c13⟩ := id C
  go_wp2_with fail
  refine (cn _ T).mono ?_
  rintro e w4 ⟨rfl, hb⟩
  replace C := C.kept hb
  replace B := bthen B hb
  replace T := T.kept hb
  clear hb c0 c1 c2 c3 c4 c5 c6 c7 c8 c9 c10 c11 c12 c13
  obtain ⟨_, c0, c1, c2, c3, c4, c5, c6, c7, c8, c9, c10, c11, c12, c13⟩ := id C
  go_upto_region 10 with fail
  go_region_with (first
    | (go_at_call 91; refine (cp _).mono ?_; rintro e w30 ⟨m9, rfl, P9, C9, Y9, Z9, hb⟩; have hb' := bthen (show Below w4.heap.size w4 _ from by first | exact Below.refl _ _ | exact (Below.refl _ _).drew | exact ((Below.refl _ _).drew).drew) hb; have Ck := C.kept hb'; have T9 := T.kept hb'; have l9 := P9.look c.po pol1V (by rw [hpo.out]; decide) (by rw [hpo.out]; exact polD_1 _); unfold pol1V at l9; obtain ⟨_, k0, k1, k2, k3, k4, k5, k6, k7, k8, k9, k10, k11, k12, k13⟩ := id Ck)
    | (go_at_call 108; refine (q1 _).mono ?_; rintro e w31 ⟨rfl, hb2⟩))
  all_goals
    go_wp2
    go_ret2
    exact ⟨rfl, bthen (bthen B hb') hb2⟩

set_option maxRecDepth 100000 in
theorem week_2 (c : CalZ) (y t x v : Int) (hv : v = x + nweeks c t - nweeks c y) (w : World) (ok : CalOk c) (k6 : c.k ≠ 6) (sy : Served c y) (st : Served c t) (x0 : 1 ≤ x) (x1 : x ≤ nweeks c y) (po : c.po = 2) (hm : c.nm.size ≤ maxLen) (T : FTab w) :
    Calls Tryd.prog 56 #[.agg #[.string c.nm, .int .i64 c.k, .int .i64 c.d, .int .i64 c.m, .int .i64 c.s, .int .i64 c.sh, .int .i64 c.p0, .int .i64 c.p1, .int .i64 c.p2, .int .i64 c.cy, .int .i64 c.ex, .int .i64 c.fi, .int .i64 c.la, .int .i64 c.po], .int .i64 y, .int .i64 t, .int .i64 x] w fun e w' => e = .returned (.tuple #[.int .i64 v, .int .i64 0]) ∧ Below w.heap.size w w' := by
  have C := CalIn.new w c 24
  have B := balloc (Below.refl _ w) (.cells #[.string c.nm, .int .i64 c.k, .int .i64 c.d, .int .i64 c.m, .int .i64 c.s, .int .i64 c.sh, .int .i64 c.p0, .int .i64 c.p1, .int .i64 c.p2, .int .i64 c.cy, .int .i64 c.ex, .int .i64 c.fi, .int .i64 c.la, .int .i64 c.po] 24)
  replace T := T.alloc (.cells #[.string c.nm, .int .i64 c.k, .int .i64 c.d, .int .i64 c.m, .int .i64 c.s, .int .i64 c.sh, .int .i64 c.p0, .int .i64 c.p1, .int .i64 c.p2, .int .i64 c.cy, .int .i64 c.ex, .int .i64 c.fi, .int .i64 c.la, .int .i64 c.po] 24)
  have ck := fun w T => Check_any c 0 w (.inl ⟨ok, rfl⟩) hm T
  have cy := fun w => isServed_any c y true w (decide_eq_true sy).symm
  have ct := fun w => isServed_any c t true w (decide_eq_true st).symm
  have by' := served_told ok sy
  have bt := served_told ok st
  have d6 : (c.k == 6) = false := beq_eq_false_iff_ne.2 k6
  obtain ⟨n, hn⟩ : ∃ n, n = nweeks c y := ⟨_, rfl⟩
  obtain ⟨m, hm'⟩ : ∃ m, m = nweeks c t := ⟨_, rfl⟩
  have nb := (nweeks_01 ok.1 k6 (y := y) (by omega) (by omega)).1
  have cn := fun w T => weeksOf_any c y n w ok k6 (by omega) (by omega) hn hm T
  have cp := fun w => policies_any c y t w
  rw [← hn] at x1 nb
  have x2 : x ≤ 60 := by omega
  have hpo := Lib.hid po
  have q2 := fun w (b : Nat) T => fun (b1 b2 b3 : Nat) C h2 h3 => pol2_any c y t x n m b1 b2 b3 w ok k6 (by omega) (by omega) (by omega) (by omega) (by omega) x2 hn hm' C h2 h3 hm T
  rw [← hn, ← hm'] at hv
  subst hv
  clear po ok k6 sy st hn hm' nb by' bt
  go_enter Tryd.func56, Tryd.ntmps56
  go_upto_region 1 with fail
  generalize w.alloc (.cells #[.string c.nm, .int .i64 c.k, .int .i64 c.d, .int .i64 c.m, .int .i64 c.s, .int .i64 c.sh, .int .i64 c.p0, .int .i64 c.p1, .int .i64 c.p2, .int .i64 c.cy, .int .i64 c.ex, .int .i64 c.fi, .int .i64 c.la, .int .i64 c.po] 24) = W0 at *
  obtain ⟨_, c0, c1, c2, c3, c4, c5, c6, c7, c8, c9, c10, c11, c12, c13⟩ := id C
  go_wp2_with fail
  refine (ck _ T).mono ?_
  rintro e w1 ⟨rfl, hb⟩
  replace C := C.kept hb
  replace B := bthen B hb
  replace T := T.kept hb
  clear hb c0 c1 c2 c3 c4 c5 c6 c7 c8 c9 c10 c11 c12 c13
  obtain ⟨_, c0, c1, c2, c3, c4, c5, c6, c7, c8, c9, c10, c11, c12, c13⟩ := id C
  go_wp2_with fail
  refine (cy _).mono ?_
  rintro e w2 ⟨rfl, hb⟩
  replace C := C.kept hb
  replace B := bthen B hb
  replace T := T.kept hb
  clear hb c0 c1 c2 c3 c4 c5 c6 c7 c8 c9 c10 c11 c12 c13
  obtain ⟨_, c0, c1, c2, c3, c4, c5, c6, c7, c8, c9, c10, c11, c12, c13⟩ := id C
  go_wp2_with fail
  refine (ct _).mono ?_
  rintro e w3 ⟨rfl, hb⟩
  replace C := C.kept hb
  replace B := bthen B hb
  replace T := T.kept hb
  clear hb c0 c1 c2 c3 c4 c5 c6 c7 c8 c9 c10 c11 c12 c13
  obtain ⟨_, c0, c1, c2, c3, c4, c5, c6, c7, c8, c9, c10, c11, c12, c13⟩ := id C
  go_wp2_with fail
  refine (cn _ T).mono ?_
  rintro e w4 ⟨rfl, hb⟩
  replace C := C.kept hb
  replace B := bthen B hb
  replace T := T.kept hb
  clear hb c0 c1 c2 c3 c4 c5 c6 c7 c8 c9 c10 c11 c12 c13
  obtain ⟨_, c0, c1, c2, c3, c4, c5, c6, c7, c8, c9, c10, c11, c12, c13⟩ := id C
  go_upto_region 10 with fail
  go_region_with (first
    | (go_at_call 91; refine (cp _).mono ?_; rintro e w30 ⟨m9, rfl, P9, C9, Y9, Z9, hb⟩; have hb' := bthen (show Below w4.heap.size w4 _ from by first | exact Below.refl _ _ | exact (Below.refl _ _).drew | exact ((Below.refl _ _).drew).drew) hb; have Ck := C.kept hb'; have T9 := T.kept hb'; have l9 := P9.look c.po (pol2V _) (by rw [hpo.out]; decide) (by rw [hpo.out]; exact polD_2 _); unfold pol2V at l9; obtain ⟨_, k0, k1, k2, k3, k4, k5, k6, k7, k8, k9, k10, k11, k12, k13⟩ := id Ck)
    | (go_at_call 109; refine (q2 _ 0 T9 _ _ _ C9 Z9.c Y9.c).mono ?_; rintro e w31 ⟨rfl, hb2⟩))
  all_goals
    go_wp2
    go_ret2
    exact ⟨rfl, bthen (bthen B hb') hb2⟩

set_option maxRecDepth 100000 in
theorem week_3 (c : CalZ) (y t x v : Int) (er : Int) (D : DropA x (addw c y) (addw c t) v er) (w : World) (ok : CalOk c) (k6 : c.k ≠ 6) (sy : Served c y) (st : Served c t) (x0 : 1 ≤ x) (x1 : x ≤ nweeks c y) (po : c.po = 3) (hm : c.nm.size ≤ maxLen) (T : FTab w) :
    Calls Tryd.prog 56 #[.agg #[.string c.nm, .int .i64 c.k, .int .i64 c.d, .int .i64 c.m, .int .i64 c.s, .int .i64 c.sh, .int .i64 c.p0, .int .i64 c.p1, .int .i64 c.p2, .int .i64 c.cy, .int .i64 c.ex, .int .i64 c.fi, .int .i64 c.la, .int .i64 c.po], .int .i64 y, .int .i64 t, .int .i64 x] w fun e w' => e = .returned (.tuple #[.int .i64 v, .int .i64 er]) ∧ Below w.heap.size w w' := by
  have C := CalIn.new w c 24
  have B := balloc (Below.refl _ w) (.cells #[.string c.nm, .int .i64 c.k, .int .i64 c.d, .int .i64 c.m, .int .i64 c.s, .int .i64 c.sh, .int .i64 c.p0, .int .i64 c.p1, .int .i64 c.p2, .int .i64 c.cy, .int .i64 c.ex, .int .i64 c.fi, .int .i64 c.la, .int .i64 c.po] 24)
  replace T := T.alloc (.cells #[.string c.nm, .int .i64 c.k, .int .i64 c.d, .int .i64 c.m, .int .i64 c.s, .int .i64 c.sh, .int .i64 c.p0, .int .i64 c.p1, .int .i64 c.p2, .int .i64 c.cy, .int .i64 c.ex, .int .i64 c.fi, .int .i64 c.la, .int .i64 c.po] 24)
  have ck := fun w T => Check_any c 0 w (.inl ⟨ok, rfl⟩) hm T
  have cy := fun w => isServed_any c y true w (decide_eq_true sy).symm
  have ct := fun w => isServed_any c t true w (decide_eq_true st).symm
  have by' := served_told ok sy
  have bt := served_told ok st
  have d6 : (c.k == 6) = false := beq_eq_false_iff_ne.2 k6
  obtain ⟨n, hn⟩ : ∃ n, n = nweeks c y := ⟨_, rfl⟩
  obtain ⟨m, hm'⟩ : ∃ m, m = nweeks c t := ⟨_, rfl⟩
  have nb := (nweeks_01 ok.1 k6 (y := y) (by omega) (by omega)).1
  have cn := fun w T => weeksOf_any c y n w ok k6 (by omega) (by omega) hn hm T
  have cp := fun w => policies_any c y t w
  rw [← hn] at x1 nb
  have x2 : x ≤ 60 := by omega
  have hpo := Lib.hid po
  have q3 := fun w (b : Nat) T => fun (b1 b2 b3 : Nat) C h2 h3 => pol3_any c y t x (addw c y) (addw c t) v er b1 b2 b3 w ok k6 (by omega) (by omega) (by omega) (by omega) (by omega) x2 rfl rfl D C h2 h3 hm T
  clear D
  clear po ok k6 sy st hn hm' nb by' bt
  go_enter Tryd.func56, Tryd.ntmps56
  go_upto_region 1 with fail
  generalize w.alloc (.cells #[.string c.nm, .int .i64 c.k, .int .i64 c.d, .int .i64 c.m, .int .i64 c.s, .int .i64 c.sh, .int .i64 c.p0, .int .i64 c.p1, .int .i64 c.p2, .int .i64 c.cy, .int .i64 c.ex, .int .i64 c.fi, .int .i64 c.la, .int .i64 c.po] 24) = W0 at *
  obtain ⟨_, c0, c1, c2, c3, c4, c5, c6, c7, c8, c9, c10, c11, c12, c13⟩ := id C
  go_wp2_with fail
  refine (ck _ T).mono ?_
  rintro e w1 ⟨rfl, hb⟩
  replace C := C.kept hb
  replace B := bthen B hb
  replace T := T.kept hb
  clear hb c0 c1 c2 c3 c4 c5 c6 c7 c8 c9 c10 c11 c12 c13
  obtain ⟨_, c0, c1, c2, c3, c4, c5, c6, c7, c8, c9, c10, c11, c12, c13⟩ := id C
  go_wp2_with fail
  refine (cy _).mono ?_
  rintro e w2 ⟨rfl, hb⟩
  replace C := C.kept hb
  replace B := bthen B hb
  replace T := T.kept hb
  clear hb c0 c1 c2 c3 c4 c5 c6 c7 c8 c9 c10 c11 c12 c13
  obtain ⟨_, c0, c1, c2, c3, c4, c5, c6, c7, c8, c9, c10, c11, c12, c13⟩ := id C
  go_wp2_with fail
  refine (ct _).mono ?_
  rintro e w3 ⟨rfl, hb⟩
  replace C := C.kept hb
  replace B := bthen B hb
  replace T := T.kept hb
  clear hb c0 c1 c2 c3 c4 c5 c6 c7 c8 c9 c10 c11 c12 c13
  obtain ⟨_, c0, c1, c2, c3, c4, c5, c6, c7, c8, c9, c10, c11, c12, c13⟩ := id C
  go_wp2_with fail
  refine (cn _ T).mono ?_
  rintro e w4 ⟨rfl, hb⟩
  replace C := C.kept hb
  replace B := bthen B hb
  replace T := T.kept hb
  clear hb c0 c1 c2 c3 c4 c5 c6 c7 c8 c9 c10 c11 c12 c13
  obtain ⟨_, c0, c1, c2, c3, c4, c5, c6, c7, c8, c9, c10, c11, c12, c13⟩ := id C
  go_upto_region 10 with fail
  go_region_with (first
    | (go_at_call 91; refine (cp _).mono ?_; rintro e w30 ⟨m9, rfl, P9, C9, Y9, Z9, hb⟩; have hb' := bthen (show Below w4.heap.size w4 _ from by first | exact Below.refl _ _ | exact (Below.refl _ _).drew | exact ((Below.refl _ _).drew).drew) hb; have Ck := C.kept hb'; have T9 := T.kept hb'; have l9 := P9.look c.po (pol3V _) (by rw [hpo.out]; decide) (by rw [hpo.out]; exact polD_3 _); unfold pol3V at l9; obtain ⟨_, k0, k1, k2, k3, k4, k5, k6, k7, k8, k9, k10, k11, k12, k13⟩ := id Ck)
    | (go_at_call 110; refine (q3 _ 0 T9 _ _ _ C9 Y9.c Z9.c).mono ?_; rintro e w31 ⟨rfl, hb2⟩))
  all_goals
    go_wp2
    go_ret2
    exact ⟨rfl, bthen (bthen B hb') hb2⟩

set_option maxRecDepth 100000 in
theorem week_ns (c : CalZ) (y t x : Int) (w : World) (ok : CalOk c) (k6 : c.k ≠ 6) (ns : ¬ (Served c y ∧ Served c t)) (hm : c.nm.size ≤ maxLen) (T : FTab w) :
    Calls Tryd.prog 56 #[.agg #[.string c.nm, .int .i64 c.k, .int .i64 c.d, .int .i64 c.m, .int .i64 c.s, .int .i64 c.sh, .int .i64 c.p0, .int .i64 c.p1, .int .i64 c.p2, .int .i64 c.cy, .int .i64 c.ex, .int .i64 c.fi, .int .i64 c.la, .int .i64 c.po], .int .i64 y, .int .i64 t, .int .i64 x] w fun e w' => e = .returned (.tuple #[.int .i64 0, .int .i64 11]) ∧ Below w.heap.size w w' := by
  have C := CalIn.new w c 24
  have B := balloc (Below.refl _ w) (.cells #[.string c.nm, .int .i64 c.k, .int .i64 c.d, .int .i64 c.m, .int .i64 c.s, .int .i64 c.sh, .int .i64 c.p0, .int .i64 c.p1, .int .i64 c.p2, .int .i64 c.cy, .int .i64 c.ex, .int .i64 c.fi, .int .i64 c.la, .int .i64 c.po] 24)
  replace T := T.alloc (.cells #[.string c.nm, .int .i64 c.k, .int .i64 c.d, .int .i64 c.m, .int .i64 c.s, .int .i64 c.sh, .int .i64 c.p0, .int .i64 c.p1, .int .i64 c.p2, .int .i64 c.cy, .int .i64 c.ex, .int .i64 c.fi, .int .i64 c.la, .int .i64 c.po] 24)
  have ck := fun w T => Check_any c 0 w (.inl ⟨ok, rfl⟩) hm T
  have d6 : (c.k == 6) = false := beq_eq_false_iff_ne.2 k6
  by_cases sy : Served c y
  · have st : ¬ Served c t := fun q => ns ⟨sy, q⟩
    have cy := fun w => isServed_any c y true w (decide_eq_true sy).symm
    have ct := fun w => isServed_any c t false w (decide_eq_false st).symm
    clear ok k6 ns sy st
    go_enter Tryd.func56, Tryd.ntmps56
    go_upto_region 1 with fail
    generalize w.alloc (.cells #[.string c.nm, .int .i64 c.k, .int .i64 c.d, .int .i64 c.m, .int .i64 c.s, .int .i64 c.sh, .int .i64 c.p0, .int .i64 c.p1, .int .i64 c.p2, .int .i64 c.cy, .int .i64 c.ex, .int .i64 c.fi, .int .i64 c.la, .int .i64 c.po] 24) = W0 at *
    obtain ⟨_, c0, c1, c2, c3, c4, c5, c6, c7, c8, c9, c10, c11, c12, c13⟩ := id C
    go_wp2_with fail
    refine (ck _ T).mono ?_
    rintro e w1 ⟨rfl, hb⟩
    replace C := C.kept hb
    replace B := bthen B hb
    replace T := T.kept hb
    clear hb c0 c1 c2 c3 c4 c5 c6 c7 c8 c9 c10 c11 c12 c13
    obtain ⟨_, c0, c1, c2, c3, c4, c5, c6, c7, c8, c9, c10, c11, c12, c13⟩ := id C
    go_wp2_with fail
    refine (cy _).mono ?_
    rintro e w2 ⟨rfl, hb⟩
    replace C := C.kept hb
    replace B := bthen B hb
    replace T := T.kept hb
    clear hb c0 c1 c2 c3 c4 c5 c6 c7 c8 c9 c10 c11 c12 c13
    obtain ⟨_, c0, c1, c2, c3, c4, c5, c6, c7, c8, c9, c10, c11, c12, c13⟩ := id C
    go_wp2_with fail
    refine (ct _).mono ?_
    rintro e w3 ⟨rfl, hb⟩
    replace C := C.kept hb
    replace B := bthen B hb
    replace T := T.kept hb
    clear hb c0 c1 c2 c3 c4 c5 c6 c7 c8 c9 c10 c11 c12 c13
    obtain ⟨_, c0, c1, c2, c3, c4, c5, c6, c7, c8, c9, c10, c11, c12, c13⟩ := id C
    go_wp2
    go_ret2
    exact ⟨rfl, B⟩
  · have cy := fun w => isServed_any c y false w (decide_eq_false sy).symm
    clear ok k6 ns sy
    go_enter Tryd.func56, Tryd.ntmps56
    go_upto_region 1 with fail
    generalize w.alloc (.cells #[.string c.nm, .int .i64 c.k, .int .i64 c.d, .int .i64 c.m, .int .i64 c.s, .int .i64 c.sh, .int .i64 c.p0, .int .i64 c.p1, .int .i64 c.p2, .int .i64 c.cy, .int .i64 c.ex, .int .i64 c.fi, .int .i64 c.la, .int .i64 c.po] 24) = W0 at *
    obtain ⟨_, c0, c1, c2, c3, c4, c5, c6, c7, c8, c9, c10, c11, c12, c13⟩ := id C
    go_wp2_with fail
    refine (ck _ T).mono ?_
    rintro e w4 ⟨rfl, hb⟩
    replace C := C.kept hb
    replace B := bthen B hb
    replace T := T.kept hb
    clear hb c0 c1 c2 c3 c4 c5 c6 c7 c8 c9 c10 c11 c12 c13
    obtain ⟨_, c0, c1, c2, c3, c4, c5, c6, c7, c8, c9, c10, c11, c12, c13⟩ := id C
    go_wp2_with fail
    refine (cy _).mono ?_
    rintro e w5 ⟨rfl, hb⟩
    replace C := C.kept hb
    replace B := bthen B hb
    replace T := T.kept hb
    clear hb c0 c1 c2 c3 c4 c5 c6 c7 c8 c9 c10 c11 c12 c13
    obtain ⟨_, c0, c1, c2, c3, c4, c5, c6, c7, c8, c9, c10, c11, c12, c13⟩ := id C
    go_wp2
    go_ret2
    exact ⟨rfl, B⟩

set_option maxRecDepth 100000 in
theorem week_nx (c : CalZ) (y t x : Int) (w : World) (ok : CalOk c) (k6 : c.k ≠ 6) (sy : Served c y) (st : Served c t) (nx : ¬ (1 ≤ x ∧ x ≤ nweeks c y)) (hm : c.nm.size ≤ maxLen) (T : FTab w) :
    Calls Tryd.prog 56 #[.agg #[.string c.nm, .int .i64 c.k, .int .i64 c.d, .int .i64 c.m, .int .i64 c.s, .int .i64 c.sh, .int .i64 c.p0, .int .i64 c.p1, .int .i64 c.p2, .int .i64 c.cy, .int .i64 c.ex, .int .i64 c.fi, .int .i64 c.la, .int .i64 c.po], .int .i64 y, .int .i64 t, .int .i64 x] w fun e w' => e = .returned (.tuple #[.int .i64 0, .int .i64 13]) ∧ Below w.heap.size w w' := by
  have C := CalIn.new w c 24
  have B := balloc (Below.refl _ w) (.cells #[.string c.nm, .int .i64 c.k, .int .i64 c.d, .int .i64 c.m, .int .i64 c.s, .int .i64 c.sh, .int .i64 c.p0, .int .i64 c.p1, .int .i64 c.p2, .int .i64 c.cy, .int .i64 c.ex, .int .i64 c.fi, .int .i64 c.la, .int .i64 c.po] 24)
  replace T := T.alloc (.cells #[.string c.nm, .int .i64 c.k, .int .i64 c.d, .int .i64 c.m, .int .i64 c.s, .int .i64 c.sh, .int .i64 c.p0, .int .i64 c.p1, .int .i64 c.p2, .int .i64 c.cy, .int .i64 c.ex, .int .i64 c.fi, .int .i64 c.la, .int .i64 c.po] 24)
  have ck := fun w T => Check_any c 0 w (.inl ⟨ok, rfl⟩) hm T
  have cy := fun w => isServed_any c y true w (decide_eq_true sy).symm
  have ct := fun w => isServed_any c t true w (decide_eq_true st).symm
  have by' := served_told ok sy
  have d6 : (c.k == 6) = false := beq_eq_false_iff_ne.2 k6
  obtain ⟨n, hn⟩ : ∃ n, n = nweeks c y := ⟨_, rfl⟩
  have cn := fun w T => weeksOf_any c y n w ok k6 (by omega) (by omega) hn hm T
  rw [← hn] at nx
  by_cases x0 : x < 1
  · clear ok k6 sy st hn by' nx cn
    go_enter Tryd.func56, Tryd.ntmps56
    go_upto_region 1 with fail
    generalize w.alloc (.cells #[.string c.nm, .int .i64 c.k, .int .i64 c.d, .int .i64 c.m, .int .i64 c.s, .int .i64 c.sh, .int .i64 c.p0, .int .i64 c.p1, .int .i64 c.p2, .int .i64 c.cy, .int .i64 c.ex, .int .i64 c.fi, .int .i64 c.la, .int .i64 c.po] 24) = W0 at *
    obtain ⟨_, c0, c1, c2, c3, c4, c5, c6, c7, c8, c9, c10, c11, c12, c13⟩ := id C
    go_wp2_with fail
    refine (ck _ T).mono ?_
    rintro e w1 ⟨rfl, hb⟩
    replace C := C.kept hb
    replace B := bthen B hb
    replace T := T.kept hb
    clear hb c0 c1 c2 c3 c4 c5 c6 c7 c8 c9 c10 c11 c12 c13
    obtain ⟨_, c0, c1, c2, c3, c4, c5, c6, c7, c8, c9, c10, c11, c12, c13⟩ := id C
    go_wp2_with fail
    refine (cy _).mono ?_
    rintro e w2 ⟨rfl, hb⟩
    replace C := C.kept hb
    replace B := bthen B hb
    replace T := T.kept hb
    clear hb c0 c1 c2 c3 c4 c5 c6 c7 c8 c9 c10 c11 c12 c13
    obtain ⟨_, c0, c1, c2, c3, c4, c5, c6, c7, c8, c9, c10, c11, c12, c13⟩ := id C
    go_wp2_with fail
    refine (ct _).mono ?_
    rintro e w3 ⟨rfl, hb⟩
    replace C := C.kept hb
    replace B := bthen B hb
    replace T := T.kept hb
    clear hb c0 c1 c2 c3 c4 c5 c6 c7 c8 c9 c10 c11 c12 c13
    obtain ⟨_, c0, c1, c2, c3, c4, c5, c6, c7, c8, c9, c10, c11, c12, c13⟩ := id C
    go_wp2
    go_ret2
    exact ⟨rfl, B⟩
  · have x1 : n < x := by omega
    clear ok k6 sy st hn by' nx
    go_enter Tryd.func56, Tryd.ntmps56
    go_upto_region 1 with fail
    generalize w.alloc (.cells #[.string c.nm, .int .i64 c.k, .int .i64 c.d, .int .i64 c.m, .int .i64 c.s, .int .i64 c.sh, .int .i64 c.p0, .int .i64 c.p1, .int .i64 c.p2, .int .i64 c.cy, .int .i64 c.ex, .int .i64 c.fi, .int .i64 c.la, .int .i64 c.po] 24) = W0 at *
    obtain ⟨_, c0, c1, c2, c3, c4, c5, c6, c7, c8, c9, c10, c11, c12, c13⟩ := id C
    go_wp2_with fail
    refine (ck _ T).mono ?_
    rintro e w4 ⟨rfl, hb⟩
    replace C := C.kept hb
    replace B := bthen B hb
    replace T := T.kept hb
    clear hb c0 c1 c2 c3 c4 c5 c6 c7 c8 c9 c10 c11 c12 c13
    obtain ⟨_, c0, c1, c2, c3, c4, c5, c6, c7, c8, c9, c10, c11, c12, c13⟩ := id C
    go_wp2_with fail
    refine (cy _).mono ?_
    rintro e w5 ⟨rfl, hb⟩
    replace C := C.kept hb
    replace B := bthen B hb
    replace T := T.kept hb
    clear hb c0 c1 c2 c3 c4 c5 c6 c7 c8 c9 c10 c11 c12 c13
    obtain ⟨_, c0, c1, c2, c3, c4, c5, c6, c7, c8, c9, c10, c11, c12, c13⟩ := id C
    go_wp2_with fail
    refine (ct _).mono ?_
    rintro e w6 ⟨rfl, hb⟩
    replace C := C.kept hb
    replace B := bthen B hb
    replace T := T.kept hb
    clear hb c0 c1 c2 c3 c4 c5 c6 c7 c8 c9 c10 c11 c12 c13
    obtain ⟨_, c0, c1, c2, c3, c4, c5, c6, c7, c8, c9, c10, c11, c12, c13⟩ := id C
    go_wp2_with fail
    refine (cn _ T).mono ?_
    rintro e w7 ⟨rfl, hb⟩
    replace C := C.kept hb
    replace B := bthen B hb
    replace T := T.kept hb
    clear hb c0 c1 c2 c3 c4 c5 c6 c7 c8 c9 c10 c11 c12 c13
    obtain ⟨_, c0, c1, c2, c3, c4, c5, c6, c7, c8, c9, c10, c11, c12, c13⟩ := id C
    go_wp2
    go_ret2
    exact ⟨rfl, B⟩

set_option maxRecDepth 100000 in
theorem week_no (c : CalZ) (y t x : Int) (w : World) (h : (CalOk c ∧ c.k = 6) ∨ ¬ CalOk c) (hm : c.nm.size ≤ maxLen) (T : FTab w) :
    Calls Tryd.prog 56 #[.agg #[.string c.nm, .int .i64 c.k, .int .i64 c.d, .int .i64 c.m, .int .i64 c.s, .int .i64 c.sh, .int .i64 c.p0, .int .i64 c.p1, .int .i64 c.p2, .int .i64 c.cy, .int .i64 c.ex, .int .i64 c.fi, .int .i64 c.la, .int .i64 c.po], .int .i64 y, .int .i64 t, .int .i64 x] w fun e w' => e = .returned (.tuple #[.int .i64 0, .int .i64 1]) ∧ Below w.heap.size w w' := by
  have C := CalIn.new w c 24
  have B := balloc (Below.refl _ w) (.cells #[.string c.nm, .int .i64 c.k, .int .i64 c.d, .int .i64 c.m, .int .i64 c.s, .int .i64 c.sh, .int .i64 c.p0, .int .i64 c.p1, .int .i64 c.p2, .int .i64 c.cy, .int .i64 c.ex, .int .i64 c.fi, .int .i64 c.la, .int .i64 c.po] 24)
  replace T := T.alloc (.cells #[.string c.nm, .int .i64 c.k, .int .i64 c.d, .int .i64 c.m, .int .i64 c.s, .int .i64 c.sh, .int .i64 c.p0, .int .i64 c.p1, .int .i64 c.p2, .int .i64 c.cy, .int .i64 c.ex, .int .i64 c.fi, .int .i64 c.la, .int .i64 c.po] 24)
  rcases h with ⟨ok, k6⟩ | no
  · have ck := fun w T => Check_any c 0 w (.inl ⟨ok, rfl⟩) hm T
    have d6 : (c.k == 6) = true := by rw [k6]; rfl
    clear ok k6
    go_enter Tryd.func56, Tryd.ntmps56
    go_upto_region 1 with fail
    generalize w.alloc (.cells #[.string c.nm, .int .i64 c.k, .int .i64 c.d, .int .i64 c.m, .int .i64 c.s, .int .i64 c.sh, .int .i64 c.p0, .int .i64 c.p1, .int .i64 c.p2, .int .i64 c.cy, .int .i64 c.ex, .int .i64 c.fi, .int .i64 c.la, .int .i64 c.po] 24) = W0 at *
    obtain ⟨_, c0, c1, c2, c3, c4, c5, c6, c7, c8, c9, c10, c11, c12, c13⟩ := id C
    go_wp2_with fail
    refine (ck _ T).mono ?_
    rintro e w1 ⟨rfl, hb⟩
    replace C := C.kept hb
    replace B := bthen B hb
    replace T := T.kept hb
    clear hb c0 c1 c2 c3 c4 c5 c6 c7 c8 c9 c10 c11 c12 c13
    obtain ⟨_, c0, c1, c2, c3, c4, c5, c6, c7, c8, c9, c10, c11, c12, c13⟩ := id C
    go_wp2
    go_ret2
    exact ⟨rfl, B⟩
  · have ck := fun w T => Check_any c 1 w (.inr ⟨no, rfl⟩) hm T
    clear no
    go_enter Tryd.func56, Tryd.ntmps56
    go_upto_region 1 with fail
    generalize w.alloc (.cells #[.string c.nm, .int .i64 c.k, .int .i64 c.d, .int .i64 c.m, .int .i64 c.s, .int .i64 c.sh, .int .i64 c.p0, .int .i64 c.p1, .int .i64 c.p2, .int .i64 c.cy, .int .i64 c.ex, .int .i64 c.fi, .int .i64 c.la, .int .i64 c.po] 24) = W0 at *
    obtain ⟨_, c0, c1, c2, c3, c4, c5, c6, c7, c8, c9, c10, c11, c12, c13⟩ := id C
    go_wp2_with fail
    refine (ck _ T).mono ?_
    rintro e w2 ⟨rfl, hb⟩
    replace C := C.kept hb
    replace B := bthen B hb
    replace T := T.kept hb
    clear hb c0 c1 c2 c3 c4 c5 c6 c7 c8 c9 c10 c11 c12 c13
    obtain ⟨_, c0, c1, c2, c3, c4, c5, c6, c7, c8, c9, c10, c11, c12, c13⟩ := id C
    go_wp2
    go_ret2
    exact ⟨rfl, B⟩

theorem Week_any (c : CalZ) (y t x v er : Int) (w : World) (R : CWeekA c y t x v er) (hm : c.nm.size ≤ maxLen) (T : FTab w) :
    Calls Tryd.prog 56 #[.agg #[.string c.nm, .int .i64 c.k, .int .i64 c.d, .int .i64 c.m, .int .i64 c.s, .int .i64 c.sh, .int .i64 c.p0, .int .i64 c.p1, .int .i64 c.p2, .int .i64 c.cy, .int .i64 c.ex, .int .i64 c.fi, .int .i64 c.la, .int .i64 c.po], .int .i64 y, .int .i64 t, .int .i64 x] w fun e w' => e = .returned (.tuple #[.int .i64 v, .int .i64 er]) ∧ Below w.heap.size w w' := by
  rcases R with ⟨ok, k6, sy, st, x0, x1, P⟩ | ⟨ok, k6, ns, rfl, rfl⟩ | ⟨ok, k6, sy, st, nx, rfl, rfl⟩ | ⟨ok, k6, rfl, rfl⟩ | ⟨no, rfl, rfl⟩
  · rcases P with ⟨po, hv, rfl⟩ | ⟨po, hv, rfl⟩ | ⟨po, D⟩
    · exact week_1 c y t x v hv w ok k6 sy st x0 x1 po hm T
    · exact week_2 c y t x v hv w ok k6 sy st x0 x1 po hm T
    · exact week_3 c y t x v er D w ok k6 sy st x0 x1 po hm T
  · exact week_ns c y t x w ok k6 ns hm T
  · exact week_nx c y t x w ok k6 sy st nx hm T
  · exact week_no c y t x w (.inl ⟨ok, k6⟩) hm T
  · exact week_no c y t x w (.inr no) hm T

end Go.Proofs.YtmagdlcikcgelaaDoor.Mp
